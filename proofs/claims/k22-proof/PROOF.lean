import PyProof.Rows.All
import Wide.All
import OpenK.AllK
import Wide.FinOn
import Lean
import PyProof.EqAt
import PyProof.EqKinds
import PyProof.TupleCall
import PySem.Challenge.RW_twomarks_k22_costs_of_a_paper
set_option Elab.async false
set_option linter.all false
set_option maxRecDepth 100000
set_option maxHeartbeats 0
noncomputable abbrev My.vw : PySem.Program := PySem.W.view
  PySem.Challenge.rw_twomarks_k22_costs_of_a_paper.row.prog [1, 2, 4, 5, 7, 8, 9, 11, 12, 13, 14, 15, 16, 17, 18, 19, 20, 21, 22, 23, 24, 25, 27, 28, 29, 31, 32, 33, 34, 35, 37, 38, 39, 40, 41, 42, 43, 44, 45, 46, 47, 48, 49, 50, 51, 52, 53, 54, 55, 56]
local macro_rules
  | `(tactic| o_head $H:term) => `(tactic| (
    refine PySem.W.holds_open (q := My.vw) (loose := [])
      (Xt := fun s => PySem.W.xlAt My.vw [] s && PySem.W.recOk
        (PySem.W.RowW.records PySem.Challenge.rw_twomarks_k22_costs_of_a_paper.row.toRowW) s)
      (XP := PySem.W.XL My.vw []) (Yf := ($H).obs)
      (Ya := ($H).val) (YP := ($H).says) (N := 20000) ?hl
      ($H).of ($H).keeps (fun s e => PySem.W.xl_of s
        (Bool.and_eq_true_iff.mp e).1) PySem.W.XL.keeps
      (by rfl) (by rfl) (by rfl)
      (fun s e => PySem.W.recFacts_of
        (Bool.and_eq_true_iff.mp e).2)
      (by rfl) (by assumption) (by decide +kernel)
      ⟨rfl, rfl, rfl, rfl, rfl, by decide +kernel⟩ ?hw ?hc
    (case hl => intro w; kernel_rfl)))
open_top My.hd for PySem.Challenge.rw_twomarks_k22_costs_of_a_paper
set_option maxHeartbeats 200000
set_option Elab.async false
set_option linter.all false
set_option maxRecDepth 100000
namespace L2
open PySem PySem.Spec PyProof.Rows
noncomputable abbrev Key:=Sum Int Str
noncomputable def keyIs:Key→Value→Bool
  | .inl k,v=>Value.isInt k v
  | .inr x,v=>Value.isStrOf x v
noncomputable def keyH (w:World):Key→Int
  | .inl k=>hashInt k
  | .inr x=>hashStr w x
theorem keyIs_shape:∀ {k:Key} {v:Value},keyIs k v=true→(∃ i t,k=Sum.inl i∧v=Value.int i t)∨(∃ x t,k=Sum.inr x∧v=Value.str x t)
  | .inl i,v,h=>by
    obtain ⟨t,e⟩:=Value.isInt_shape (k:=i) (v:=v) h
    exact .inl ⟨i,t,rfl,e⟩
  | .inr x,v,h=>by
    obtain ⟨t,e⟩:=Value.isStrOf_shape (x:=x) (v:=v) h
    exact .inr ⟨x,t,rfl,e⟩
theorem keyIs_int (i:Int) (t:Tok):keyIs (.inl i) (.int i t)=true:=by simp [keyIs,Value.isInt]
theorem keyIs_str (x:Str) (t:Tok):keyIs (.inr x) (.str x t)=true:=by simp [keyIs,Value.isStrOf]
theorem key_ll (a b:Int):decide ((Sum.inl a:Key)=Sum.inl b)=(a == b):=by
  by_cases e:a=b
  · subst e; simp
  · have h:¬ (Sum.inl a:Key)=Sum.inl b:=fun q=>e (Sum.inl.inj q)
    rw [decide_eq_false h]
    exact (beq_eq_false_iff_ne.mpr e).symm
theorem key_rr (a b:Str):decide ((Sum.inr a:Key)=Sum.inr b)=decide (a=b):=by
  by_cases e:a=b
  · subst e; simp
  · have h:¬ (Sum.inr a:Key)=Sum.inr b:=fun q=>e (Sum.inr.inj q)
    rw [decide_eq_false h,decide_eq_false e]
theorem key_lr (a:Int) (b:Str):decide ((Sum.inl a:Key)=Sum.inr b)=false:=decide_eq_false (fun q=>nomatch q)
theorem key_rl (a:Str) (b:Int):decide ((Sum.inr a:Key)=Sum.inl b)=false:=decide_eq_false (fun q=>nomatch q)

noncomputable def mixKind (prog:Program) (w:World):PySem.KeyKind prog w Key where
  is:=keyIs
  hash:=keyH w
  inj:=fun v a b ha hb=>by
    rcases keyIs_shape ha with ⟨i,t,rfl,rfl⟩ | ⟨x,t,rfl,rfl⟩
    · rcases keyIs_shape hb with ⟨j,u,rfl,e⟩ | ⟨y,u,rfl,e⟩
      · injection e with e1 _; rw [e1]
      · exact nomatch e
    · rcases keyIs_shape hb with ⟨j,u,rfl,e⟩ | ⟨y,u,rfl,e⟩
      · exact nomatch e
      · injection e with e1 _; rw [e1]
  byValue:=fun k v h=>by
    rcases keyIs_shape h with ⟨i,t,rfl,rfl⟩ | ⟨x,t,rfl,rfl⟩ <;> rfl
  pyHash:=fun hv h=>by
    rcases keyIs_shape hv with ⟨i,t,rfl,rfl⟩ | ⟨x,t,rfl,rfl⟩
    · exact wpAny_pyHash_int h
    · exact wpAny_pyHash_str h
  eqBool:=fun hu hv h=>by
    rcases keyIs_shape hu with ⟨i,t,rfl,rfl⟩ | ⟨x,t,rfl,rfl⟩
    · rcases keyIs_shape hv with ⟨j,u,rfl,rfl⟩ | ⟨y,u,rfl,rfl⟩
      · rw [key_ll] at h; exact wpAny_eqBool_int h
      · rw [key_lr] at h; exact SeqAt.EqAt.int_str i t y u _ _ _ _ h
    · rcases keyIs_shape hv with ⟨j,u,rfl,rfl⟩ | ⟨y,u,rfl,rfl⟩
      · rw [key_rl] at h; exact SeqAt.EqAt.str_int x t j u _ _ _ _ h
      · rw [key_rr] at h; exact wpAny_eqBool_str h
  «strs»:=fun k x t v h=>by
    rcases keyIs_shape h with ⟨i,u,rfl,e⟩ | ⟨y,u,rfl,e⟩
    · exact nomatch e
    · injection e with e1 _
      subst e1
      cases v <;> rfl

theorem mixKind_int (prog:Program) (w:World) (i:Int) (t:Tok):(mixKind prog w).is (.inl i) (.int i t)=true:=keyIs_int i t
theorem mixKind_str (prog:Program) (w:World) (x:Str) (t:Tok):(mixKind prog w).is (.inr x) (.str x t)=true:=keyIs_str x t
end L2
namespace L2
open PySem PySem.Spec PyProof.Rows
inductive V where
  | non | bl (b:Bool) | int (i:Int) | str (x:Str) | byt (b:Array UInt8) | flt (b:UInt64) | ref (a:Addr) | ty (n:String)
  deriving DecidableEq

noncomputable def RelV:V→Value→Prop
  | .non,u=>u=Value.none
  | .bl b,u=>u=Value.bool b
  | .int i,u=>∃ t,u=Value.int i t
  | .str x,u=>∃ t,u=Value.str x t
  | .byt b,u=>∃ t,u=Value.bytes b t
  | .flt b,u=>∃ t,u=Value.float b t
  | .ref a,u=>u=Value.ref a
  | .ty n,u=>u=Value.type n

noncomputable abbrev Vals:List V→List Value→Prop:=Paired RelV
theorem Vals.length {xs:List V} {us:List Value} (r:Vals xs us):xs.length=us.length:=Paired.length r
theorem Vals.get {xs:List V} {us:List Value} {i:Nat} {x:V} (h:Vals xs us) (e:xs[i]?=some x):∃ u,us[i]?=some u∧RelV x u:=by
  induction h generalizing i with
  | nil=>cases e
  | cons r t ih=>cases i with | zero=>cases e; exact ⟨_,rfl,r⟩ | succ i=>exact ih (i:=i) e
theorem Vals.set {x:V} {u:Value} (r:RelV x u) {xs:List V} {us:List Value} (i:Nat) (h:Vals xs us):Vals (xs.set i x) (us.set i u):=by
  induction h generalizing i with
  | nil=>exact .nil
  | cons q t ih=>cases i with | zero=>exact .cons r t | succ i=>exact .cons q (ih i)
theorem Vals.append {xs ys:List V} {us ws:List Value} (h:Vals xs us) (s:Vals ys ws):Vals (xs++ys) (us++ws):=by
  induction h with
  | nil=>exact s
  | cons r t ih=>exact .cons r ih
theorem Vals.take {xs:List V} {us:List Value} (n:Nat) (h:Vals xs us):Vals (xs.take n) (us.take n):=by
  induction h generalizing n with
  | nil=>rw [List.take_nil,List.take_nil]; exact .nil
  | cons r t ih=>cases n with | zero=>exact .nil | succ n=>exact .cons r (ih n)
theorem Vals.drop {xs:List V} {us:List Value} (n:Nat) (h:Vals xs us):Vals (xs.drop n) (us.drop n):=by
  induction h generalizing n with
  | nil=>rw [List.drop_nil,List.drop_nil]; exact .nil
  | cons r t ih=>cases n with | zero=>exact .cons r t | succ n=>exact ih n
theorem Vals.none_of:∀ {xs:List V} {us:List Value} {i:Nat},Vals xs us→xs[i]?=none→us[i]?=none:=fun {xs us i} r e=>by
  have h1:=r.length
  have h2:xs.length≤i:=List.getElem?_eq_none_iff.mp e
  exact List.getElem?_eq_none_iff.mpr (by omega)

noncomputable def RelO:Option V→Option Value→Prop
  | some v,some u=>RelV v u
  | none,none=>True
  | _,_=>False
noncomputable def KV {κ:Type}:List (κ×V)→List (κ×Value)→Prop:=Paired fun (p:κ×V) (q:κ×Value)=>p.1=q.1∧RelV p.2 q.2

noncomputable def kV:Key→V
  | .inl i=>.int i
  | .inr x=>.str x

inductive HO where
  /-- a list -/
  | lst (xs:List V)
  /-- a tuple (never changes) -/
  | tup (xs:List V)
  /-- a dict whose keys are ints and texts; one whose keys are tuples of ints and texts (the empty one is both) -/
  | dK (kvs:List (Key×V)) | dT (kvs:List (List Key×V))
  /-- a set of ints: its members,its size -/
  | set (S:Int→Bool) (n:Nat)
  /-- an instance of the class at C,its dict at dx,its attributes -/
  | ins (C dx:Addr) (fs:List (Str×V))
  /-- the dict of the instance at x -/
  | own (x:Addr)
  /-- the dict of an exception -/
  | xd (fs:List (Str×V))
  /-- a bound method,f of x -/
  | met (f x:Addr)
  /-- a range object lo,lo+1,.. below hi -/
  | rng (lo hi:Int)
  /-- a thing that is known to the object (the script; a dict while a loop walks it): read,never written while it is so -/
  | frz (o:Obj) (u:HO)
  /-- a code object's table -/
  | tbl (ps:Array Value)
  /-- any other thing,by what is true of its one object (a def of one's own: SetO a S n:=HO.ext fun h=>..) -/
  | ext (φ:Heap→Prop)

noncomputable abbrev Hp:=Addr→Option HO
noncomputable def upd (H:Hp) (a:Addr) (o:HO):Hp:=fun b=>if b=a then some o else H b
theorem upd_same {H:Hp} {a:Addr} {o:HO}:upd H a o a=some o:=by unfold upd; rw [if_pos rfl]
theorem upd_ne {H:Hp} {a b:Addr} {o:HO} (h:b≠a):upd H a o b=H b:=by unfold upd; rw [if_neg h]
theorem ne_of {H:Hp} {a b:Addr} {o u:HO} (h:H a=some o) (h':H b=some u) (d:o≠u):a≠b:=by
  intro e; subst e; rw [h] at h'; exact d (Option.some.inj h')
theorem ne_of_none {H:Hp} {a b:Addr} {o:HO} (h:H a=some o) (h':H b=none):a≠b:=by
  intro e; subst e; rw [h] at h'; cases h'

section
variable (P:Program) (w:World)
noncomputable def ObjOk (H:Hp) (h:Heap) (a:Addr):HO→Prop
  | .lst xs=>xs.length≤sizeLine∧∃ (its:List Value) (n:Nat),Vals xs its∧h.get? a=some { cls:=.type "list",data:=.seq its.toArray n }
  | .tup xs=>xs.length≤sizeLine∧∃ its:List Value,Vals xs its∧IsTup h a its.toArray
  | .dK kvs=>kvs.length≤sizeLine∧(a == sysModules)=false∧∃ vs,KV kvs vs∧h.DictOf (mixKind P w) a vs
  | .dT kvs=>kvs.length≤sizeLine∧(a == sysModules)=false∧∃ xs:List (List Key×Addr×Value),
      Paired (fun (p:List Key×V) (q:List Key×Addr×Value)=>p.1=q.1∧H q.2.1=some (.tup (p.1.map kV))∧RelV p.2 q.2.2) kvs xs ∧
      ∃ o es ep,h.get? a=some o∧o.ExactDict∧o.data=.dict es ep∧es.toList=xs.map (entryOfKey (tupleKind (mixKind P w)))∧(xs.map (·.1)).Nodup
  | .set S n=>h.SetOf (intKind P w) a S n
  | .ins C dx fs=>H dx=some (.own a)∧fs.length≤1000∧dx≠a∧h.get? a=some (PySem.W.instObj C dx) ∧
      ∃ mA,h.Ns1 dx mA∧(∀ f,RelO (fs.lookup f) (mA f))∧PySem.Within mA (fs.map (·.1))
  | .own _=>∃ o,h.get? a=some o
  | .xd fs=>∃ mA,h.Ns1 a mA∧∀ f,RelO (fs.lookup f) (mA f)
  | .rng lo hi=>∃ t u v,h.get? a=some { cls:=.type "range",data:=.fields #[.int lo t,.int hi u,.int 1 v] }
  | .frz o u=>h.get? a=some o∧ObjOk H h a u
  | .tbl ps=>h.get? a=some { cls:=.none,data:=.fields ps }
  | .met f x=>h.get? a=some (PySem.W.methodObj (.ref f) (.ref x))
  | .ext φ=>φ h∧(∃ o,h.get? a=some o)∧∀ h1 h2:Heap,φ h1→(∀ o,h1.get? a=some o→h2.get? a=some o)→φ h2
noncomputable def HOk (H:Hp) (h:Heap):Prop:=∀ a o,H a=some o→ObjOk P w H h a o
end
section
variable {P:Program} {w:World} {H H':Hp} {h h':Heap} {a:Addr} {o:HO}
theorem ObjOk.lt (x:ObjOk P w H h a o):a < h.objs.size:=by
  cases o with
  | lst xs=>obtain ⟨_,_,_,_,e⟩:=x; exact Heap.lt_size e
  | tup xs=>obtain ⟨_,_,_,p⟩:=x; exact p.lt
  | dK kvs=>obtain ⟨_,_,_,_,o,_,_,e,_⟩:=x; exact Heap.lt_size e
  | dT kvs=>obtain ⟨_,_,_,_,o,_,_,e,_⟩:=x; exact Heap.lt_size e
  | set S n=>obtain ⟨o,_,_,_,e,_⟩:=x; exact Heap.lt_size e
  | ins C dx fs=>obtain ⟨_,_,_,e,_⟩:=x; exact Heap.lt_size e
  | own y=>obtain ⟨_,e⟩:=x; exact Heap.lt_size e
  | xd fs=>obtain ⟨_,⟨_,_,_,e,_⟩,_⟩:=x; exact Heap.lt_size e
  | rng lo hi=>obtain ⟨_,_,_,e⟩:=x; exact Heap.lt_size e
  | frz ob u=>obtain ⟨e,_⟩:=x; exact Heap.lt_size e
  | tbl ps=>exact Heap.lt_size (show h.get? a=some _ from x)
  | met f y=>exact Heap.lt_size (show h.get? a=some _ from x)
  | ext φ=>obtain ⟨_,⟨_,e⟩,_⟩:=x; exact Heap.lt_size e
theorem Paired.mapP {α β:Type} {F G:α→β→Prop} {l₁:List α} {l₂:List β} (h:Paired F l₁ l₂) (f:∀ a b,F a b→G a b):Paired G l₁ l₂:=by
  induction h with
  | nil=>exact .nil
  | cons r t ih=>exact .cons (f _ _ r) ih
theorem ObjOk.stay (x:ObjOk P w H h a o) (k:∀ b u,(b=a∨H b=some (.own a))→h.get? b=some u→h'.get? b=some u)
    (ho:∀ b,H b=some (.own a)→H' b=some (.own a)) (ht:∀ b xs,H b=some (.tup xs)→H' b=some (.tup xs)):ObjOk P w H' h' a o:=by
  induction o with
  | lst xs=>obtain ⟨z,its,n,r,e⟩:=x; exact ⟨z,its,n,r,k _ _ (.inl rfl) e⟩
  | tup xs=>obtain ⟨z,its,r,ob,e,c⟩:=x; exact ⟨z,its,r,ob,k _ _ (.inl rfl) e,c⟩
  | dK kvs=>obtain ⟨z,y,vs,r,ob,es,ep,e,c⟩:=x; exact ⟨z,y,vs,r,ob,es,ep,k _ _ (.inl rfl) e,c⟩
  | dT kvs =>
    obtain ⟨z,y,xs,r,ob,es,ep,e,c⟩:=x
    exact ⟨z,y,xs,Paired.mapP r fun p q z=>⟨z.1,ht _ _ z.2.1,z.2.2⟩,ob,es,ep,k _ _ (.inl rfl) e,c⟩
  | set S n=>obtain ⟨ob,es,ep,t,e,c⟩:=x; exact ⟨ob,es,ep,t,k _ _ (.inl rfl) e,c⟩
  | ins C dx fs =>
    obtain ⟨d,z,ne,e,mA,⟨od,es,ep,e2,c⟩,r⟩:=x
    exact ⟨ho _ d,z,ne,k _ _ (.inl rfl) e,mA,⟨od,es,ep,k _ _ (.inr d) e2,c⟩,r⟩
  | own y=>obtain ⟨ob,e⟩:=x; exact ⟨ob,k _ _ (.inl rfl) e⟩
  | xd fs=>obtain ⟨mA,⟨od,es,ep,e,c⟩,r⟩:=x; exact ⟨mA,⟨od,es,ep,k _ _ (.inl rfl) e,c⟩,r⟩
  | rng lo hi=>obtain ⟨t,u,v,e⟩:=x; exact ⟨t,u,v,k _ _ (.inl rfl) e⟩
  | frz ob u ih=>obtain ⟨e,q⟩:=x; exact ⟨k _ _ (.inl rfl) e,ih q⟩
  | tbl ps =>
    have e:h.get? a=some { cls:=.none,data:=.fields ps }:=x
    show h'.get? a=some { cls:=.none,data:=.fields ps }
    exact k a _ (.inl rfl) e
  | met f y =>
    have e:h.get? a=some (PySem.W.methodObj (.ref f) (.ref y)):=x
    show h'.get? a=some (PySem.W.methodObj (.ref f) (.ref y))
    exact k a _ (.inl rfl) e
  | ext φ=>obtain ⟨p,⟨o,e⟩,st⟩:=x; exact ⟨st _ _ p fun o q=>k _ _ (.inl rfl) q,⟨o,k _ _ (.inl rfl) e⟩,st⟩
theorem HOk.lt (x:HOk P w H h) (e:H a=some o):a < h.objs.size:=(x a o e).lt
theorem HOk.fresh (x:HOk P w H h) (e:h.objs.size≤a):H a=none:=by
  cases q:H a with
  | none=>rfl
  | some u=>exact absurd (Nat.lt_of_lt_of_le (x.lt q) e) (Nat.lt_irrefl _)
theorem HOk.kept (x:HOk P w H h) (k:∀ b u,h.get? b=some u→h'.get? b=some u):HOk P w H h':=fun a o e =>
  (x a o e).stay (fun b u _ q=>k b u q) (fun _ q=>q) fun _ _ q=>q
theorem HOk.laid (x:HOk P w H h) (k:∀ b u,h.get? b=some u→h'.get? b=some u) (hp:h.objs.size≤a) (new:ObjOk P w (upd H a o) h' a o):HOk P w (upd H a o) h':=fun b u e=>by
  have hn:=x.fresh hp
  by_cases hb:b=a
  · subst hb; rw [upd_same] at e; cases e; exact new
  · rw [upd_ne hb] at e
    exact (x b u e).stay (fun c v _ q=>k c v q) (fun c q=>by rw [upd_ne (ne_of_none q hn)]; exact q) fun c xs q=>by rw [upd_ne (ne_of_none q hn)]; exact q
end
noncomputable def Rd (H:Hp) (a:Addr) (u:HO):Prop:=H a=some u∨∃ o,H a=some (.frz o u)
theorem Rd.ok {P:Program} {w:World} {H:Hp} {h:Heap} {a:Addr} {u:HO} (r:Rd H a u) (x:HOk P w H h):ObjOk P w H h a u:=by
  rcases r with r | ⟨o,r⟩
  · exact x a u r
  · obtain ⟨_,q⟩:=x a _ r
    exact q
noncomputable def Mut:Option HO→Prop
  | some (.lst _)=>True
  | some (.dK _)=>True
  | some (.dT _)=>True
  | some (.set _ _)=>True
  | some (.ins _ _ _)=>True
  | some (.ext _)=>True
  | _=>False
section
variable {P:Program} {w:World} {H:Hp} {h h':Heap} {x e:Addr} {o':HO}
theorem HOk.write (ok:HOk P w H h) (mu:Mut (H x)) (he:e=x∨H e=some (.own x)) (k:∀ b u,b≠e→h.get? b=some u→h'.get? b=some u) (heo:∃ u,h'.get? e=some u)
    (new:ObjOk P w (upd H x o') h' x o'):HOk P w (upd H x o') h':=fun b u q=>by
  have nown:∀ c y,H c=some (.own y)→c≠x:=fun c y r z=>by subst z; rw [r] at mu; exact mu
  have ntup:∀ c xs,H c=some (.tup xs)→c≠x:=fun c xs r z=>by subst z; rw [r] at mu; exact mu
  by_cases hb:b=x
  · subst hb; rw [upd_same] at q; cases q; exact new
  · rw [upd_ne hb] at q
    by_cases hbe:b=e
    · have q':H b=some (.own x):=by
        rcases he with z | z
        · exact absurd (hbe.trans z) hb
        · rw [hbe]; exact z
      rw [q] at q'; cases q'
      obtain ⟨v,hv⟩:=heo
      exact ⟨v,by rw [hbe]; exact hv⟩
    · refine (ok b u q).stay (fun c v hc r=>k c v ?_ r) (fun c r=>by rw [upd_ne (nown c b r)]; exact r) fun c xs r=>by rw [upd_ne (ntup c xs r)]; exact r
      rcases hc with rfl | hc
      · exact hbe
      · rintro rfl
        rcases he with z | z
        · exact nown c b hc z
        · rw [hc] at z; cases z; exact hb rfl
end
structure Un (fs ex:List Addr) (H H':Hp) (h h':Heap):Prop where
  keep:∀ b o,h.get? b=some o→H b=none→b ∉ fs→b ∉ ex→h'.get? b=some o
  slot:∀ b o,h.get? b=some o→H b=none→b∈fs→b ∉ ex→∃ sl,h'.get? b=some { o with slots:=sl }
  free:∀ b o,h.get? b=some o→H b=none→b ∉ ex→H' b=none
  there:∀ b o,h.get? b=some o→b ∉ ex→∃ o',h'.get? b=some o'
  tups:∀ b xs,H b=some (.tup xs)→H' b=some (.tup xs)
  frzs:∀ b o u,H b=some (.frz o u)→H' b=some (.frz o u)
  tbls:∀ b ps,H b=some (.tbl ps)→∃ more,H' b=some (.tbl (ps++more))
section
variable {fs fs' ex ex':List Addr} {H H1 H2:Hp} {h h1 h2 h':Heap} {a x e:Addr} {o:HO}
theorem Un.any (u:Un fs ex H H1 h h1) {b:Addr} {ob:Obj} (q:h.get? b=some ob) (n:H b=none) (hx:b ∉ ex):∃ sl,h1.get? b=some { ob with slots:=sl }:=by
  by_cases hb:b∈fs
  · exact u.slot b ob q n hb hx
  · exact ⟨ob.slots,u.keep b ob q n hb hx⟩
theorem Un.kept (k:∀ b u,h.get? b=some u→h'.get? b=some u):Un fs ex H H h h' :=
  ⟨fun b ob q _ _ _=>k b ob q,fun b ob q _ _ _=>⟨ob.slots,k b ob q⟩,fun _ _ _ n _=>n,fun b ob q _=>⟨ob,k b ob q⟩,fun _ _ q=>q,fun _ _ _ q=>q,fun _ ps q=>⟨#[],by rw [q]; simp⟩⟩
theorem Un.refl:Un fs ex H H h h:=Un.kept fun _ _ q=>q
theorem Un.laid (k:∀ b u,h.get? b=some u→h'.get? b=some u) (hp:h.objs.size≤a) (hn:H a=none):Un fs ex H (upd H a o) h h' where
  keep:=fun b u q _ _ _=>k b u q
  slot:=fun b u q _ _ _=>⟨u.slots,k b u q⟩
  free:=fun b u q n _=>by rw [upd_ne (Nat.ne_of_lt (Nat.lt_of_lt_of_le (Heap.lt_size q) hp))]; exact n
  there:=fun b u q _=>⟨u,k b u q⟩
  tups:=fun b xs q=>by rw [upd_ne (ne_of_none q hn)]; exact q
  frzs:=fun b u xs q=>by rw [upd_ne (ne_of_none q hn)]; exact q
  tbls:=fun b ps q=>⟨#[],by rw [upd_ne (ne_of_none q hn),q]; simp⟩
theorem Un.write (mu:Mut (H x)) (he:e=x∨H e=some (.own x)) (k:∀ b u,b≠e→h.get? b=some u→h'.get? b=some u) (heo:∃ u,h'.get? e=some u):Un fs ex H (upd H x o) h h':=by
  have hx:∀ b,H b=none→b≠x:=fun b n z=>by subst z; rw [n] at mu; exact mu
  have hb:∀ b,H b=none→b≠e:=fun b n z=>by
    subst z
    rcases he with r | r
    · exact hx b n r
    · rw [n] at r; cases r
  have hm:∀ b u,H b=some u→¬ Mut (some u)→b≠x:=fun b u q nm z=>by subst z; rw [q] at mu; exact nm mu
  refine ⟨fun b u q n _ _=>k b u (hb b n) q,fun b u q n _ _=>⟨u.slots,k b u (hb b n) q⟩,fun b u q n _=>by rw [upd_ne (hx b n)]; exact n,fun b u q _=>?_,
    fun b xs q=>by rw [upd_ne (hm b _ q fun z=>z)]; exact q,fun b u xs q=>by rw [upd_ne (hm b _ q fun z=>z)]; exact q,fun b ps q=>⟨#[],by rw [upd_ne (hm b _ q fun z=>z),q]; simp⟩⟩
  by_cases hbe:b=e
  · subst hbe; exact heo
  · exact ⟨u,k b u hbe q⟩
end
noncomputable def trk (h:Heap) (H:Hp):List Addr:=(List.range h.objs.size).filter fun a=>(H a).isSome
noncomputable def hidT (h:Heap) (H:Hp):Heap:=PySem.W.hideAll h (trk h H)
theorem hidT_size (h:Heap) (H:Hp):(hidT h H).objs.size=h.objs.size:=PySem.W.hideAll_size _ _
theorem hidT_get {h:Heap} {H:Hp} {b:Addr} {o:Obj} (e:h.get? b=some o) (n:H b=none):(hidT h H).get? b=some o :=
  PySem.W.hideAll_get _ e fun hm=>by
    have q:(H b).isSome=true:=(List.mem_filter.mp hm).2
    rw [n] at q; simp at q
theorem of_hidT {h:Heap} {H:Hp} {b:Addr} {o:Obj} (e:(hidT h H).get? b=some o):h.get? b=some o∧H b=none:=by
  have e':h.get? b=some o:=PySem.W.of_hideAll (trk h H) e
  refine ⟨e',?_⟩
  cases q:H b with
  | none=>rfl
  | some x =>
    have hm:b∈trk h H:=List.mem_filter.mpr ⟨List.mem_range.mpr (Heap.lt_size e'),by simp [q]⟩
    have z:(hidT h H).get? b=none:=PySem.W.hideAll_none (trk h H) hm
    rw [z] at e; cases e

noncomputable def allNews (g h:Heap) (L:Addr):List (Addr×Obj):=(List.range h.objs.size).filterMap fun a=>if a=L∨(g.get? a).isSome=true then none else (h.get? a).map fun o=>(a,o)
noncomputable def rest (g h:Heap) (L d:Addr):List (Addr×Obj):=(allNews g h L).filter fun p=>decide (p.1≠d)
end L2
namespace L2
open PySem PySem.Spec PyProof.Rows
structure Mod (K:PySem.W.Frag) (mg:Str→Option Value) (base:Heap):Prop where
  kin:K.In base
  glob:base.Ns mainGlobals mg
  blt:∃ mb,base.Ns builtinsNs mb∧∀ x:Str,x≠"__name__"→mb x=bootBuiltins x
  nolimit:base.NoLimit
  nodig:base.NoDigits

structure Cx where
  prog:Program
  w:World
  K:PySem.W.Frag
  mg:Str→Option Value
  base:Heap
  A:Around
  N:List Str
  s₀:Shared
  H₀:Hp
  env:Env
  outer:List Env
  stack:List Env
  ex:List Addr
  fn:Str→Bool
  calm:Bool
  pn:List (Addr×Obj)
  xe:Value→Shared→Prop
noncomputable def frs (l:List Env):List Addr:=l.filterMap (·.frame)
noncomputable abbrev Cx.fs (X:Cx):List Addr:=frs X.outer

noncomputable def Vis (sc:Scope) (x:Str):Prop:=sc.names.lookup x=some .local∨sc.names.lookup x=some .cell∨sc.names.lookup x=some .free
noncomputable def Loc (sc:Scope) (x:Str):Prop:=sc.names.lookup x=some .local∨sc.names.lookup x=some .cell
noncomputable def Look (env:Env) (h:Heap) (m:Str→Option Value) (x:Str) (u:Value):Prop :=
  (env.kindOf x=some .local∧m x=some u)∨((env.kindOf x=some .cell∨env.kindOf x=some .free)∧∃ c,env.cells.lookup x=some c∧h.IsCell c (some u))

structure Cx.Ok (X:Cx):Prop where
  mod:Mod X.K X.mg X.base
  kind:X.env.scope.kind=.function
  glob:X.env.globals=mainGlobals
  blt:X.env.builtins=builtinsNs
  above:X.s₀.heap.objs.size≤X.env.locals
  inj:∀ x y c,X.env.cells.lookup x=some c→X.env.cells.lookup y=some c→x=y
  has:∀ x,(X.env.kindOf x=some .cell∨X.env.kindOf x=some .free)→∃ c,X.env.cells.lookup x=some c
  cab:∀ x c,X.fn x=true→X.env.cells.lookup x=some c→X.s₀.heap.objs.size≤c
  hd:X.calm=true→X.A.handled=none
  frames:X.A.frames=some X.stack
  stk:X.stack=X.outer∨(X.stack=X.env::X.outer∧X.env.frame=some X.env.locals)
  exf:∀ b∈X.ex,b≠X.env.locals∧∀ x c,X.env.cells.lookup x=some c→c≠b
  bs:∀ b o,X.base.get? b=some o→X.s₀.heap.get? b=some o∧X.H₀ b=none
  bsz:X.base.objs.size≤X.s₀.heap.objs.size
  noex:∀ b o,X.base.get? b=some o→b ∉ X.ex
  exfs:∀ b∈X.ex,b ∉ X.fs
  funs:X.s₀.heap.FunFrames X.base X.outer
  frf:∀ b∈X.fs,X.H₀ b=none

structure Inv (X:Cx) (pins:List (Addr×Obj)) (σ:List (Option V)) (H:Hp) (s:Shared):Prop where
  ok:X.Ok
  os:s.os=X.s₀.os
  bare:AllBare s.gens
  base:Un X.fs X.ex X.H₀ H X.s₀.heap s.heap
  loc:∃ m,s.heap.Ns X.env.locals m∧∀ (i:Nat) (x:Str) (v:V),X.N[i]?=some x→σ[i]?=some (some v)→Vis X.env.scope x→∃ u,RelV v u∧Look X.env s.heap m x u
  cell:∀ x c,X.env.cells.lookup x=some c→∃ v,s.heap.IsCell c v
  free:H X.env.locals=none
  freeC:∀ x c,X.env.cells.lookup x=some c→H c=none
  pin:∀ p∈X.pn++pins,s.heap.get? p.1=some p.2∧H p.1=none∧p.1≠X.env.locals∧p.1 ∉ X.fs∧∀ v,p.2.data≠.cell v
  hok:HOk X.prog X.w H s.heap
  len:σ.length=X.N.length

section
variable {X:Cx} {pins:List (Addr×Obj)} {σ:List (Option V)} {H H':Hp} {s:Shared} {h':Heap}
theorem Cx.Ok.nofr (ok:X.Ok) {b:Addr} {o:Obj} (e:X.base.get? b=some o):b ∉ X.fs:=fun hb=>by
  have:=(ok.funs.mem hb).1
  rw [e] at this; cases this
theorem Inv.bs (I:Inv X pins σ H s):∀ b o,X.base.get? b=some o→s.heap.get? b=some o∧H b=none:=fun b o e =>
  ⟨I.base.keep b o (I.ok.bs b o e).1 (I.ok.bs b o e).2 (I.ok.nofr e) (I.ok.noex b o e),I.base.free b o (I.ok.bs b o e).1 (I.ok.bs b o e).2 (I.ok.noex b o e)⟩
theorem Inv.bk (I:Inv X pins σ H s):∀ b o,X.base.get? b=some o→s.heap.get? b=some o:=fun b o e=>(I.bs b o e).1
theorem Inv.mod (I:Inv X pins σ H s):Mod X.K X.mg X.base:=I.ok.mod
theorem Inv.kIn (I:Inv X pins σ H s):X.K.In s.heap:=I.ok.mod.kin.keeps I.bk
theorem Inv.lt (I:Inv X pins σ H s):X.env.locals < s.heap.objs.size:=let ⟨_,hn,_⟩:=I.loc; hn.lt
theorem Inv.sz (I:Inv X pins σ H s):X.s₀.heap.objs.size≤s.heap.objs.size:=Nat.le_trans I.ok.above (Nat.le_of_lt I.lt)
theorem Inv.nofs (I:Inv X pins σ H s) {a:Addr} (h:s.heap.objs.size≤a):a ∉ X.fs:=fun hb=>by
  obtain ⟨_,o,ho,_⟩:=I.ok.funs.mem hb
  exact absurd (Nat.lt_of_lt_of_le (Heap.lt_size ho) (Nat.le_trans I.sz h)) (Nat.lt_irrefl _)
theorem Inv.cne (I:Inv X pins σ H s):∀ x c,X.env.cells.lookup x=some c→c≠X.env.locals:=fun x c e z=>by
  obtain ⟨v,o,ho,hd⟩:=I.cell x c e
  obtain ⟨m,⟨o',es,ep,ho',hd',_⟩,_⟩:=I.loc
  rw [z,ho'] at ho; cases ho; rw [hd'] at hd; cases hd
theorem Inv.funs (I:Inv X pins σ H s):s.heap.FunFrames X.base X.outer:=by
  have all:∀ (l:List Env),(∀ b∈frs l,b∈X.fs)→X.s₀.heap.FunFrames X.base l→s.heap.FunFrames X.base l:=by
    intro l
    induction l with
    | nil=>intro _ _; trivial
    | cons env r ih =>
      intro hs hl
      obtain ⟨hk,⟨L,o,hf,hn,ho,hd⟩,hr⟩:=hl
      have hL:L∈X.fs:=hs L (by unfold frs; rw [List.filterMap_cons,hf]; exact List.mem_cons_self)
      obtain ⟨sl,e⟩:=I.base.slot L o ho (I.ok.frf L hL) hL fun z=>I.ok.exfs L z hL
      exact ⟨hk,⟨L,_,hf,hn,e,hd⟩,ih (fun b hb=>hs b (by unfold frs; rw [List.filterMap_cons,hf]; exact List.mem_cons_of_mem _ hb)) hr⟩
  exact all X.outer (fun _ hb=>hb) I.ok.funs

theorem Inv.stack (I:Inv X pins σ H s):s.heap.FunFrames X.base X.stack:=by
  rcases I.ok.stk with e | ⟨e,hf⟩
  · rw [e]; exact I.funs
  · rw [e]
    obtain ⟨m,hn,_⟩:=I.loc
    refine .cons (by rw [I.ok.kind]; decide) hf hn ?_ I.funs
    exact Heap.get?_none_of_le (Nat.le_trans I.ok.bsz I.ok.above)
theorem Inv.stkSub (I:Inv X pins σ H s):∀ b∈frs X.stack,b∈X.env.locals::X.fs:=fun b hb=>by
  rcases I.ok.stk with e | ⟨e,hf⟩
  · rw [e] at hb; exact List.mem_cons_of_mem _ hb
  · rw [e] at hb
    unfold frs at hb
    rw [List.filterMap_cons,hf] at hb
    exact hb
theorem Inv.stkFree (I:Inv X pins σ H s):∀ b∈frs X.stack,H b=none:=fun b hb=>by
  rcases List.mem_cons.mp (I.stkSub b hb) with e | hb
  · rw [e]; exact I.free
  · obtain ⟨_,o,ho,_⟩:=I.ok.funs.mem hb
    exact I.base.free b o ho (I.ok.frf b hb) fun z=>I.ok.exfs b z hb

theorem Inv.step {g':Array GenState} {t':Nat} {d':Drawn} {ch:List Addr} (I:Inv X pins σ H s)
    (hch:∀ b∈ch,(b∈X.ex∨X.s₀.heap.objs.size≤b)∧b≠X.env.locals∧(∀ x c,X.env.cells.lookup x=some c→c≠b)∧∀ p∈X.pn++pins,p.1≠b)
    (keep:∀ b o,b≠X.env.locals→b ∉ X.fs→b ∉ ch→s.heap.get? b=some o→H b=none→h'.get? b=some o)
    (slot:∀ b o,b≠X.env.locals→b∈X.fs→b ∉ ch→s.heap.get? b=some o→H b=none→∃ sl,h'.get? b=some { o with slots:=sl }) (free:∀ b o,b ∉ ch→s.heap.get? b=some o→H b=none→H' b=none)
    (there:∀ b o,b ∉ ch→s.heap.get? b=some o→∃ o',h'.get? b=some o')
    (tups:∀ b xs,H b=some (.tup xs)→H' b=some (.tup xs)) (frzs:∀ b o u,H b=some (.frz o u)→H' b=some (.frz o u)) (tbls:∀ b ps,H b=some (.tbl ps)→∃ more,H' b=some (.tbl (ps++more)))
    (ns:∀ m,s.heap.Ns X.env.locals m→h'.Ns X.env.locals m) (hok:HOk X.prog X.w H' h') (hg:AllBare g') :
    Inv X pins σ H' { s with heap:=h',gens:=g',drawn:=d',toks:=t' }:=by
  have neL:∀ b o,X.s₀.heap.get? b=some o→b≠X.env.locals:=fun b o e=>Nat.ne_of_lt (Nat.lt_of_lt_of_le (Heap.lt_size e) I.ok.above)
  have neC:∀ b o,X.s₀.heap.get? b=some o→b ∉ X.ex→b ∉ ch:=fun b o e hx hb=>by
    rcases (hch b hb).1 with z | z
    · exact hx z
    · exact absurd (Nat.lt_of_lt_of_le (Heap.lt_size e) z) (Nat.lt_irrefl _)
  have cellK:∀ x c,X.env.cells.lookup x=some c→∀ v,s.heap.IsCell c v→h'.IsCell c v:=fun x c e v hz0=>by
    obtain ⟨o,ho,hd⟩:=hz0
    have nch:c ∉ ch:=fun z=>(hch c z).2.2.1 x c e rfl
    by_cases hc:c∈X.fs
    · obtain ⟨sl,q⟩:=slot c o (I.cne x c e) hc nch ho (I.freeC x c e)
      exact ⟨_,q,hd⟩
    · exact ⟨o,keep c o (I.cne x c e) hc nch ho (I.freeC x c e),hd⟩
  refine ⟨I.ok,I.os,hg,⟨fun b o e n hb hx=>?_,fun b o e n hb hx=>?_,fun b o e n hx=>?_,fun b o e hx=>?_,fun b xs e=>tups b xs (I.base.tups b xs e),fun b o xs e=>frzs b o xs (I.base.frzs b o xs e),fun b ps e=>?_⟩,?_,fun x c e=>?_,?_,fun x c e=>?_,fun p hp=>?_,hok,I.len⟩
  · exact keep b o (neL b o e) hb (neC b o e hx) (I.base.keep b o e n hb hx) (I.base.free b o e n hx)
  · obtain ⟨sl,e1⟩:=I.base.slot b o e n hb hx
    obtain ⟨sl',e2⟩:=slot b _ (neL b o e) hb (neC b o e hx) e1 (I.base.free b o e n hx)
    exact ⟨sl',e2⟩
  · obtain ⟨o',e1⟩:=I.base.there b o e hx
    exact free b o' (neC b o e hx) e1 (I.base.free b o e n hx)
  · obtain ⟨o',e1⟩:=I.base.there b o e hx
    exact there b o' (neC b o e hx) e1
  · obtain ⟨m1,e1⟩:=I.base.tbls b ps e
    obtain ⟨m2,e2⟩:=tbls b _ e1
    exact ⟨m1++m2,by rw [e2,Array.append_assoc]⟩
  · obtain ⟨m,hn,hl⟩:=I.loc
    refine ⟨m,ns m hn,fun i x v e1 e2 e3=>?_⟩
    obtain ⟨u,r,l⟩:=hl i x v e1 e2 e3
    refine ⟨u,r,?_⟩
    rcases l with l | ⟨k,c,e,z⟩
    · exact .inl l
    · exact .inr ⟨k,c,e,cellK x c e _ z⟩
  · obtain ⟨v,z⟩:=I.cell x c e
    exact ⟨v,cellK x c e v z⟩
  · obtain ⟨m,⟨o,_,_,ho,_⟩,_⟩:=I.loc
    exact free _ o (fun z=>(hch _ z).2.1 rfl) ho I.free
  · obtain ⟨v,o,ho,hd⟩:=I.cell x c e
    exact free c o (fun z=>(hch c z).2.2.1 x c e rfl) ho (I.freeC x c e)
  · obtain ⟨e,n,ne,nf,d⟩:=I.pin p hp
    have nch:p.1 ∉ ch:=fun z=>(hch p.1 z).2.2.2 p hp rfl
    exact ⟨keep p.1 p.2 ne nf nch e n,free p.1 p.2 nch e n,ne,nf,d⟩
theorem Inv.un {t':Nat} (I:Inv X pins σ H s) (u:Un X.fs [] H H' s.heap h') (hok:HOk X.prog X.w H' h'):Inv X pins σ H' { s with heap:=h',toks:=t' }:=by
  obtain ⟨m,⟨o,es,ep,ho,r⟩,_⟩:=id I.loc
  obtain ⟨sl,hL⟩:=u.any ho I.free (by simp)
  exact I.step (g':=s.gens) (d':=s.drawn) (ch:=[]) (fun _ z=>nomatch z) (fun b o _ hb _ e n=>u.keep b o e n hb (by simp)) (fun b o _ hb _ e n=>u.slot b o e n hb (by simp)) (fun b o _ e n=>u.free b o e n (by simp)) (fun b o _ e=>u.there b o e (by simp)) u.tups u.frzs u.tbls (fun m' hm=>by
    obtain ⟨o',es',ep',ho',r'⟩:=hm
    rw [ho] at ho'; cases ho'
    exact ⟨_,es',ep',hL,r'⟩) hok I.bare
theorem Inv.call {g':Array GenState} {t':Nat} {d':Drawn} {ch:List Addr} (I:Inv X pins σ H s) (u:Un (frs X.stack) ch H H' s.heap h') (hok:HOk X.prog X.w H' h') (hg:AllBare g')
    (hch:∀ b∈ch,(b∈X.ex∨X.s₀.heap.objs.size≤b)∧b≠X.env.locals∧(∀ x c,X.env.cells.lookup x=some c→c≠b)∧∀ p∈X.pn++pins,p.1≠b) :
    Inv X pins σ H' { s with heap:=h',gens:=g',drawn:=d',toks:=t' }:=by
  obtain ⟨m,⟨o,es,ep,ho,r⟩,_⟩:=id I.loc
  obtain ⟨sl,hL⟩:=u.any ho I.free fun z=>(hch _ z).2.1 rfl
  exact I.step (ch:=ch) hch (fun b o hL hb hc e n=>u.keep b o e n (fun z=>(List.mem_cons.mp (I.stkSub b z)).elim hL hb) hc) (fun b o _ _ hc e n=>u.any e n hc) (fun b o hc e n=>u.free b o e n hc) (fun b o hc e=>u.there b o e hc) u.tups u.frzs u.tbls (fun m' hm=>by
    obtain ⟨o',es',ep',ho',r'⟩:=hm
    rw [ho] at ho'; cases ho'
    exact ⟨_,es',ep',hL,r'⟩) hok hg
theorem Inv.turned {t':Nat} {it:Addr} (I:Inv X pins σ H s) (k:∀ b o,b≠it→s.heap.get? b=some o→h'.get? b=some o) (hn:H it=none) (hL:it≠X.env.locals)
    (h1:it∈X.ex∨X.s₀.heap.objs.size≤it) (h2:∀ x c,X.env.cells.lookup x=some c→c≠it) (h3:∀ p∈X.pn++pins,p.1≠it):Inv X pins σ H { s with heap:=h',toks:=t' }:=by
  have nit:∀ b u,H b=some u→b≠it:=fun b u e z=>by rw [z,hn] at e; cases e
  refine I.step (g':=s.gens) (d':=s.drawn) (ch:=[it]) (fun b hb=>?_) (fun b o _ _ hc e _=>k b o (fun z=>hc (by simp [z])) e) (fun b o _ _ hc e _=>⟨o.slots,k b o (fun z=>hc (by simp [z])) e⟩) (fun _ _ _ _ n=>n)
    (fun b o hc e=>⟨o,k b o (fun z=>hc (by simp [z])) e⟩) (fun _ _ e=>e) (fun _ _ _ e=>e) (fun b ps e=>⟨#[],by rw [e]; simp⟩) (fun m hm=>?_) (fun b u e=>?_) I.bare
  · have e:b=it:=by simpa using hb
    subst e
    exact ⟨h1,hL,h2,h3⟩
  · obtain ⟨o,es,ep,ho,r⟩:=hm
    exact ⟨o,es,ep,k _ o (Ne.symm hL) ho,r⟩
  · refine (I.hok b u e).stay (fun c v hc q=>k c v ?_ q) (fun _ q=>q) fun _ _ q=>q
    rcases hc with z | z
    · rw [z]; exact nit b u e
    · exact nit c _ z
theorem Inv.tok (I:Inv X pins σ H s) (t:Nat):Inv X pins σ H { s with toks:=t }:=I.un (h':=s.heap) (t':=t) Un.refl I.hok
theorem Inv.kept {t':Nat} (I:Inv X pins σ H s) (k:∀ b u,s.heap.get? b=some u→h'.get? b=some u):Inv X pins σ H { s with heap:=h',toks:=t' }:=I.un (Un.kept k) (I.hok.kept k)
theorem Inv.laid {a:Addr} {o:HO} {t':Nat} (I:Inv X pins σ H s) (k:∀ b u,s.heap.get? b=some u→h'.get? b=some u) (hp:s.heap.objs.size≤a) (new:ObjOk X.prog X.w (upd H a o) h' a o) :
    Inv X pins σ (upd H a o) { s with heap:=h',toks:=t' }:=I.un (Un.laid k hp (I.hok.fresh hp)) (I.hok.laid k hp new)
theorem Inv.write {x e:Addr} {o:HO} {t':Nat} (I:Inv X pins σ H s) (mu:Mut (H x)) (he:e=x∨H e=some (.own x)) (k:∀ b u,b≠e→s.heap.get? b=some u→h'.get? b=some u) (heo:∃ u,h'.get? e=some u)
    (new:ObjOk X.prog X.w (upd H x o) h' x o):Inv X pins σ (upd H x o) { s with heap:=h',toks:=t' }:=I.un (Un.write mu he k heo) (I.hok.write mu he k heo new)
theorem Inv.pins_of {pins':List (Addr×Obj)} (I:Inv X pins σ H s) (h:∀ p∈pins',s.heap.get? p.1=some p.2∧H p.1=none∧p.1≠X.env.locals∧p.1 ∉ X.fs∧∀ v,p.2.data≠.cell v):Inv X pins' σ H s :=
  ⟨I.ok,I.os,I.bare,I.base,I.loc,I.cell,I.free,I.freeC,fun p hp=>(List.mem_append.mp hp).elim (fun z=>I.pin p (List.mem_append_left _ z)) (h p),I.hok,I.len⟩

theorem nodup_ix {N:List Str} (hN:N.Nodup) {i j:Nat} {x:Str} (a:N[i]?=some x) (b:N[j]?=some x):i=j:=by
  obtain ⟨h1,e1⟩:=List.getElem?_eq_some_iff.mp a
  obtain ⟨h2,e2⟩:=List.getElem?_eq_some_iff.mp b
  exact (List.getElem_inj hN).mp (e1.trans e2.symm)

theorem store_ok2 {M:Model} {A:Around} {E:Value→Shared→Prop} {i:Nat} {x:Str} {v:V} {u:Value} {Q:Unit→Shared→Prop} (I:Inv X pins σ H s) (hN:X.N.Nodup) (hi:X.N[i]?=some x) (hx:Loc X.env.scope x) (r:RelV v u)
    (h:∀ s',Inv X pins (σ.set i (some v)) H s'→(∃ a,Heap.SameBut a s.heap s'.heap∧(a=X.env.locals∨X.env.cells.lookup x=some a))→Q () s') (hf:X.fn x=true∨X.env.scope.names.lookup x=some .local:=by first | exact .inl rfl | exact .inr rfl | assumption):wpAny M A (storeName X.env x u) Q E s:=by
  obtain ⟨m,hn,hl⟩:=id I.loc
  have hcls:(X.env.scope.kind == .class || (X.env.scope.kind == .module && X.env.locals != X.env.globals))=false:=by rw [I.ok.kind]; rfl
  have hiσ:i < σ.length:=by rw [I.len]; exact (List.getElem?_eq_some_iff.mp hi).1
  have cne:=I.cne
  have tracked:∀ {a:Addr} {h':Heap},(∃ o,s.heap.get? a=some o∧H a=none)→Heap.SameBut a s.heap h'→HOk X.prog X.w H h':=fun {a h'} ha hs b ob e=>by
    obtain ⟨_,_,hfree⟩:=ha
    refine (I.hok b ob e).stay (fun c w' hc q=>(hs.2 c ?_).trans q) (fun _ q=>q) fun _ _ q=>q
    rintro rfl
    rcases hc with rfl | hc
    · rw [hfree] at e; cases e
    · rw [hfree] at hc; cases hc
  rcases hx with hk | hk
  · refine wpAny_storeName_local hk hn (fun h' hn' hs=>?_) hcls
    obtain ⟨oL,_,_,hoL,_⟩:=id hn
    refine h _ ⟨I.ok,I.os,I.bare,⟨fun b o e n hb hx=>?_,fun b o e n hb hx=>?_,I.base.free,fun b o e hx=>?_,I.base.tups,I.base.frzs,I.base.tbls⟩,⟨_,hn',fun j y v' e1 e2 e3=>?_⟩,fun y c e=>?_,I.free,I.freeC,fun p hp=>?_,tracked ⟨oL,hoL,I.free⟩ hs,by simpa using I.len⟩ ⟨_,hs,.inl rfl⟩
    · exact (hs.2 b (Nat.ne_of_lt (Nat.lt_of_lt_of_le (Heap.lt_size e) I.ok.above))).trans (I.base.keep b o e n hb hx)
    · obtain ⟨sl,e1⟩:=I.base.slot b o e n hb hx
      exact ⟨sl,(hs.2 b (Nat.ne_of_lt (Nat.lt_of_lt_of_le (Heap.lt_size e) I.ok.above))).trans e1⟩
    · obtain ⟨o',e1⟩:=I.base.there b o e hx
      exact ⟨o',(hs.2 b (Nat.ne_of_lt (Nat.lt_of_lt_of_le (Heap.lt_size e) I.ok.above))).trans e1⟩
    · by_cases hj:j=i
      · subst hj
        rw [hi] at e1; cases e1
        rw [List.getElem?_set_self hiσ] at e2
        cases e2
        exact ⟨u,r,.inl ⟨hk,by simp⟩⟩
      · rw [List.getElem?_set_ne (Ne.symm hj)] at e2
        obtain ⟨u',r',q⟩:=hl j y v' e1 e2 e3
        refine ⟨u',r',?_⟩
        rcases q with ⟨k,e⟩ | ⟨k,c,e,z⟩
        · refine .inl ⟨k,?_⟩
          have:y≠x:=fun e=>hj (nodup_ix hN e1 (e ▸ hi))
          simp [this,e]
        · exact .inr ⟨k,c,e,z.sameBut hs (cne y c e)⟩
    · obtain ⟨w',z⟩:=I.cell y c e
      exact ⟨w',z.sameBut hs (cne y c e)⟩
    · obtain ⟨e,n,ne,nf,d⟩:=I.pin p hp
      exact ⟨(hs.2 p.1 ne).trans e,n,ne,nf,d⟩
  · have hfn:X.fn x=true:=by
      rcases hf with z | z
      · exact z
      · rw [z] at hk; cases hk
    obtain ⟨c,hc⟩:=I.ok.has x (.inl hk)
    obtain ⟨w',z⟩:=I.cell x c hc
    refine wpAny_storeName_cell I.ok.kind hk hc z (fun h' hc' hs=>?_)
    obtain ⟨oc,hoc,hocd⟩:=id z
    refine h { s with heap:=h' } ⟨I.ok,I.os,I.bare,⟨fun b o e n hb hx=>?_,fun b o e n hb hx=>?_,I.base.free,fun b o e hx=>?_,I.base.tups,I.base.frzs,I.base.tbls⟩,⟨m,hn.sameBut hs (Ne.symm (cne x c hc)),fun j y v' e1 e2 e3=>?_⟩,fun y c' e=>?_,I.free,I.freeC,fun p hp=>?_,tracked ⟨oc,hoc,I.freeC x c hc⟩ hs,by simpa using I.len⟩ ⟨c,hs,.inr hc⟩
    · exact (hs.2 b (Nat.ne_of_lt (Nat.lt_of_lt_of_le (Heap.lt_size e) (I.ok.cab x c hfn hc)))).trans (I.base.keep b o e n hb hx)
    · obtain ⟨sl,e1⟩:=I.base.slot b o e n hb hx
      exact ⟨sl,(hs.2 b (Nat.ne_of_lt (Nat.lt_of_lt_of_le (Heap.lt_size e) (I.ok.cab x c hfn hc)))).trans e1⟩
    · obtain ⟨o',e1⟩:=I.base.there b o e hx
      exact ⟨o',(hs.2 b (Nat.ne_of_lt (Nat.lt_of_lt_of_le (Heap.lt_size e) (I.ok.cab x c hfn hc)))).trans e1⟩
    · by_cases hj:j=i
      · subst hj
        rw [hi] at e1; cases e1
        rw [List.getElem?_set_self hiσ] at e2
        cases e2
        exact ⟨u,r,.inr ⟨.inl hk,c,hc,hc'⟩⟩
      · rw [List.getElem?_set_ne (Ne.symm hj)] at e2
        obtain ⟨u',r',q⟩:=hl j y v' e1 e2 e3
        refine ⟨u',r',?_⟩
        rcases q with q | ⟨k,c',e,z'⟩
        · exact .inl q
        · refine .inr ⟨k,c',e,z'.sameBut hs ?_⟩
          rintro rfl
          exact hj (nodup_ix hN e1 (I.ok.inj _ _ _ e hc ▸ hi))
    · by_cases hcc:c'=c
      · subst hcc; exact ⟨_,hc'⟩
      · obtain ⟨w2,z2⟩:=I.cell y c' e
        exact ⟨w2,z2.sameBut hs hcc⟩
    · obtain ⟨e,n,ne,nf,d⟩:=I.pin p hp
      refine ⟨(hs.2 p.1 ?_).trans e,n,ne,nf,d⟩
      intro q
      rw [q,hoc] at e
      have q':oc=p.2:=Option.some.inj e
      exact d w' (by rw [← q']; exact hocd)
theorem store_ok {M:Model} {A:Around} {E:Value→Shared→Prop} {i:Nat} {x:Str} {v:V} {u:Value} {Q:Unit→Shared→Prop} (I:Inv X pins σ H s) (hN:X.N.Nodup) (hi:X.N[i]?=some x) (hx:Loc X.env.scope x) (r:RelV v u)
    (h:∀ s',Inv X pins (σ.set i (some v)) H s'→Q () s') (hf:X.fn x=true∨X.env.scope.names.lookup x=some .local:=by first | exact .inl rfl | exact .inr rfl | assumption):wpAny M A (storeName X.env x u) Q E s :=
  store_ok2 I hN hi hx r (fun s' I' _=>h s' I') hf
theorem Inv.call' {s':Shared} {ch:List Addr} (I:Inv X pins σ H s) (ho:s'.os=s.os) (u:Un (frs X.stack) ch H H' s.heap s'.heap) (hok:HOk X.prog X.w H' s'.heap) (hg:AllBare s'.gens)
    (hch:∀ b∈ch,(b∈X.ex∨X.s₀.heap.objs.size≤b)∧b≠X.env.locals∧(∀ x c,X.env.cells.lookup x=some c→c≠b)∧∀ p∈X.pn++pins,p.1≠b):Inv X pins σ H' s':=by
  obtain ⟨h',g',d',t',o'⟩:=s'
  have e:o'=s.os:=ho
  subst e
  exact I.call (g':=g') (t':=t') (d':=d') u hok hg hch
end
noncomputable abbrev XK:=Value→Option Addr→Hp→Prop
noncomputable abbrev St:=List (Option V)
noncomputable abbrev VK:=V→Hp→Prop
noncomputable abbrev TE:=St→Hp→VK→Prop
noncomputable abbrev TT:=St→Hp→(Bool→Hp→Prop)→Prop
noncomputable abbrev TA:=St→Hp→(List V→Hp→Prop)→Prop
structure Ends where
  nx:St→Hp→Prop
  rt:VK
  bk:St→Hp→Prop:=fun _ _=>False
  ct:St→Hp→Prop:=fun _ _=>False
noncomputable abbrev TS:=Ends→St→Hp→Prop

noncomputable def EP (X:Cx) (pins:List (Addr×Obj)) (σ:St) (Q:VK) (u:Value) (s':Shared):Prop:=∃ v H',Inv X pins σ H' s'∧RelV v u∧Q v H'
noncomputable def TP (X:Cx) (pins:List (Addr×Obj)) (σ:St) (Q:Bool→Hp→Prop) (b:Bool) (s':Shared):Prop:=∃ H',Inv X pins σ H' s'∧Q b H'
noncomputable def AP (X:Cx) (pins:List (Addr×Obj)) (σ:St) (Q:List V→Hp→Prop) (us:List Value) (s':Shared):Prop:=∃ vs H',Inv X pins σ H' s'∧Vals vs us∧Q vs H'
noncomputable def SP (X:Cx) (pins:List (Addr×Obj)) (D:Ends) (f:Flow) (s':Shared):Prop :=
  match f with
  | .next=>∃ σ' H',Inv X pins σ' H' s'∧D.nx σ' H'
  | .brk=>∃ σ' H',Inv X pins σ' H' s'∧D.bk σ' H'
  | .cont=>∃ σ' H',Inv X pins σ' H' s'∧D.ct σ' H'
  | .ret u=>∃ v σ' H',Inv X pins σ' H' s'∧RelV v u∧D.rt v H'

noncomputable def PE (X:Cx) (e:Expr) (t:TE):Prop :=
  ∀ (pins:List (Addr×Obj)) (s:Shared) (σ:St) (H:Hp) (Q:VK),Inv X pins σ H s→t σ H Q→wpAny (model X.prog X.w) X.A (eval e X.env) (EP X pins σ Q) X.xe s
noncomputable def PT (X:Cx) (e:Expr) (t:TT):Prop :=
  ∀ (pins:List (Addr×Obj)) (s:Shared) (σ:St) (H:Hp) (Q:Bool→Hp→Prop),Inv X pins σ H s→t σ H Q→wpAny (model X.prog X.w) X.A (isTrue e X.env (eval e X.env)) (TP X pins σ Q) X.xe s
noncomputable def PW (X:Cx) (e:Expr) (t:TT):Prop :=
  ∀ (whole:Sem Value) (pins:List (Addr×Obj)) (s:Shared) (σ:St) (H:Hp) (Q:Bool→Hp→Prop),Inv X pins σ H s→t σ H Q→wpAny (model X.prog X.w) X.A (isTrue e X.env whole) (TP X pins σ Q) X.xe s
theorem PW.pt {X:Cx} {e:Expr} {t:TT} (h:PW X e t):PT X e t:=h _
noncomputable def PA (X:Cx) (es:List Expr) (t:TA):Prop :=
  ∀ (pos:Pos) (pins:List (Addr×Obj)) (s:Shared) (σ:St) (H:Hp) (Q:List V→Hp→Prop),Inv X pins σ H s→t σ H Q→wpAny (model X.prog X.w) X.A (spliced (backTo pos (starEach es X.env))) (AP X pins σ Q) X.xe s
noncomputable def PS (X:Cx) (st:Stmt) (t:TS):Prop :=
  ∀ (pins:List (Addr×Obj)) (s:Shared) (σ:St) (H:Hp) (D:Ends),Inv X pins σ H s→t D σ H→wpAny (model X.prog X.w) X.A (exec st X.env) (SP X pins D) X.xe s
noncomputable def PSs (X:Cx) (st:List Stmt) (t:TS):Prop :=
  ∀ (pins:List (Addr×Obj)) (s:Shared) (σ:St) (H:Hp) (D:Ends),Inv X pins σ H s→t D σ H→wpAny (model X.prog X.w) X.A (execs st X.env) (SP X pins D) X.xe s
theorem thn {α:Type} {t:Sem α} {Q Q':α→Shared→Prop} {M:Model} {A:Around} {E:Value→Shared→Prop} {s:Shared} (h:wpAny M A t Q E s) (hQ:∀ a s,Q a s→Q' a s):wpAny M A t Q' E s:=wpAny_mono h hQ fun _ _ x=>x
end L2
namespace L2
open PySem PySem.Spec PyProof.Rows
section
variable {X:Cx}
noncomputable def tVar (i:Nat):TE:=fun σ H Q=>∃ v,σ[i]?=some (some v)∧Q v H
noncomputable def tC (v:V):TE:=fun _ H Q=>Q v H
theorem pe_var {i:Nat} {x:Str} {pos:Pos} (hN:X.N[i]?=some x) (hv:Vis X.env.scope x) (hd:(x == ("__debug__":Str))=false:=by decide) (hcd:(x == ("__classdict__":Str))=false:=by decide):PE X (.Name x pos) (tVar i):=by
  intro pins s σ H Q I h
  obtain ⟨v,e,h⟩:=h
  obtain ⟨m,hn,hl⟩:=I.loc
  obtain ⟨u,r,l⟩:=hl i x v hN e hv
  have fin:EP X pins σ Q u s:=⟨v,H,I,r,h⟩
  rcases l with ⟨hk,hm⟩ | ⟨hk,c,hc,hcell⟩
  · exact wpAny_Name (wpAny_loadName_local I.ok.kind hk hn hm fin) hd
  · rcases hk with hk | hk
    · exact wpAny_Name (wpAny_loadName_cell I.ok.kind hk hc hcell fin) hd
    · exact wpAny_Name (wpAny_loadName_free I.ok.kind hk hc hcell fin hcd) hd
theorem pe_int {i j pos}:PE X (.Constant (.int i) j pos) (tC (.int i)):=fun _ _ _ H _ I h=>wpAny_Constant_int ⟨.int i,H,I.tok _,⟨_,rfl⟩,h⟩
theorem pe_bl {b j pos}:PE X (.Constant (.bool b) j pos) (tC (.bl b)):=fun _ _ _ H _ I h=>Constant_bool ⟨.bl b,H,I,rfl,h⟩
theorem pe_non {j pos}:PE X (.Constant .none j pos) (tC .non):=fun _ _ _ H _ I h=>Constant_none ⟨.non,H,I,rfl,h⟩
theorem pe_str {x j pos}:PE X (.Constant (.str x) j pos) (tC (.str x)):=fun _ _ _ H _ I h=>Calls.Constant_str ⟨.str x,H,I.tok _,⟨_,rfl⟩,h⟩

noncomputable def Gl (X:Cx) (x:Str):Prop:=X.env.kindOf x=some .globalImplicit
theorem ld_glob {E:Value→Shared→Prop} {pins:List (Addr×Obj)} {s:Shared} {σ:St} {H:Hp} {x:Str} {u:Value} {pos:Pos} {Q:Value→Shared→Prop} (I:Inv X pins σ H s) (hg:Gl X x) (hm:X.mg x=some u) (h:Q u s)
    (hd:(x == ("__debug__":Str))=false:=by decide):wpAny (model X.prog X.w) X.A (eval (.Name x pos) X.env) Q E s :=
  Calls.Name_function_global I.ok.kind hg (Calls.loadGlobal_global (by rw [I.ok.glob]; exact I.mod.glob.keeps I.bk) hm h) hd
theorem ld_blt {E:Value→Shared→Prop} {pins:List (Addr×Obj)} {s:Shared} {σ:St} {H:Hp} {x:Str} {u:Value} {pos:Pos} {Q:Value→Shared→Prop} (I:Inv X pins σ H s) (hg:Gl X x) (hm:X.mg x=none) (hv:bootBuiltins x=some u) (h:Q u s)
    (hn:x≠"__name__":=by decide) (hd:(x == ("__debug__":Str))=false:=by decide):wpAny (model X.prog X.w) X.A (eval (.Name x pos) X.env) Q E s:=by
  obtain ⟨mb,h1,h2⟩:=I.mod.blt
  exact Calls.Name_function_global I.ok.kind hg (Calls.loadGlobal_builtin (by rw [I.ok.glob]; exact I.mod.glob.keeps I.bk) hm (by rw [I.ok.blt]; exact h1.keeps I.bk) ((h2 x hn).trans hv) h) hd
theorem pe_glob {x:Str} {v:V} {u:Value} {pos:Pos} (hg:Gl X x) (hm:X.mg x=some u) (r:RelV v u) (hd:(x == ("__debug__":Str))=false:=by decide):PE X (.Name x pos) (tC v) :=
  fun _ _ _ H _ I h=>ld_glob I hg hm ⟨v,H,I,r,h⟩ hd
theorem pe_bltn {x:Str} {v:V} {u:Value} {pos:Pos} (hg:Gl X x) (hm:X.mg x=none) (hv:bootBuiltins x=some u) (r:RelV v u) (hn:x≠"__name__":=by decide) (hd:(x == ("__debug__":Str))=false:=by decide):PE X (.Name x pos) (tC v) :=
  fun _ _ _ H _ I h=>ld_blt I hg hm hv ⟨v,H,I,r,h⟩ hn hd

variable {a b:Expr} {ta tb:TE} {pos:Pos}
variable {tA tB':TT} {rest:List Expr}
noncomputable def tAnd (t u:TT):TT:=fun σ H Q=>t σ H fun c H1=>if c=true then u σ H1 Q else Q false H1
noncomputable def tOr (t u:TT):TT:=fun σ H Q=>t σ H fun c H1=>if c=true then Q true H1 else u σ H1 Q
noncomputable def tNot (t:TT):TT:=fun σ H Q=>t σ H fun c H1=>Q (!c) H1
theorem pw_and1 (ha:PT X a tA):PW X (.BoolOp .And [a] pos) tA:=by
  intro wh pins s σ H Q I h
  refine isTrue_and (thn (ha pins s σ H Q I h) fun c s1 e=>?_)
  cases c with
  | true=>exact isTrue_and_nil e
  | false=>exact e
theorem pw_or1 (ha:PT X a tA):PW X (.BoolOp .Or [a] pos) tA:=by
  intro wh pins s σ H Q I h
  refine isTrue_or (thn (ha pins s σ H Q I h) fun c s1 e=>?_)
  cases c with
  | false=>exact isTrue_or_nil e
  | true=>exact e
theorem pw_and (ha:PT X a tA) (hb:PW X (.BoolOp .And (b::rest) pos) tB'):PW X (.BoolOp .And (a::b::rest) pos) (tAnd tA tB'):=by
  intro wh pins s σ H Q I h
  refine isTrue_and (thn (ha pins s σ H _ I h) fun c s1 hz0=>?_)
  obtain ⟨H1,I1,q1⟩:=hz0
  cases c with
  | true=>exact hb wh pins s1 σ H1 Q I1 q1
  | false=>exact ⟨H1,I1,q1⟩
theorem pw_or (ha:PT X a tA) (hb:PW X (.BoolOp .Or (b::rest) pos) tB'):PW X (.BoolOp .Or (a::b::rest) pos) (tOr tA tB'):=by
  intro wh pins s σ H Q I h
  refine isTrue_or (thn (ha pins s σ H _ I h) fun c s1 hz0=>?_)
  obtain ⟨H1,I1,q1⟩:=hz0
  cases c with
  | true=>exact ⟨H1,I1,q1⟩
  | false=>exact hb wh pins s1 σ H1 Q I1 q1
theorem pt_not (ha:PT X a tA):PT X (.UnaryOp .Not a pos) (tNot tA):=by
  intro pins s σ H Q I h
  exact isTrue_not (ha pins s σ H (fun c H1=>Q (!c) H1) I h)
noncomputable def tAndV (ta tb:TE):TE:=fun σ H Q=>ta σ H fun x H1=>∃ c,x=.bl c∧if c=true then tb σ H1 Q else Q (.bl false) H1
noncomputable def tNotV (ta:TE):TE:=fun σ H Q=>ta σ H fun x H1=>∃ c,x=.bl c∧Q (.bl (!c)) H1
theorem pe_one {op} {t:TE} (h:PE X a t):PE X (.BoolOp op [a] pos) t:=fun pins s σ H Q I hw=>BoolOp_one (h pins s σ H Q I hw)
theorem pe_and (ha:PE X a ta) (hb:PE X (.BoolOp .And (b::rest) pos) tb):PE X (.BoolOp .And (a::b::rest) pos) (tAndV ta tb):=by
  intro pins s σ H Q I h
  refine BoolOp_and (thn (ha pins s σ H _ I h) fun v s1 hz0=>?_)
  obtain ⟨x,H1,I1,r1,q1⟩:=hz0
  obtain ⟨c,rfl,q1⟩:=q1
  cases r1
  refine wpAny_truthy_bool ?_
  cases c with
  | true=>exact hb pins s1 σ H1 Q I1 q1
  | false=>exact ⟨.bl false,H1,I1,rfl,q1⟩
theorem pe_not (ha:PE X a ta):PE X (.UnaryOp .Not a pos) (tNotV ta):=by
  intro pins s σ H Q I h
  refine UnaryOp_ (thn (ha pins s σ H _ I h) fun v s1 hz0=>?_)
  obtain ⟨x,H1,I1,r1,q1⟩:=hz0
  obtain ⟨c,rfl,q1⟩:=q1
  cases r1
  exact not_of (wpAny_truthy_bool ⟨.bl (!c),H1,I1,rfl,q1⟩)
noncomputable def tIf (t:TT) (ta tb:TE):TE:=fun σ H Q=>t σ H fun c H1=>if c=true then ta σ H1 Q else tb σ H1 Q
theorem pe_ifExp {c:Expr} (hc:PT X c tA) (ha:PE X a ta) (hb:PE X b tb):PE X (.IfExp c a b pos) (tIf tA ta tb):=by
  intro pins s σ H Q I h
  refine wpAny_IfExp (thn (hc pins s σ H _ I h) fun d s1 hz0=>?_)
  obtain ⟨H1,I1,q1⟩:=hz0
  cases d with
  | true=>exact ha pins s1 σ H1 Q I1 q1
  | false=>exact hb pins s1 σ H1 Q I1 q1
end
end L2
namespace L2
open PySem PySem.Spec PyProof.Rows
noncomputable def SqL (K:PySem.W.Frag) (H:Hp) (a:Addr) (xs:List V):Prop :=
  Rd H a (.lst xs) ∨
    ∃ (o:Obj) (its:Array Value) (n:Nat),K.lookup a=some o∧o.cls=.type "list"∧o.dict=none∧o.data=.seq its n∧its.size≤sizeLine∧Vals xs its.toList
noncomputable def SqT (K:PySem.W.Frag) (H:Hp) (a:Addr) (xs:List V):Prop :=
  Rd H a (.tup xs) ∨
    ∃ (o:Obj) (its:Array Value) (n:Nat),K.lookup a=some o∧o.cls=.type "tuple"∧o.data=.seq its n∧its.size≤sizeLine∧Vals xs its.toList
noncomputable def absV:Value→Option V
  | .none=>some .non
  | .bool b=>some (.bl b)
  | .int i _=>some (.int i)
  | .str x _=>some (.str x)
  | .bytes b _=>some (.byt b)
  | .float b _=>some (.flt b)
  | .ref a=>some (.ref a)
  | .type n=>some (.ty n)
  | _=>none
theorem RelV.abs {x:V} {u:Value} (r:RelV x u):absV u=some x:=by
  cases x with
  | non=>cases r; rfl
  | bl _=>cases r; rfl
  | int _=>obtain ⟨t,rfl⟩:=r; rfl
  | str _=>obtain ⟨t,rfl⟩:=r; rfl
  | byt _=>obtain ⟨t,rfl⟩:=r; rfl
  | flt _=>obtain ⟨t,rfl⟩:=r; rfl
  | ref _=>cases r; rfl
  | ty _=>cases r; rfl
theorem RelV.inj {x y:V} {u:Value} (r:RelV x u) (q:RelV y u):x=y:=Option.some.inj (r.abs.symm.trans q.abs)
theorem Vals.inj {xs ys:List V} {us:List Value} (h:Vals xs us) (h':Vals ys us):xs=ys:=by
  induction h generalizing ys with
  | nil=>cases h'; rfl
  | cons r t ih=>cases h' with | cons r' t'=>rw [r.inj r',ih t']
section
variable {X:Cx} {pins:List (Addr×Obj)} {σ:St} {H:Hp} {s:Shared} {a:Addr} {xs ys:List V}
theorem SqL.of {K:PySem.W.Frag} (h:H a=some (.lst xs)):SqL K H a xs:=.inl (.inl h)
theorem SqT.of {K:PySem.W.Frag} (h:H a=some (.tup xs)):SqT K H a xs:=.inl (.inl h)
theorem Inv.list (I:Inv X pins σ H s) (h:SqL X.K H a xs):∃ its:List Value,Vals xs its∧PlainL s.heap a its.toArray∧xs.length≤sizeLine:=by
  rcases h with h | ⟨o,its,n,hk,hc,hd,hs,hz,r⟩
  · obtain ⟨z,its,n,r,e⟩:=h.ok I.hok
    exact ⟨its,r,⟨_,n,e,rfl,rfl,rfl⟩,z⟩
  · refine ⟨its.toList,r,⟨o,n,I.kIn a o hk,hc,hd,by simpa using hs⟩,?_⟩
    have e:=r.length
    simp only [Array.length_toList] at e
    omega
theorem Inv.tuple (I:Inv X pins σ H s) (h:SqT X.K H a xs):∃ its:List Value,Vals xs its∧IsTup s.heap a its.toArray∧xs.length≤sizeLine:=by
  rcases h with h | ⟨o,its,n,hk,hc,hs,hz,r⟩
  · obtain ⟨z,its,r,p⟩:=h.ok I.hok
    exact ⟨its,r,p,z⟩
  · refine ⟨its.toList,r,⟨o,I.kIn a o hk,hc,n,by simpa using hs⟩,?_⟩
    have e:=r.length
    simp only [Array.length_toList] at e
    omega
theorem Inv.list_inj (I:Inv X pins σ H s) (h:SqL X.K H a xs) (h':SqL X.K H a ys):xs=ys:=by
  obtain ⟨its,r,⟨o,n,e,_,_,d⟩,_⟩:=I.list h
  obtain ⟨its',r',⟨o',n',e',_,_,d'⟩,_⟩:=I.list h'
  rw [e] at e'; cases e'
  rw [d] at d'
  injection d' with d1 _
  have:its=its':=by simpa using congrArg Array.toList d1
  subst this
  exact r.inj r'
theorem Inv.tuple_inj (I:Inv X pins σ H s) (h:SqT X.K H a xs) (h':SqT X.K H a ys):xs=ys:=by
  obtain ⟨its,r,⟨o,e,_,n,d⟩,_⟩:=I.tuple h
  obtain ⟨its',r',⟨o',e',_,n',d'⟩,_⟩:=I.tuple h'
  rw [e] at e'; cases e'
  rw [d] at d'
  injection d' with d1 _
  have:its=its':=by simpa using congrArg Array.toList d1
  subst this
  exact r.inj r'
end
noncomputable abbrev Cx.wish (X:Cx) (E:Value→Shared→Prop):Cx:={ X with xe:=E }
noncomputable abbrev Cx.nox (X:Cx):Cx:=X.wish fun _ _=>False
theorem Cx.Ok.wish {X:Cx} (ok:X.Ok) (E:Value→Shared→Prop):(X.wish E).Ok :=
  ⟨ok.mod,ok.kind,ok.glob,ok.blt,ok.above,ok.inj,ok.has,ok.cab,ok.hd,ok.frames,ok.stk,ok.exf,ok.bs,ok.bsz,ok.noex,ok.exfs,ok.funs,ok.frf⟩
theorem Cx.Ok.unwish {X:Cx} {E:Value→Shared→Prop} (ok:(X.wish E).Ok):X.Ok :=
  ⟨ok.mod,ok.kind,ok.glob,ok.blt,ok.above,ok.inj,ok.has,ok.cab,ok.hd,ok.frames,ok.stk,ok.exf,ok.bs,ok.bsz,ok.noex,ok.exfs,ok.funs,ok.frf⟩
section
variable {X:Cx} {pins:List (Addr×Obj)} {σ:St} {H:Hp} {s:Shared} {E:Value→Shared→Prop}
theorem Inv.wish (I:Inv X pins σ H s) (E:Value→Shared→Prop):Inv (X.wish E) pins σ H s:=⟨I.ok.wish E,I.os,I.bare,I.base,I.loc,I.cell,I.free,I.freeC,I.pin,I.hok,I.len⟩
theorem Inv.unwish (I:Inv (X.wish E) pins σ H s):Inv X pins σ H s:=⟨I.ok.unwish,I.os,I.bare,I.base,I.loc,I.cell,I.free,I.freeC,I.pin,I.hok,I.len⟩
theorem SP.unwish {D:Ends} {f:Flow} {s':Shared} (h:SP (X.wish E) pins D f s'):SP X pins D f s':=by
  cases f with
  | next=>obtain ⟨σ',H',I,q⟩:=h; exact ⟨σ',H',I.unwish,q⟩
  | brk=>obtain ⟨σ',H',I,q⟩:=h; exact ⟨σ',H',I.unwish,q⟩
  | cont=>obtain ⟨σ',H',I,q⟩:=h; exact ⟨σ',H',I.unwish,q⟩
  | ret u=>obtain ⟨v,σ',H',I,r,q⟩:=h; exact ⟨v,σ',H',I.unwish,r,q⟩
theorem PSs.nox {st:List Stmt} {t:TS} (h:PSs X.nox st t):PSs X st t:=fun pins s σ H D I hw =>
  wpAny_mono (h pins s σ H D (I.wish _) hw) (fun _ _ q=>q.unwish) fun _ _ z=>False.elim z
end
section
variable {X:Cx} {st:Stmt} {rest:List Stmt} {t u:TS} {e:Expr} {te:TE} {pos:Pos}
noncomputable def tNext:TS:=fun D σ H=>D.nx σ H
noncomputable def tSeq (t u:TS):TS:=fun D σ H=>t { D with nx:=u D } σ H
theorem pss_nil:PSs X [] tNext:=fun _ _ σ H _ I h=>wpAny_execs_nil ⟨σ,H,I,h⟩
theorem pss_cons (h1:PS X st t) (h2:PSs X rest u):PSs X (st::rest) (tSeq t u):=by
  intro pins s σ H D I h
  refine wpAny_execs_cons (thn (h1 pins s σ H { D with nx:=u D } I h) fun f s1 q=>?_)
  cases f with
  | next =>
    obtain ⟨σ',H',I',q⟩:=q
    exact h2 pins s1 σ' H' D I' q
  | ret v=>exact q
  | brk=>exact q
  | cont=>exact q
theorem pss_one (h1:PS X st t):PSs X [st] t:=by
  intro pins s σ H D I h
  refine wpAny_execs_cons (thn (h1 pins s σ H D I h) fun f s1 q=>?_)
  cases f with
  | next=>exact wpAny_execs_nil q
  | ret v=>exact q
  | brk=>exact q
  | cont=>exact q
theorem Inv.quiet {pins:List (Addr×Obj)} {σ:St} {H:Hp} {s:Shared} (I:Inv X pins σ H s):interactive X.env=false:=by simp [interactive,I.ok.kind]
noncomputable def tDrop (te:TE):TS:=fun D σ H=>te σ H fun _ H1=>D.nx σ H1
theorem ps_expr (he:PE X e te) (hs:swapsWith e none pos.line X.env=pure false:=by rfl):PS X (.Expr e pos) (tDrop te):=by
  intro pins s σ H D I h
  exact wpAny_Expr_any (thn (he pins s σ H _ I h) fun v s1 ⟨x,H1,I1,r1,q1⟩=>⟨σ,H1,I1,q1⟩) I.quiet hs
noncomputable def tRet (te:TE):TS:=fun D σ H=>te σ H D.rt
theorem ps_ret (he:PE X e te):PS X (.Return (some e) pos) (tRet te):=by
  intro pins s σ H D I h
  exact wpAny_Return_some (thn (he pins s σ H _ I h) fun v s1 ⟨x,H1,I1,r1,q1⟩=>⟨x,σ,H1,I1,r1,q1⟩)
noncomputable def tIfS (c:TT) (t u:TS):TS:=fun D σ H=>c σ H fun b H1=>if b=true then t D σ H1 else u D σ H1
theorem ps_if {c:Expr} {a b:List Stmt} {tc:TT} (hc:PT X c tc) (ha:PSs X a t) (hb:PSs X b u):PS X (.If c a b pos) (tIfS tc t u):=by
  intro pins s σ H D I h
  refine wpAny_If (thn (hc pins s σ H _ I h) fun d s1 hz0=>?_)
  obtain ⟨H1,I1,q1⟩:=hz0
  cases d with
  | true=>exact ha pins s1 σ H1 D I1 q1
  | false=>exact hb pins s1 σ H1 D I1 q1
end
noncomputable abbrev TG:=V→St→Hp→(St→Hp→Prop)→Prop
noncomputable abbrev TGs:=List V→St→Hp→(St→Hp→Prop)→Prop
noncomputable def PG (X:Cx) (target:Expr) (t:TG):Prop :=
  ∀ (pins:List (Addr×Obj)) (s:Shared) (σ:St) (H:Hp) (v:V) (u:Value) (Q:St→Hp→Prop),Inv X pins σ H s→RelV v u→t v σ H Q →
    wpAny (model X.prog X.w) X.A (assign target X.env u) (fun _ s'=>∃ σ' H',Inv X pins σ' H' s'∧Q σ' H') X.xe s
noncomputable def PGs (X:Cx) (ts:List Expr) (t:TGs):Prop :=
  ∀ (pins:List (Addr×Obj)) (s:Shared) (σ:St) (H:Hp) (vs:List V) (us:List Value) (Q:St→Hp→Prop),Inv X pins σ H s→Vals vs us→t vs σ H Q →
    wpAny (model X.prog X.w) X.A (assignInOrder ((assignEach ts X.env).map (·.2)) us) (fun _ s'=>∃ σ' H',Inv X pins σ' H' s'∧Q σ' H') X.xe s
noncomputable abbrev TSet:=V→V→V→Hp→(Hp→Prop)→Prop
noncomputable def PSet (X:Cx) (t:TSet):Prop :=
  ∀ (pins:List (Addr×Obj)) (s:Shared) (σ:St) (H:Hp) (o i v:V) (ov iv u:Value) (Q:Hp→Prop),Inv X pins σ H s→RelV o ov→RelV i iv→RelV v u→t o i v H Q →
    wpAny (model X.prog X.w) X.A (setItem ov iv u) (fun _ s'=>∃ H',Inv X pins σ H' s'∧Q H') X.xe s
noncomputable abbrev TIp:=V→V→Hp→VK→Prop
noncomputable def PIp (X:Cx) (op:Operator) (t:TIp):Prop :=
  ∀ (pins:List (Addr×Obj)) (s:Shared) (σ:St) (H:Hp) (x y:V) (v u:Value) (Q:VK),Inv X pins σ H s→RelV x v→RelV y u→t x y H Q →
    wpAny (model X.prog X.w) X.A (inplaceOp op v u) (EP X pins σ Q) X.xe s
section
variable {X:Cx} {pos:Pos}
noncomputable def gName (i:Nat):TG:=fun v σ H Q=>Q (σ.set i (some v)) H
theorem pg_name {i:Nat} {x:Str} (hN:X.N.Nodup) (hi:X.N[i]?=some x) (hx:Loc X.env.scope x) (hf:X.fn x=true∨X.env.scope.names.lookup x=some .local:=by first | exact .inl rfl | exact .inr rfl | assumption):PG X (.Name x pos) (gName i):=by
  intro pins s σ H v u Q I r h
  exact wpAny_assign_Name (store_ok I hN hi hx r (fun s' I'=>⟨_,H,I',h⟩) hf)
noncomputable def gNil:TGs:=fun vs σ H Q=>vs=[]∧Q σ H
noncomputable def gCons (t:TG) (u:TGs):TGs:=fun vs σ H Q=>∃ v r,vs=v::r∧t v σ H fun σ' H'=>u r σ' H' Q
theorem pgs_nil:PGs X [] gNil:=by
  intro pins s σ H vs us Q I r h
  obtain ⟨e,h⟩:=h
  subst e
  cases r
  exact assignInOrder_nil ⟨σ,H,I,h⟩
theorem pgs_cons {e:Expr} {es:List Expr} {t:TG} {u:TGs} (h1:PG X e t) (h2:PGs X es u)
    (hs:(assignEach (e::es) X.env).map (·.2)=assign e X.env::(assignEach es X.env).map (·.2):=by rfl):PGs X (e::es) (gCons t u):=by
  intro pins s σ H vs us Q I r h
  obtain ⟨v,vr,e1,h⟩:=h
  subst e1
  cases r with
  | cons r rr =>
    rw [hs]
    refine assignInOrder_cons (thn (h1 pins s σ H _ _ _ I r h) fun _ s1 hz0=>?_)
    obtain ⟨σ1,H1,I1,q1⟩:=hz0
    exact h2 pins s1 σ1 H1 _ _ Q I1 rr q1
noncomputable def gTup (K:PySem.W.Frag) (n:Nat) (t:TGs):TG:=fun v σ H Q=>∃ a xs,v=.ref a∧SqT K H a xs∧xs.length=n∧t xs σ H Q
theorem pg_tup {es:List Expr} {k:Nat} {t:TGs} {n:Nat} (hc:X.calm=true) (h:PGs X es t)
    (hn:(assignEach es X.env).length=n:=by rfl) (hst:(assignEach es X.env).findIdx? (·.1)=none:=by rfl):PG X (.Tuple es k pos) (gTup X.K n t):=by
  intro pins s σ H v u Q I r hw
  obtain ⟨a,xs,e1,hq,hl,hw⟩:=hw
  subst e1
  cases r
  obtain ⟨its,rv,ht,hz⟩:=I.tuple hq
  refine assign_Tuple_tuple (I.ok.hd hc) ht (by simp [hn,← hl,rv.length]) hst fun h' hx=>?_
  have I1:Inv X pins σ H { s with heap:=h' }:=I.kept (t':=s.toks) fun b o e=>hx b o (Nat.ne_of_lt (Heap.lt_size e)) e
  exact h pins _ σ H xs _ Q I1 (by simpa using rv) hw
noncomputable def gSub (to ti:TE) (t:TSet):TG:=fun v σ H Q=>to σ H fun o H1=>ti σ H1 fun i H2=>t o i v H2 fun H3=>Q σ H3
theorem pg_sub {o i:Expr} {to ti:TE} {t:TSet} (ho:PE X o to) (hi:PE X i ti) (hs:PSet X t)
    (ha:∀ v,assign (.Subscript o i pos) X.env v=(do
      let ov ← holding [v] (eval o X.env)
      let iv ← holding [v,ov] (eval i X.env)
      standAt pos
      holding [v,ov,iv] (setItem ov iv v)
      release [v,ov,iv] []):=by intro _; rfl):PG X (.Subscript o i pos) (gSub to ti t):=by
  intro pins s σ H v u Q I r h
  rw [ha]
  refine wpAny_bind (wpAny_holding (thn (ho pins s σ H _ I h) fun ov s1 hz0=>?_))
  obtain ⟨x,H1,I1,r1,q1⟩:=hz0
  refine wpAny_bind (wpAny_holding (thn (hi pins s1 σ H1 _ I1 q1) fun iv s2 hz0=>?_))
  obtain ⟨y,H2,I2,r2,q2⟩:=hz0
  refine wpAny_bind (wpAny_standAt (wpAny_bind (wpAny_holding (thn (hs pins s2 σ H2 x y v ov iv u _ I2 r1 r2 r q2) fun _ s3 hz0=>?_))))
  obtain ⟨H3,I3,q3⟩:=hz0
  exact wpAny_release ⟨σ,H3,I3,q3⟩
noncomputable def tAsg (te:TE) (g:TG):TS:=fun D σ H=>te σ H fun x H1=>g x σ H1 D.nx
theorem ps_asg {tg e:Expr} {te:TE} {g:TG} (he:PE X e te) (hg:PG X tg g) (hs:swapsWithSole [tg] e pos.line X.env=pure false:=by rfl) (hw:swappedStores [tg] e X.env=pure none:=by rfl)
    (h1:(assignEach [tg] X.env).map (·.2)=[assign tg X.env]:=by rfl):PS X (.Assign [tg] e pos) (tAsg te g):=by
  intro pins s σ H D I h
  refine wpAny_Assign_stores (thn (he pins s σ H _ I h) fun v s1 hz0=>?_) hs hw
  obtain ⟨x,H1,I1,r1,q1⟩:=hz0
  rw [h1]
  exact thn (hg pins s1 σ H1 x v _ I1 r1 q1) fun _ s2 q=>q
theorem ps_set {i:Nat} {x:Str} {e:Expr} {te:TE} {pos':Pos} (hN:X.N.Nodup) (hi:X.N[i]?=some x) (hx:Loc X.env.scope x) (he:PE X e te) (hs:swapsWith e (some (.Name x pos')) pos.line X.env=pure false:=by rfl) (hf:X.fn x=true∨X.env.scope.names.lookup x=some .local:=by first | exact .inl rfl | exact .inr rfl | assumption) :
    PS X (.Assign [.Name x pos'] e pos) (tAsg te (gName i)):=by
  intro pins s σ H D I h
  refine wpAny_Assign_Name (thn (he pins s σ H _ I h) fun v s1 hz0=>?_) hs
  obtain ⟨y,H1,I1,r1,q1⟩:=hz0
  exact store_ok I1 hN hi hx r1 (fun s2 I2=>⟨_,H1,I2,q1⟩) hf
noncomputable def tPar (i j:Nat) (ta:TA):TS:=fun D σ H=>ta σ H fun vs H1=>∃ v w,vs=[v,w]∧D.nx ((σ.set i (some v)).set j (some w)) H1
theorem ps_par {i j:Nat} {x y:Str} {a b:Expr} {ta:TA} {px py pt:Pos} {kt k2 pt2} (hc:X.calm=true) (hN:X.N.Nodup) (hi:X.N[i]?=some x) (hj:X.N[j]?=some y) (hij:i≠j)
    (hx:X.env.scope.names.lookup x=some .local) (hy:X.env.scope.names.lookup y=some .local) (ha:PA X [a,b] ta)
    (hw:swappedStores [.Tuple [.Name x px,.Name y py] kt pt] (.Tuple [a,b] k2 pt2) X.env=pure (some [x,y]))
    (hs:swapsWithSole [.Tuple [.Name x px,.Name y py] kt pt] (.Tuple [a,b] k2 pt2) pos.line X.env=pure false:=by rfl) :
    PS X (.Assign [.Tuple [.Name x px,.Name y py] kt pt] (.Tuple [a,b] k2 pt2) pos) (tPar i j ta):=by
  intro pins s σ H D I h
  rw [exec_Assign_arm]
  refine wpAny_bind (wpAny_standAt ?_)
  rw [hs]
  refine wpAny_bind (wpAny_pure ?_)
  rw [if_neg (by decide)]
  refine wpAny_bind (Tuple_ (thn (ha _ pins s σ H _ I h) fun us s1 hz0=>?_))
  obtain ⟨vs,H1,I1,r1,q1⟩:=hz0
  obtain ⟨v,w,e1,q1⟩:=q1
  subst e1
  obtain ⟨u1,u2,rfl,rv,rw'⟩:∃ u1 u2,us=[u1,u2]∧RelV v u1∧RelV w u2:=by
    cases r1 with
    | cons p q =>
      cases q with
      | cons p' q' =>
        cases q'
        exact ⟨_,_,rfl,p,p'⟩
  refine wpAny_newObj_type ?_ (by show 2≤sizeLine; decide)
  have I2:Inv X pins σ H1 { s1 with heap:=s1.heap.push { cls:=.type "tuple",data:=.seq [u1,u2].toArray } }:=I1.kept (t':=s1.toks) fun b o e=>Heap.get?_push_of_some _ e
  rw [hw]
  refine wpAny_bind (wpAny_pure ?_)
  show wpAny (model X.prog X.w) X.A (do rule "assign.swapped-stores"; let items ← unpackItems (.ref s1.heap.objs.size) 2 none; assignInOrder [fun v=>bindName X.env y v,fun v=>bindName X.env x v] items.reverse; pure Flow.next) _ _ _
  refine wpAny_bind (wpAny_rule (wpAny_bind (unpackItems_tuple (items:=#[u1,u2]) (I.ok.hd hc) (IsTup.new s1.heap _) fun h' hx'=>?_)))
  have I3:=I2.kept (h':=h') (t':=s1.toks) fun b o e=>hx' b o (Nat.ne_of_lt (Heap.lt_size e)) e
  show wpAny _ _ (assignInOrder [fun v=>bindName X.env y v,fun v=>bindName X.env x v] [u2,u1] >>= fun _=>pure Flow.next) _ _ _
  refine wpAny_bind (assignInOrder_cons (wpAny_bindName (store_ok I3 hN hj (.inl hy) rw' (fun s2 I4=>?_) (.inr hy))))
  refine assignInOrder_cons (wpAny_bindName (store_ok I4 hN hi (.inl hx) rv (fun s3 I5=>assignInOrder_nil (wpAny_pure ?_)) (.inr hx)))
  rw [List.set_comm _ _ (Ne.symm hij)] at I5
  exact ⟨_,H1,I5,q1⟩
noncomputable def tAug (i:Nat) (te:TE) (ti:TIp):TS:=fun D σ H=>∃ x,σ[i]?=some (some x)∧te σ H fun y H1=>ti x y H1 fun z H2=>D.nx (σ.set i (some z)) H2
theorem ps_aug {i:Nat} {x:Str} {e:Expr} {te:TE} {op:Operator} {ti:TIp} {pos':Pos} (hN:X.N.Nodup) (hi:X.N[i]?=some x) (hx:Loc X.env.scope x) (he:PE X e te) (ho:PIp X op ti) (hf:X.fn x=true∨X.env.scope.names.lookup x=some .local:=by first | exact .inl rfl | exact .inr rfl | assumption) :
    PS X (.AugAssign (.Name x pos') op e pos) (tAug i te ti):=by
  intro pins s σ H D I h
  obtain ⟨v,e1,h⟩:=h
  obtain ⟨m,hn,hl⟩:=I.loc
  have vis:Vis X.env.scope x:=by rcases hx with k | k; exact .inl k; exact .inr (.inl k)
  obtain ⟨u,r,l⟩:=hl i x v hi e1 vis
  refine wpAny_AugAssign_Name ?_
  have go:wpAny (model X.prog X.w) X.A (eval e X.env) (fun w s₂=>wpAny (model X.prog X.w) X.A (inplaceOp op u w) (fun r s₃=>wpAny (model X.prog X.w) X.A (storeName X.env x r) (fun _=>SP X pins D .next) X.xe s₃) X.xe s₂) X.xe s:=by
    refine thn (he pins s σ H _ I h) fun w s1 hz0=>?_
    obtain ⟨y,H1,I1,r1,q1⟩:=hz0
    refine thn (ho pins s1 σ H1 v y u w _ I1 r r1 q1) fun z s2 hz0=>?_
    obtain ⟨zv,H2,I2,r2,q2⟩:=hz0
    exact store_ok I2 hN hi hx r2 (fun s3 I3=>⟨_,H2,I3,q2⟩) hf
  rcases l with ⟨hk,hm⟩ | ⟨hk,c,hc,hcell⟩
  · exact wpAny_loadName_local I.ok.kind hk hn hm go
  · rcases hk with hk | hk
    · exact wpAny_loadName_cell I.ok.kind hk hc hcell go
    · rcases hx with k | k
      · have:X.env.scope.names.lookup x=some .free:=hk
        rw [k] at this; cases this
      · have:X.env.scope.names.lookup x=some .free:=hk
        rw [k] at this; cases this
end
section
variable {X:Cx} {pos:Pos}
noncomputable def tWhile (c:TT) (tb:TS):TS:=fun D σ H=>∃ W:Nat→St→Hp→Prop,(∃ m,W m σ H)∧∀ m σ H,W m σ H →
  c σ H fun b H1=>if b=true then ∃ N:St→Hp→Prop,(∀ σ' H',N σ' H'→∃ m',m' < m∧W m' σ' H')∧tb { D with nx:=N,ct:=N,bk:=D.nx } σ H1 else D.nx σ H1
theorem ps_while {c:Expr} {body:List Stmt} {tc:TT} {tb:TS} (hp:PassesOwn (model X.prog X.w) X.A X.env X.xe) (hc:PT X c tc) (hb:PSs X body tb):PS X (.While c body [] pos) (tWhile tc tb):=by
  intro pins s σ H D I h
  obtain ⟨W,⟨m0,w0⟩,turn⟩:=h
  refine wpAny_While (codeAny_whileLoop (fun n s'=>∃ σ' H',Inv X pins σ' H' s'∧W n σ' H') ?_ m0 ⟨σ,H,I,w0⟩)
  rintro n s1 ⟨σ1,H1,I1,w1⟩
  refine wpAny_passesOwn hp (thn (hc pins s1 σ1 H1 _ I1 (turn n σ1 H1 w1)) fun b s2 hz0=>?_)
  obtain ⟨H2,I2,q2⟩:=hz0
  cases b with
  | true =>
    obtain ⟨N,hN,q2⟩:=q2
    rw [if_pos rfl]
    refine wpAny_passesOwn hp (thn (hb pins s2 σ1 H2 _ I2 q2) fun f s3 q3=>?_)
    cases f with
    | next =>
      obtain ⟨σ3,H3,I3,n3⟩:=q3
      obtain ⟨m',hm,w3⟩:=hN σ3 H3 n3
      exact ⟨m',hm,σ3,H3,I3,w3⟩
    | cont =>
      obtain ⟨σ3,H3,I3,n3⟩:=q3
      obtain ⟨m',hm,w3⟩:=hN σ3 H3 n3
      exact ⟨m',hm,σ3,H3,I3,w3⟩
    | brk=>exact q3
    | ret v=>exact q3
  | false =>
    rw [if_neg Bool.false_ne_true]
    exact wpAny_execs_nil ⟨σ1,H2,I2,q2⟩
end
structure It where
  go:Nat→Hp→Prop
  yld:Nat→Hp→V→Hp→Prop
  stop:Nat→Hp→Prop
noncomputable def FpOk (X:Cx) (pins:List (Addr×Obj)) (H:Hp) (b:Addr):Prop :=
  H b=none∧b≠X.env.locals∧b ∉ X.fs∧(b∈X.ex∨X.s₀.heap.objs.size≤b)∧(∀ x c,X.env.cells.lookup x=some c→c≠b)∧∀ p∈X.pn++pins,p.1≠b
theorem Inv.fpOk {X:Cx} {pins:List (Addr×Obj)} {σ:St} {H H':Hp} {s:Shared} {b:Addr} (I:Inv X pins σ H s) (hb:s.heap.objs.size≤b) (hn:H' b=none):FpOk X pins H' b:=by
  refine ⟨hn,Nat.ne_of_gt (Nat.lt_of_lt_of_le I.lt hb),I.nofs hb,.inr (Nat.le_trans I.sz hb),fun x c e z=>?_,fun p hp z=>?_⟩
  · obtain ⟨v,q⟩:=I.cell x c e
    exact absurd (Nat.lt_of_lt_of_le q.lt (by rw [z]; exact hb)) (Nat.lt_irrefl _)
  · exact absurd (Nat.lt_of_lt_of_le (Heap.lt_size (I.pin p hp).1) (by rw [z]; exact hb)) (Nat.lt_irrefl _)
structure Turn (P:Program) (w:World) (K:PySem.W.Frag) (tg:Expr) (J:It) (fp:List Addr) (it:Addr) (tn:Nat→Heap→Prop):Prop where
  mem:it∈fp
  obj:∀ i h,tn i h→∀ b∈fp,∃ o,h.get? b=some o∧∀ v,o.data≠.cell v
  keep:∀ i h h',tn i h→(∀ b∈fp,∀ o,h.get? b=some o→h'.get? b=some o)→tn i h'
  item:∀ (X:Cx),X.prog=P→X.w=w→X.K=K→X.calm=true→∀ (i:Nat) (pins:List (Addr×Obj)) (s:Shared) (σ:St) (H:Hp) (E:Value→Shared→Prop),Inv X pins σ H s→(∀ b∈fp,FpOk X pins H b)→tn i s.heap→J.go i H →
    wpAny (model P w) X.A (pyNext (.ref it)) (fun r s1=>∃ u,r=some u ∧
      wpAny (model P w) X.A (letOwnedTupleGo tg (.ref it) u) (fun _ s2=>∃ x H',Inv X pins σ H' s2∧RelV x u∧J.yld i H x H'∧tn (i+1) s2.heap∧∀ b∈fp,H' b=none) E s1) E s
  done:∀ (X:Cx),X.prog=P→X.w=w→X.K=K→X.calm=true→∀ (i:Nat) (pins:List (Addr×Obj)) (s:Shared) (σ:St) (H:Hp) (E:Value→Shared→Prop),Inv X pins σ H s→(∀ b∈fp,FpOk X pins H b)→tn i s.heap→J.stop i H →
    wpAny (model P w) X.A (pyNext (.ref it)) (fun r s1=>r=none∧Inv X pins σ H s1) E s
  self:∀ (A:Around) (i:Nat) (s:Shared) (Q:Value→Shared→Prop) (E:Value→Shared→Prop),tn i s.heap→Q (.ref it) s→wpAny (model P w) A (pyIter (.ref it)) Q E s
noncomputable abbrev TI:=St→Hp→(It→Hp→Prop)→Prop
noncomputable def PIE (X:Cx) (pins:List (Addr×Obj)) (σ:St) (tg:Expr) (R:It→Hp→Prop) (itv:Value) (s2:Shared):Prop :=
  ∃ (it:Addr) (fp:List Addr) (tn:Nat→Heap→Prop) (J:It) (H':Hp),itv=.ref it∧Inv X pins σ H' s2∧Turn X.prog X.w X.K tg J fp it tn∧tn 0 s2.heap∧(∀ b∈fp,FpOk X pins H' b)∧R J H'
noncomputable def PI (X:Cx) (tg iter:Expr) (wi:TI):Prop :=
  ∀ (pins:List (Addr×Obj)) (s:Shared) (σ:St) (H:Hp) (R:It→Hp→Prop),Inv X pins σ H s→wi σ H R →
    wpAny (model X.prog X.w) X.A (eval iter X.env) (fun v s1=>wpAny (model X.prog X.w) X.A (pyIter v) (PIE X pins σ tg R) X.xe s1) X.xe s

theorem go_of {M:Model} {A:Around} {E:Value→Shared→Prop} {s:Shared} {tg:Expr} {it:Addr} {u:Value} {o:Obj} {n:String} {vs:Array Value} {Q:Unit→Shared→Prop} (ho:s.heap.get? it=some o) (hc:o.cls=.type n) (hd:o.data=.fields vs)
    (hn:["enumerate","zip","dict_itemiterator","dict_reverseitemiterator","odict_iterator","itertools.zip_longest","itertools.pairwise"].contains n=false) (hQ:Q () s):wpAny M A (letOwnedTupleGo tg (.ref it) u) Q E s:=by
  unfold letOwnedTupleGo
  cases tg <;> first
    | exact wpAny_pure hQ
    | (cases u <;> first
        | exact wpAny_pure hQ
        | (refine wpAny_bind (wpAny_load ho ?_)
           rw [hc,hd]
           show wpAny M A (if (["enumerate","zip","dict_itemiterator","dict_reverseitemiterator","odict_iterator","itertools.zip_longest","itertools.pairwise"].contains n && vs[0]? == some (rawInt _))=true then _ else _) Q E s
           rw [if_neg (by intro h; rw [hn,Bool.false_and] at h; cases h)]
           exact wpAny_pure hQ))

noncomputable def Itl (K:PySem.W.Frag) (a:Addr):It :=
  ⟨fun i H=>∃ xs x,SqL K H a xs∧xs[i]?=some x,fun i H x H'=>H'=H∧∀ xs,SqL K H a xs→xs[i]?=some x,fun i H=>∃ xs,SqL K H a xs∧xs.length≤i⟩
noncomputable def Itt (K:PySem.W.Frag) (a:Addr):It :=
  ⟨fun i H=>∃ xs x,SqT K H a xs∧xs[i]?=some x,fun i H x H'=>H'=H∧∀ xs,SqT K H a xs→xs[i]?=some x,fun i H=>∃ xs,SqT K H a xs∧xs.length≤i⟩
noncomputable def Itr (lo:Int) (n:Nat):It:=⟨fun i _=>i < n,fun i H x H'=>H'=H∧x=.int (lo+i),fun i _=>n≤i⟩
theorem turn_list {P:Program} {w:World} {K:PySem.W.Frag} {tg:Expr} (a it:Addr):Turn P w K tg (Itl K a) [it] it (fun i h=>h.IsListIter it a i) where
  mem:=by simp
  obj:=fun i h st b hb=>by
    have e:b=it:=by simpa using hb
    subst e
    obtain ⟨o,e,c,d⟩:=st
    exact ⟨o,e,fun v z=>by rw [d] at z; cases z⟩
  keep:=fun i h h' st k=>st.at fun o e=>k it (by simp) o e
  item:=by
    intro X hP hw hK hc i pins s σ H E I hf st hg
    subst hP hw hK
    obtain ⟨xs,x,hq,hx⟩:=hg
    obtain ⟨its,rv,p,hz⟩:=I.list hq
    obtain ⟨u,hu,ru⟩:=rv.get hx
    obtain ⟨f0,f1,f2,f3,f4,f5⟩:=hf it (by simp)
    refine wpAny_pyNext_list_item st p.isList (x:=u) (by simpa using hu) fun h' st' sb=>?_
    have I1:Inv X pins σ H { s with heap:=h' }:=I.turned (t':=s.toks) (fun b o hb e=>(sb.2 b hb).trans e) f0 f1 f3 f4 f5
    obtain ⟨o,e,c,d⟩:=id st'
    exact ⟨u,rfl,go_of (s:={ s with heap:=h' }) e c d (by decide) ⟨x,H,I1,ru,⟨rfl,fun ys hy=>by rw [I.list_inj hy hq]; exact hx⟩,st',fun b hb=>(hf b hb).1⟩⟩
  done:=by
    intro X hP hw hK hc i pins s σ H E I hf st hg
    subst hP hw hK
    obtain ⟨xs,hq,hx⟩:=hg
    obtain ⟨its,rv,p,hz⟩:=I.list hq
    obtain ⟨f0,f1,f2,f3,f4,f5⟩:=hf it (by simp)
    have hl:=rv.length
    exact wpAny_pyNext_list_end (I.ok.hd hc) st p.isList (by simp; omega) fun h' eb=>⟨rfl,I.turned (t':=s.toks) (fun b o hb e=>eb b o hb e) f0 f1 f3 f4 f5⟩
  self:=fun _ _ _ _ _ st h=>wpAny_pyIter_listiter st h
theorem turn_tuple {P:Program} {w:World} {K:PySem.W.Frag} {tg:Expr} (a it:Addr):Turn P w K tg (Itt K a) [it] it (fun i h=>h.IsTupleIter it a i) where
  mem:=by simp
  obj:=fun i h st b hb=>by
    have e:b=it:=by simpa using hb
    subst e
    obtain ⟨o,e,c,d⟩:=st
    exact ⟨o,e,fun v z=>by rw [d] at z; cases z⟩
  keep:=fun i h h' st k=>st.at fun o e=>k it (by simp) o e
  item:=by
    intro X hP hw hK hc i pins s σ H E I hf st hg
    subst hP hw hK
    obtain ⟨xs,x,hq,hx⟩:=hg
    obtain ⟨its,rv,p,hz⟩:=I.tuple hq
    obtain ⟨u,hu,ru⟩:=rv.get hx
    obtain ⟨f0,f1,f2,f3,f4,f5⟩:=hf it (by simp)
    refine wpAny_pyNext_tuple_item st (show s.heap.IsTuple a its.toArray from p) (x:=u) (by simpa using hu) fun h' st' sb=>?_
    have I1:Inv X pins σ H { s with heap:=h' }:=I.turned (t':=s.toks) (fun b o hb e=>(sb.2 b hb).trans e) f0 f1 f3 f4 f5
    obtain ⟨o,e,c,d⟩:=id st'
    exact ⟨u,rfl,go_of (s:={ s with heap:=h' }) e c d (by decide) ⟨x,H,I1,ru,⟨rfl,fun ys hy=>by rw [I.tuple_inj hy hq]; exact hx⟩,st',fun b hb=>(hf b hb).1⟩⟩
  done:=by
    intro X hP hw hK hc i pins s σ H E I hf st hg
    subst hP hw hK
    obtain ⟨xs,hq,hx⟩:=hg
    obtain ⟨its,rv,p,hz⟩:=I.tuple hq
    obtain ⟨f0,f1,f2,f3,f4,f5⟩:=hf it (by simp)
    have hl:=rv.length
    exact wpAny_pyNext_tuple_end (I.ok.hd hc) st (show s.heap.IsTuple a its.toArray from p) (by simp; omega) fun h' eb=>⟨rfl,I.turned (t':=s.toks) (fun b o hb e=>eb b o hb e) f0 f1 f3 f4 f5⟩
  self:=fun _ _ _ _ _ st h=>wpAny_pyIter_tupleiter st h
theorem turn_range {P:Program} {w:World} {K:PySem.W.Frag} {tg:Expr} (it:Addr) (lo:Int) (n:Nat):Turn P w K tg (Itr lo n) [it] it (fun i h=>IsRangeIter h it (lo+(i:Nat) * 1) ((n:Int) - (i:Nat)) 1) where
  mem:=by simp
  obj:=fun i h st b hb=>by
    have e:b=it:=by simpa using hb
    subst e
    exact ⟨_,st,fun v z=>by
      have z':Data.fields _=Data.cell v:=z
      cases z'⟩
  keep:=fun i h h' st k=>k it (by simp) _ st
  item:=by
    intro X hP hw hK hc i pins s σ H E I hf st hg
    subst hP hw hK
    obtain ⟨f0,f1,f2,f3,f4,f5⟩:=hf it (by simp)
    have W:=Walks.range (prog:=X.prog) (w:=X.w) (I.ok.hd hc) it lo 1 n
    refine W.item i s _ _ hg st fun v h' tk hv st' kk=>?_
    obtain ⟨t,rfl⟩:=hv
    have I1:Inv X pins σ H { s with heap:=h',toks:=tk }:=I.turned (fun b o hb e=>kk b o (by simpa using hb) e) f0 f1 f3 f4 f5
    refine ⟨_,rfl,go_of (s:={ s with heap:=h',toks:=tk }) (n:="range_iterator") st' rfl rfl (by decide) ⟨.int (lo+i),H,I1,⟨t,?_⟩,⟨rfl,rfl⟩,st',fun b hb=>(hf b hb).1⟩⟩
    rw [Int.mul_one]
  done:=by
    intro X hP hw hK hc i pins s σ H E I hf st hg
    subst hP hw hK
    obtain ⟨f0,f1,f2,f3,f4,f5⟩:=hf it (by simp)
    exact wpAny_pyNext_range_end (I.ok.hd hc) st (by have:n≤i:=hg; omega) fun h' eb=>⟨rfl,I.turned (t':=s.toks) (fun b o hb e=>eb b o hb e) f0 f1 f3 f4 f5⟩
  self:=fun _ _ _ _ _ st h=>wpAny_pyIter_rangeiter st h
end L2
namespace L2
open PySem PySem.Spec PyProof.Rows
section
variable {X:Cx} {tg:Expr}
theorem range_it {pins:List (Addr×Obj)} {σ:St} {H:Hp} {s:Shared} {R:It→Hp→Prop} {E:Value→Shared→Prop} {lo hi:Int} {t u v:Tok} {tk:Nat} (I:Inv X pins σ H s) (h1:-(2 ^ 62)≤lo) (h2:lo < 2 ^ 62) (h3:-(2 ^ 62)≤hi) (h4:hi < 2 ^ 62)
    (q:R (Itr lo (hi - lo).toNat) H):wpAny (model X.prog X.w) X.A (pyIter (.ref s.heap.objs.size)) (PIE X pins σ tg R) E { s with heap:=s.heap.push { cls:=.type "range",data:=.fields #[.int lo t,.int hi u,.int 1 v] },toks:=tk }:=by
  refine wpAny_pyIter_range (IsRange.new ..) (small_one h1 h2 h3 h4) ?_
  have I1:Inv X pins σ H { s with heap:=s.heap.push { cls:=.type "range",data:=.fields #[.int lo t,.int hi u,.int 1 v] },toks:=tk }:=I.kept fun b o e=>Heap.get?_push_of_some _ e
  refine ⟨(s.heap.push { cls:=.type "range",data:=.fields #[.int lo t,.int hi u,.int 1 v] }).objs.size,[(s.heap.push { cls:=.type "range",data:=.fields #[.int lo t,.int hi u,.int 1 v] }).objs.size],_,_,H,rfl,
    I1.kept (t':=tk) fun b o e=>Heap.get?_push_of_some _ e,turn_range _ lo (hi - lo).toNat,?_,fun b hb=>?_,q⟩
  · have e1:lo+((0:Nat):Int) * 1=lo:=by simp
    have e2:(((hi - lo).toNat:Nat):Int) - ((0:Nat):Int)=Builtin.Range.rangeSize lo hi 1:=by rw [rangeSize_one]; split <;> omega
    show IsRangeIter _ _ (lo+((0:Nat):Int) * 1) ((((hi - lo).toNat:Nat):Int) - ((0:Nat):Int)) 1
    rw [e1,e2]
    exact Heap.get?_push_size _ rfl
  · have e:b=(s.heap.push { cls:=.type "range",data:=.fields #[.int lo t,.int hi u,.int 1 v] }).objs.size:=by simpa using hb
    subst e
    exact I1.fpOk (Nat.le_refl _) (I1.hok.fresh (Nat.le_refl _))
noncomputable def iRng1 (ta:TA):TI:=fun σ H R=>ta σ H fun vs H1=>∃ j:Int,vs=[.int j]∧-(2 ^ 62)≤j∧j < 2 ^ 62∧R (Itr 0 j.toNat) H1
noncomputable def iRng2 (ta:TA):TI:=fun σ H R=>ta σ H fun vs H1=>∃ i j:Int,vs=[.int i,.int j]∧(-(2 ^ 62)≤i∧i < 2 ^ 62∧-(2 ^ 62)≤j∧j < 2 ^ 62)∧R (Itr i (j - i).toNat) H1
theorem pi_range1 {a:Expr} {ta:TA} {p pos:Pos} (hg:Gl X "range") (hm:X.mg "range"=none) (ha:PA X [a] ta) (hs:starEach [a] X.env=[(false,eval a X.env)]:=by rfl):PI X tg (.Call (.Name "range" p) [a] [] pos) (iRng1 ta):=by
  intro pins s σ H R I h
  refine Call_ (ld_blt I hg hm boot_range (PyProof.Rows.callWith_type1 (thn (ha pos pins s σ H _ I h) fun us s1 hz0=>?_) hs rfl))
  obtain ⟨vs,H1,I1,r1,q1⟩:=hz0
  obtain ⟨j,e,q1,q2,q⟩:=q1
  subst e
  cases r1 with
  | cons r rr =>
    cases rr
    obtain ⟨t,rfl⟩:=r
    exact call_range_1 (range_it I1 (by omega) (by omega) q1 q2 (by simpa using q))
theorem pi_range2 {a b:Expr} {ta:TA} {p pos:Pos} (hg:Gl X "range") (hm:X.mg "range"=none) (ha:PA X [a,b] ta) (hs:starEach [a,b] X.env=[(false,eval a X.env),(false,eval b X.env)]:=by rfl) (hs2:starEach [b] X.env=[(false,eval b X.env)]:=by rfl) :
    PI X tg (.Call (.Name "range" p) [a,b] [] pos) (iRng2 ta):=by
  intro pins s σ H R I h
  refine Call_ (ld_blt I hg hm boot_range (PyProof.Rows.callWith_type1 (thn (ha pos pins s σ H _ I h) fun us s1 hz0=>?_) (by rw [hs,hs2]) (by rw [hs2]; rfl)))
  obtain ⟨vs,H1,I1,r1,q1⟩:=hz0
  obtain ⟨i,j,e,⟨q1,q2,q3,q4⟩,q⟩:=q1
  subst e
  cases r1 with
  | cons r rr =>
    cases rr with
    | cons r' rr =>
      cases rr
      obtain ⟨t,rfl⟩:=r
      obtain ⟨t',rfl⟩:=r'
      exact call_range_2 (range_it I1 q1 q2 q3 q4 q)

noncomputable def tFor (wi:TI) (g:TG) (tb:TS):TS:=fun D σ H=>wi σ H fun J H1=>∃ W:Nat→Nat→St→Hp→Prop,(∃ m,W 0 m σ H1)∧∀ i m σ H,W i m σ H →
  (J.stop i H∧D.nx σ H)∨(J.go i H∧∃ N:St→Hp→Prop,(∀ σ' H',N σ' H'→∃ m',m' < m∧W (i+1) m' σ' H')∧∀ x H',J.yld i H x H'→g x σ H' fun σ2 H2=>tb { D with nx:=N,ct:=N,bk:=D.nx } σ2 H2)
noncomputable def pinsAt (fp:List Addr) (h:Heap):List (Addr×Obj):=fp.filterMap fun b=>(h.get? b).map fun o=>(b,o)
theorem mem_pinsAt {fp:List Addr} {h:Heap} {b:Addr} {o:Obj} (hb:b∈fp) (e:h.get? b=some o):(b,o)∈pinsAt fp h:=List.mem_filterMap.mpr ⟨b,hb,by rw [e]; rfl⟩
theorem of_pinsAt {fp:List Addr} {h:Heap} {p:Addr×Obj} (hp:p∈pinsAt fp h):p.1∈fp∧h.get? p.1=some p.2:=by
  obtain ⟨b,hb,e⟩:=List.mem_filterMap.mp hp
  cases q:h.get? b with
  | none=>rw [q] at e; cases e
  | some o =>
    rw [q] at e
    have e':(b,o)=p:=Option.some.inj e
    subst e'
    exact ⟨hb,q⟩
theorem Inv.pinned {pins:List (Addr×Obj)} {σ:St} {H:Hp} {s:Shared} {fp:List Addr} (I:Inv X pins σ H s) (hf:∀ b∈fp,FpOk X pins H b) (ho:∀ b∈fp,∃ o,s.heap.get? b=some o∧∀ v,o.data≠.cell v):Inv X (pins++pinsAt fp s.heap) σ H s :=
  I.pins_of fun p hp=>(List.mem_append.mp hp).elim (fun z=>I.pin p (List.mem_append_right _ z)) fun z=>by
    obtain ⟨hb,e⟩:=of_pinsAt z
    obtain ⟨f0,f1,f2,_⟩:=hf p.1 hb
    obtain ⟨o,e',d⟩:=ho p.1 hb
    rw [e] at e'; cases e'
    exact ⟨e,f0,f1,f2,d⟩
theorem Inv.unpinned {pins pl:List (Addr×Obj)} {σ:St} {H:Hp} {s:Shared} (I:Inv X (pins++pl) σ H s):Inv X pins σ H s:=I.pins_of fun p hp=>I.pin p (List.mem_append_right _ (List.mem_append_left _ hp))
theorem ps_for {iter:Expr} {body:List Stmt} {wi:TI} {g:TG} {tb:TS} {pos:Pos} (hp:PassesOwn (model X.prog X.w) X.A X.env X.xe) (hc:X.calm=true) (hi:PI X tg iter wi) (hg:PG X tg g) (hb:PSs X body tb)
    (hs:∀ x,foldedSetIterable iter X.env x=pure x:=by intro _; rfl):PS X (.For tg iter body [] pos) (tFor wi g tb):=by
  intro pins s σ H D I h
  refine wpAny_For (thn (hi pins s σ H _ I h) fun v s1 h1=>thn h1 fun itv s2 h2=>?_) hs
  obtain ⟨it,fp,tn,J,H2,e,I2,T,st2,f2,W,⟨m0,w0⟩,turn⟩:=h2
  subst e
  -- what stays true of the iterator's objects through the loop
  have stat:∀ {H':Hp},(∀ b∈fp,H' b=none)→∀ b∈fp,FpOk X pins H' b:=fun hn b hb=>⟨hn b hb,(f2 b hb).2⟩
  refine codeAny_forLoop_any (fun n s'=>∃ i σ' H',Inv X pins σ' H' s'∧tn i s'.heap∧(∀ b∈fp,H' b=none)∧W i n σ' H') ?_ m0 ⟨0,σ,H2,I2,st2,fun b hb=>(f2 b hb).1,w0⟩
  rintro n s3 ⟨i,σ3,H3,I3,st3,fr3,w3⟩
  rcases turn i n σ3 H3 w3 with ⟨stop,qn⟩ | ⟨go,N,hN,step⟩
  · refine wpAny_passesOwn hp (thn (T.done X rfl rfl rfl hc i pins s3 σ3 H3 X.xe I3 (stat fr3) st3 stop) fun r s4 hz0=>?_)
    obtain ⟨hr,I4⟩:=hz0
    subst hr
    exact wpAny_execs_nil ⟨σ3,H3,I4,qn⟩
  · refine wpAny_passesOwn hp (thn (T.item X rfl rfl rfl hc i pins s3 σ3 H3 X.xe I3 (stat fr3) st3 go) fun r s4 hz0=>?_)
    obtain ⟨u,hr,h4⟩:=hz0
    subst hr
    refine wpAny_passesOwn hp (thn h4 fun _ s5 hz0=>?_)
    obtain ⟨x,H5,I5,r5,y5,st5,fr5⟩:=hz0
    have I5':=I5.pinned (stat fr5) (T.obj _ _ st5)
    refine wpAny_passesOwn hp (thn (hg _ s5 σ3 H5 x u _ I5' r5 (step x H5 y5)) fun _ s6 hz0=>?_)
    obtain ⟨σ6,H6,I6,q6⟩:=hz0
    refine wpAny_passesOwn hp (thn (hb _ s6 σ6 H6 _ I6 q6) fun f s7 q7=>?_)
    have again:∀ {σ7:St} {H7:Hp},Inv X (pins++pinsAt fp s5.heap) σ7 H7 s7→N σ7 H7→∃ m,m < n∧∃ i σ' H',Inv X pins σ' H' s7∧tn i s7.heap∧(∀ b∈fp,H' b=none)∧W i m σ' H':=fun {σ7 H7} I7 n7=>by
      obtain ⟨m',hm,w7⟩:=hN σ7 H7 n7
      refine ⟨m',hm,i+1,σ7,H7,I7.unpinned,T.keep _ _ _ st5 fun b hb o e=>(I7.pin (b,o) (List.mem_append_right _ (List.mem_append_right _ (mem_pinsAt hb e)))).1,fun b hb=>?_,w7⟩
      obtain ⟨o,e,d⟩:=T.obj _ _ st5 b hb
      exact (I7.pin (b,o) (List.mem_append_right _ (List.mem_append_right _ (mem_pinsAt hb e)))).2.1
    cases f with
    | next=>obtain ⟨σ7,H7,I7,n7⟩:=q7; exact again I7 n7
    | cont=>obtain ⟨σ7,H7,I7,n7⟩:=q7; exact again I7 n7
    | brk=>obtain ⟨σ7,H7,I7,q7⟩:=q7; exact ⟨σ7,H7,I7.unpinned,q7⟩
    | ret v=>obtain ⟨x7,σ7,H7,I7,r7,q7⟩:=q7; exact ⟨x7,σ7,H7,I7.unpinned,r7,q7⟩
end
end L2
namespace L2
open PySem PySem.Spec PyProof.Rows
noncomputable abbrev R2:=V→V→Hp→VK→Prop
noncomputable def OpR (X:Cx) (f:Value→Value→Sem Value) (r:R2):Prop :=
  ∀ (pins:List (Addr×Obj)) (s:Shared) (σ:St) (H:Hp) (x y:V) (v u:Value) (Q:VK),Inv X pins σ H s→RelV x v→RelV y u→r x y H Q →
    wpAny (model X.prog X.w) X.A (f v u) (EP X pins σ Q) X.xe s
noncomputable def UnR (X:Cx) (f:Value→Sem Value) (r:V→Hp→VK→Prop):Prop :=
  ∀ (pins:List (Addr×Obj)) (s:Shared) (σ:St) (H:Hp) (x:V) (v:Value) (Q:VK),Inv X pins σ H s→RelV x v→r x H Q →
    wpAny (model X.prog X.w) X.A (f v) (EP X pins σ Q) X.xe s
noncomputable def CallR (X:Cx) (f:Value) (r:List V→Hp→VK→Prop):Prop :=
  ∀ (pins:List (Addr×Obj)) (s:Shared) (σ:St) (H:Hp) (xs:List V) (us:List Value) (Q:VK),Inv X pins σ H s→Vals xs us→r xs H Q →
    wpAny (model X.prog X.w) X.A (call f us) (EP X pins σ Q) X.xe s
noncomputable def TruR (X:Cx) (r:V→Hp→(Bool→Hp→Prop)→Prop):Prop :=
  ∀ (pins:List (Addr×Obj)) (s:Shared) (σ:St) (H:Hp) (x:V) (v:Value) (Q:Bool→Hp→Prop),Inv X pins σ H s→RelV x v→r x H Q →
    wpAny (model X.prog X.w) X.A (truthy v) (TP X pins σ Q) X.xe s

noncomputable def tOp (r:R2) (ta tb:TE):TE:=fun σ H Q=>ta σ H fun x H1=>tb σ H1 fun y H2=>r x y H2 Q
noncomputable def tUn (r:V→Hp→VK→Prop) (ta:TE):TE:=fun σ H Q=>ta σ H fun x H1=>r x H1 Q
noncomputable def rI (C:Int→Int→Prop) (g:Int→Int→V):R2:=fun x y H Q=>∃ i j,x=.int i∧y=.int j∧C i j∧Q (g i j) H
noncomputable def rI0 (g:Int→Int→V):R2:=fun x y H Q=>∃ i j,x=.int i∧y=.int j∧Q (g i j) H
noncomputable def rU (g:Int→V):V→Hp→VK→Prop:=fun x H Q=>∃ i,x=.int i∧Q (g i) H

section
variable {X:Cx} {a b c:Expr} {ta tb tc:TE} {pos:Pos}
theorem binT (ha:PE X a ta) (hb:PE X b tb) {pins:List (Addr×Obj)} {s:Shared} {σ:St} {H:Hp} {R:V→V→Hp→Prop} (I:Inv X pins σ H s)
    (h:ta σ H fun x H1=>tb σ H1 fun y H2=>R x y H2) {Q:Value→Shared→Prop} {f:Value→Value→Sem Value}
    (hf:∀ v u s2 x y H2,Inv X pins σ H2 s2→RelV x v→RelV y u→R x y H2→wpAny (model X.prog X.w) X.A (f v u) Q X.xe s2) :
    wpAny (model X.prog X.w) X.A (eval a X.env) (fun v s₁=>wpAny (model X.prog X.w) X.A (eval b X.env) (fun u s₂=>wpAny (model X.prog X.w) X.A (f v u) Q X.xe s₂) X.xe s₁) X.xe s:=by
  refine thn (ha pins s σ H _ I h) fun v s1 hz0=>?_
  obtain ⟨x,H1,I1,r1,q1⟩:=hz0
  refine thn (hb pins s1 σ H1 _ I1 q1) fun u s2 hz0=>?_
  obtain ⟨y,H2,I2,r2,q2⟩:=hz0
  exact hf v u s2 x y H2 I2 r1 r2 q2

theorem pe_op {op:Operator} {r:R2} (ho:OpR X (binaryOp op) r) (ha:PE X a ta) (hb:PE X b tb):PE X (.BinOp a op b pos) (tOp r ta tb):=by
  intro pins s σ H Q I h
  exact wpAny_BinOp (binT ha hb I h fun v u s2 x y H2 I2 rx ry q=>ho pins s2 σ H2 x y v u Q I2 rx ry q)
theorem pe_un {op:UnaryOp} {r:V→Hp→VK→Prop} (ho:UnR X (unaryOp op) r) (ha:PE X a ta):PE X (.UnaryOp op a pos) (tUn r ta):=by
  intro pins s σ H Q I h
  exact UnaryOp_ (thn (ha pins s σ H _ I h) fun v s1 ⟨x,H1,I1,r1,q1⟩=>ho pins s1 σ H1 x v Q I1 r1 q1)
theorem opI {f:Value→Value→Sem Value} {C:Int→Int→Prop} {g:Int→Int→Int}
    (rule:∀ (i j:Int) (t u:Tok) (s:Shared) (Q:Value→Shared→Prop) (E:Value→Shared→Prop),C i j→Q (.int (g i j) s.toks) { s with toks:=s.toks+1 }→wpAny (model X.prog X.w) X.A (f (.int i t) (.int j u)) Q E s) :
    OpR X f (rI C fun i j=>.int (g i j)):=by
  intro pins s σ H x y v u Q I rx ry h
  obtain ⟨i,j,rfl,rfl,hc,q⟩:=h
  obtain ⟨t,rfl⟩:=rx
  obtain ⟨t',rfl⟩:=ry
  exact rule i j t t' s _ _ hc ⟨.int (g i j),H,I.tok _,⟨_,rfl⟩,q⟩
theorem opI0 {f:Value→Value→Sem Value} {g:Int→Int→Int}
    (rule:∀ (i j:Int) (t u:Tok) (s:Shared) (Q:Value→Shared→Prop) (E:Value→Shared→Prop),Q (.int (g i j) s.toks) { s with toks:=s.toks+1 }→wpAny (model X.prog X.w) X.A (f (.int i t) (.int j u)) Q E s) :
    OpR X f (rI0 fun i j=>.int (g i j)):=by
  intro pins s σ H x y v u Q I rx ry h
  obtain ⟨i,j,rfl,rfl,q⟩:=h
  obtain ⟨t,rfl⟩:=rx
  obtain ⟨t',rfl⟩:=ry
  exact rule i j t t' s _ _ ⟨.int (g i j),H,I.tok _,⟨_,rfl⟩,q⟩
theorem opB0 {f:Value→Value→Sem Value} {g:Int→Int→Bool}
    (rule:∀ (i j:Int) (t u:Tok) (s:Shared) (Q:Value→Shared→Prop) (E:Value→Shared→Prop),Q (.bool (g i j)) s→wpAny (model X.prog X.w) X.A (f (.int i t) (.int j u)) Q E s) :
    OpR X f (rI0 fun i j=>.bl (g i j)):=by
  intro pins s σ H x y v u Q I rx ry h
  obtain ⟨i,j,rfl,rfl,q⟩:=h
  obtain ⟨t,rfl⟩:=rx
  obtain ⟨t',rfl⟩:=ry
  exact rule i j t t' s _ _ ⟨.bl (g i j),H,I,rfl,q⟩

noncomputable def CDiv (i j:Int):Prop:=0 < j∧j < 1073741824
noncomputable def CPow (i j:Int):Prop:=0≤j∧j≤1000000∧i.natAbs < 2 ^ 64
noncomputable def CMul (i j:Int):Prop:=(-(2 ^ 64) < i∧i < 2 ^ 64)∨(-(2 ^ 64) < j∧j < 2 ^ 64)
theorem CMul.ok {i j:Int} (h:CMul i j):IntMulOk i j:=by
  rcases h with ⟨h1,h2⟩ | ⟨h1,h2⟩
  · exact .of_left (intBits_le_64 h1 h2)
  · exact .of_right (intBits_le_64 h1 h2)
theorem op_add:OpR X (binaryOp .Add) (rI0 fun i j=>.int (i+j)):=opI0 fun _ _ _ _ _ _ _ q=>add_int q
theorem op_sub:OpR X (binaryOp .Sub) (rI0 fun i j=>.int (i - j)):=opI0 fun _ _ _ _ _ _ _ q=>sub_int q
theorem op_mul:OpR X (binaryOp .Mult) (rI CMul fun i j=>.int (i * j)):=opI fun _ _ _ _ _ _ _ hc q=>mul_int q hc.ok
theorem op_fdiv:OpR X (binaryOp .FloorDiv) (rI CDiv fun i j=>.int (i / j)):=opI fun i j _ _ _ _ _ hc q=>by
  have h1:(0:Int) < j:=hc.1
  have h2:j < 1073741824:=hc.2
  exact floordiv_int (by omega) (by rw [Int.fdiv_eq_ediv_of_nonneg i (by omega)]; exact q) (.inl (PyProof.noPylong_small (by omega)))
theorem op_mod:OpR X (binaryOp .Mod) (rI (fun _ j=>0 < j) fun i j=>.int (i % j)):=opI fun i j _ _ _ _ _ hc q=>by
  have h1:(0:Int) < j:=hc
  exact mod_int' (by omega) (by rw [Int.fmod_eq_emod_of_nonneg i (by omega)]; exact q)
theorem op_modN:OpR X (binaryOp .Mod) (rI (fun _ j=>j≠0) fun i j=>.int (i.fmod j)):=opI fun _ _ _ _ _ _ _ hc q=>mod_int' hc q
theorem op_pow:OpR X (binaryOp .Pow) (rI CPow fun i j=>.int (i ^ j.toNat)):=opI fun _ _ _ _ _ _ _ hc q=>pow_int_small hc.1 hc.2.1 hc.2.2 q
theorem iop_add:OpR X (inplaceOp .Add) (rI0 fun i j=>.int (i+j)):=opI0 fun _ _ _ _ _ _ _ q=>iadd_int q
theorem unI {f:Value→Sem Value} {g:Int→Int}
    (rule:∀ (i:Int) (t:Tok) (s:Shared) (Q:Value→Shared→Prop) (E:Value→Shared→Prop),Q (.int (g i) s.toks) { s with toks:=s.toks+1 }→wpAny (model X.prog X.w) X.A (f (.int i t)) Q E s) :
    UnR X f (rU fun i=>.int (g i)):=by
  intro pins s σ H x v Q I rx h
  obtain ⟨i,rfl,q⟩:=h
  obtain ⟨t,rfl⟩:=rx
  exact rule i t s _ _ ⟨.int (g i),H,I.tok _,⟨_,rfl⟩,q⟩
theorem un_neg:UnR X (unaryOp .USub) (rU fun i=>.int (-i)):=unI fun _ _ _ _ _ q=>neg_int q
end
noncomputable def scal:V→V→Bool
  | .non,.non=>true | .non,.int _=>true | .int _,.non=>true | .non,.bl _=>true | .bl _,.non=>true | .non,.str _=>true | .str _,.non=>true
  | .int _,.int _=>true | .bl _,.bl _=>true | .str _,.str _=>true | .byt _,.byt _=>true
  | .int _,.str _=>true | .str _,.int _=>true | .bl _,.str _=>true | .str _,.bl _=>true
  | _,_=>false
noncomputable def rEq:R2:=fun x y H Q=>scal x y=true∧Q (.bl (decide (x=y))) H
noncomputable def rNe:R2:=fun x y H Q=>scal x y=true∧Q (.bl (!decide (x=y))) H

theorem dec_int {i j:Int}:decide (V.int i=V.int j)=(i == j):=by
  rw [Bool.eq_iff_iff]
  simp
theorem dec_bl {i j:Bool}:decide (V.bl i=V.bl j)=(i == j):=by
  rw [Bool.eq_iff_iff]
  simp
theorem dec_str {i j:Str}:decide (V.str i=V.str j)=(i == j):=by
  rw [Bool.eq_iff_iff]
  simp
theorem dec_byt {i j:Array UInt8}:decide (V.byt i=V.byt j)=(i.toList == j.toList):=by
  rw [Bool.eq_iff_iff]
  cases i
  cases j
  simp

section
variable {X:Cx} {a b c:Expr} {ta tb tc:TE} {pos:Pos}
theorem fin_bl {pins:List (Addr×Obj)} {σ:St} {H:Hp} {s:Shared} {Q:VK} {k k':Bool} (I:Inv X pins σ H s) (q:Q (.bl k) H) (e:k=k'):EP X pins σ Q (.bool k') s:=by
  subst e
  exact ⟨.bl k,H,I,rfl,q⟩
theorem op_eq:OpR X (compareOp .Eq) rEq:=by
  intro pins s σ H x y v u Q I rx ry h
  obtain ⟨hs,q⟩:=h
  cases x with
  | non =>
    cases rx
    cases y with
    | non=>cases ry; exact PySem.EqNone.eq_none_none (fin_bl I q (by simp))
    | bl j=>cases ry; exact PySem.EqNone.eq_none_bool (fin_bl I q (by simp))
    | int j=>obtain ⟨t',rfl⟩:=ry; exact PySem.EqNone.eq_none_int (fin_bl I q (by simp))
    | str j=>obtain ⟨t',rfl⟩:=ry; exact PySem.EqNone.eq_none_str (fin_bl I q (by simp))
    | _=>exact absurd (show false=true from hs) Bool.false_ne_true
  | bl i =>
    cases rx
    cases y with
    | non=>cases ry; exact PySem.EqNone.eq_bool_none (fin_bl I q (by simp))
    | bl j=>cases ry; exact eq_bool (fin_bl I q dec_bl)
    | str j=>obtain ⟨t',rfl⟩:=ry; exact PySem.EqMixed.eq_bool_str (fin_bl I q (by simp))
    | _=>exact absurd (show false=true from hs) Bool.false_ne_true
  | int i =>
    obtain ⟨t,rfl⟩:=rx
    cases y with
    | non=>cases ry; exact PySem.EqNone.eq_int_none (fin_bl I q (by simp))
    | int j=>obtain ⟨t',rfl⟩:=ry; exact eq_int (fin_bl I q dec_int)
    | str j=>obtain ⟨t',rfl⟩:=ry; exact PySem.EqMixed.eq_int_str (fin_bl I q (by simp))
    | _=>exact absurd (show false=true from hs) Bool.false_ne_true
  | str i =>
    obtain ⟨t,rfl⟩:=rx
    cases y with
    | non=>cases ry; exact PySem.EqNone.eq_str_none (fin_bl I q (by simp))
    | bl j=>cases ry; exact PySem.EqMixed.eq_str_bool (fin_bl I q (by simp))
    | int j=>obtain ⟨t',rfl⟩:=ry; exact PySem.EqMixed.eq_str_int (fin_bl I q (by simp))
    | str j=>obtain ⟨t',rfl⟩:=ry; exact eq_str (fin_bl I q dec_str)
    | _=>exact absurd (show false=true from hs) Bool.false_ne_true
  | byt i =>
    obtain ⟨t,rfl⟩:=rx
    cases y with
    | byt j=>obtain ⟨t',rfl⟩:=ry; exact PySem.W.eq_bytes (fin_bl I q dec_byt)
    | _=>exact absurd (show false=true from hs) Bool.false_ne_true
  | _=>cases y <;> exact absurd (show false=true from hs) Bool.false_ne_true
theorem op_ne:OpR X (compareOp .NotEq) rNe:=by
  intro pins s σ H x y v u Q I rx ry h
  obtain ⟨hs,q⟩:=h
  cases x with
  | non =>
    cases rx
    cases y with
    | non=>cases ry; exact PySem.EqNone.ne_none_none (fin_bl I q (by simp))
    | bl j=>cases ry; exact PySem.EqNone.ne_none_bool (fin_bl I q (by simp))
    | int j=>obtain ⟨t',rfl⟩:=ry; exact PySem.EqNone.ne_none_int (fin_bl I q (by simp))
    | str j=>obtain ⟨t',rfl⟩:=ry; exact PySem.EqNone.ne_none_str (fin_bl I q (by simp))
    | _=>exact absurd (show false=true from hs) Bool.false_ne_true
  | bl i =>
    cases rx
    cases y with
    | non=>cases ry; exact PySem.EqNone.ne_bool_none (fin_bl I q (by simp))
    | bl j=>cases ry; exact ne_bool (fin_bl I q (congrArg not dec_bl))
    | str j=>obtain ⟨t',rfl⟩:=ry; exact PySem.EqMixed.ne_bool_str (fin_bl I q (by simp))
    | _=>exact absurd (show false=true from hs) Bool.false_ne_true
  | int i =>
    obtain ⟨t,rfl⟩:=rx
    cases y with
    | non=>cases ry; exact PySem.EqNone.ne_int_none (fin_bl I q (by simp))
    | int j=>obtain ⟨t',rfl⟩:=ry; exact ne_int (fin_bl I q (congrArg not dec_int))
    | str j=>obtain ⟨t',rfl⟩:=ry; exact PySem.EqMixed.ne_int_str (fin_bl I q (by simp))
    | _=>exact absurd (show false=true from hs) Bool.false_ne_true
  | str i =>
    obtain ⟨t,rfl⟩:=rx
    cases y with
    | non=>cases ry; exact PySem.EqNone.ne_str_none (fin_bl I q (by simp))
    | bl j=>cases ry; exact PySem.EqMixed.ne_str_bool (fin_bl I q (by simp))
    | int j=>obtain ⟨t',rfl⟩:=ry; exact PySem.EqMixed.ne_str_int (fin_bl I q (by simp))
    | str j=>obtain ⟨t',rfl⟩:=ry; exact ne_str (fin_bl I q (congrArg not dec_str))
    | _=>exact absurd (show false=true from hs) Bool.false_ne_true
  | byt i =>
    obtain ⟨t,rfl⟩:=rx
    cases y with
    | byt j=>obtain ⟨t',rfl⟩:=ry; exact PySem.W.ne_bytes (fin_bl I q (congrArg not dec_byt))
    | _=>exact absurd (show false=true from hs) Bool.false_ne_true
  | _=>cases y <;> exact absurd (show false=true from hs) Bool.false_ne_true

theorem op_lt:OpR X (compareOp .Lt) (rI0 fun i j=>.bl (decide (i < j))):=opB0 fun _ _ _ _ _ _ _ q=>lt_int q
theorem op_le:OpR X (compareOp .LtE) (rI0 fun i j=>.bl (decide (i≤j))):=opB0 fun _ _ _ _ _ _ _ q=>le_int q
theorem op_gt:OpR X (compareOp .Gt) (rI0 fun i j=>.bl (decide (j < i))):=opB0 fun _ _ _ _ _ _ _ q=>gt_int q
theorem op_ge:OpR X (compareOp .GtE) (rI0 fun i j=>.bl (decide (j≤i))):=opB0 fun _ _ _ _ _ _ _ q=>ge_int q
theorem op_isN:OpR X (compareOp .Is) (fun x y H Q=>y=.non∧Q (.bl (decide (x=.non))) H):=by
  intro pins s σ H x y v u Q I rx ry h
  obtain ⟨rfl,q⟩:=h
  cases ry
  refine is_none_gen (fin_bl I q ?_)
  cases x <;> first
    | (cases rx; rfl)
    | (obtain ⟨t,rfl⟩:=rx; rfl)
theorem OpR.or {f:Value→Value→Sem Value} {r r':R2} (h:OpR X f r) (h':OpR X f r'):OpR X f (fun x y H Q=>r x y H Q∨r' x y H Q):=by
  intro pins s σ H x y v u Q I rx ry q
  rcases q with q | q
  · exact h pins s σ H x y v u Q I rx ry q
  · exact h' pins s σ H x y v u Q I rx ry q

theorem nomark (b:Expr) {op:CmpOp} (h:op≠.In:=by decide) (h2:op≠.NotIn:=by decide):behindInMarks op b=false:=by
  have e1:(op == CmpOp.In)=false:=by cases op <;> first | rfl | exact absurd rfl h
  have e2:(op == CmpOp.NotIn)=false:=by cases op <;> first | rfl | exact absurd rfl h2
  cases b <;> first | rfl | (show (_ && (op == CmpOp.In || op == CmpOp.NotIn) && _)=false; rw [e1,e2,Bool.or_false,Bool.and_false,Bool.false_and])
theorem pe_cmpR {op:CmpOp} {r:R2} (ho:OpR X (compareOp op) r) (ha:PE X a ta) (hb:PE X b tb) (hm:behindInMarks op b=false):PE X (.Compare a [op] [b] pos) (tOp r ta tb):=by
  intro pins s σ H Q I h
  exact wpAny_Compare1 (binT ha hb I h fun v u s2 x y H2 I2 rx ry q=>ho pins s2 σ H2 x y v u Q I2 rx ry q) hm
noncomputable def tTest (t:TE):TT:=fun σ H Q=>t σ H fun x H'=>∃ k,x=.bl k∧Q k H'
theorem pt_cmpR {op:CmpOp} {r:R2} (ho:OpR X (compareOp op) r) (ha:PE X a ta) (hb:PE X b tb) (hm:behindInMarks op b=false):PT X (.Compare a [op] [b] pos) (tTest (tOp r ta tb)):=by
  intro pins s σ H Q I h
  refine wpAny_isTrue_Compare1 (thn (ha pins s σ H _ I h) fun v s1 ⟨x,H1,I1,r1,q1⟩=>thn (hb pins s1 σ H1 _ I1 q1) fun u s2 ⟨y,H2,I2,r2,q2⟩ =>
    thn (ho pins s2 σ H2 x y v u _ I2 r1 r2 q2) fun c s3 ⟨z,H3,I3,r3,k,e,q3⟩=>?_) hm
  subst e
  cases r3
  exact wpAny_truthy_bool ⟨H3,I3,q3⟩
noncomputable def tChain (r r':R2) (ta tb tc:TE):TE:=fun σ H Q=>ta σ H fun x H1=>tb σ H1 fun y H2=>r x y H2 fun z H3=>∃ k,z=.bl k ∧
  (if k=true then tc σ H3 fun w' H4=>r' y w' H4 Q else Q (.bl false) H3)
theorem pe_chain {op op':CmpOp} {r r':R2} (ho:OpR X (compareOp op) r) (ho':OpR X (compareOp op') r') (ha:PE X a ta) (hb:PE X b tb) (hc:PE X c tc)
    (hm:lastMarks [op,op'] [b,c]=false:=by with_unfolding_all rfl):PE X (.Compare a [op,op'] [b,c] pos) (tChain r r' ta tb tc):=by
  intro pins s σ H Q I h
  refine Compare_chain (thn (ha pins s σ H _ I h) fun v s1 ⟨x,H1,I1,r1,q1⟩=>chain_link (thn (hb pins s1 σ H1 _ I1 q1) fun u s2 ⟨y,H2,I2,r2,q2⟩ =>
    thn (ho pins s2 σ H2 x y v u _ I2 r1 r2 q2) fun d s3 ⟨z,H3,I3,r3,k,e,q3⟩=>?_)) hm
  subst e
  cases r3
  refine wpAny_truthy_bool ?_
  cases k with
  | false=>exact ite_ff ⟨.bl false,H3,I3,rfl,q3⟩
  | true=>exact ite_tt (chain_last (thn (hc pins s3 σ H3 _ I3 q3) fun w' s4 ⟨z',H4,I4,r4,q4⟩=>ho' pins s4 σ H4 y z' u w' Q I4 r2 r4 q4))
theorem pt_chain {op op':CmpOp} {r r':R2} (ho:OpR X (compareOp op) r) (ho':OpR X (compareOp op') r') (ha:PE X a ta) (hb:PE X b tb) (hc:PE X c tc)
    (hm:lastMarks [op,op'] [b,c]=false:=by with_unfolding_all rfl):PT X (.Compare a [op,op'] [b,c] pos) (tTest (tChain r r' ta tb tc)):=by
  intro pins s σ H Q I h
  refine isTrue_chain (thn (ha pins s σ H _ I h) fun v s1 ⟨x,H1,I1,r1,q1⟩=>test_link (thn (hb pins s1 σ H1 _ I1 q1) fun u s2 ⟨y,H2,I2,r2,q2⟩ =>
    thn (ho pins s2 σ H2 x y v u _ I2 r1 r2 q2) fun d s3 ⟨z,H3,I3,r3,k,e,q3⟩=>?_)) hm
  subst e
  cases r3
  refine wpAny_truthy_bool ?_
  cases k with
  | false =>
    obtain ⟨k',e',q'⟩:=q3
    cases e'
    exact ite_ff ⟨H3,I3,q'⟩
  | true =>
    refine ite_tt (test_last (thn (hc pins s3 σ H3 _ I3 q3) fun w' s4 ⟨z',H4,I4,r4,q4⟩=>thn (ho' pins s4 σ H4 y z' u w' _ I4 r2 r4 q4) fun d' s5 hz0=>?_))
    obtain ⟨z2,H5,I5,r5,k2,e2,q5⟩:=hz0
    subst e2
    cases r5
    exact wpAny_truthy_bool ⟨H5,I5,q5⟩

noncomputable def TruV (K:PySem.W.Frag) (x:V) (H:Hp) (k:Bool):Prop :=
  match x with
  | .non=>k=false
  | .bl b=>k=b
  | .int i=>k=(i != 0)
  | .str y=>y.length≤sizeLine∧k=((y.length:Int) != 0)
  | .byt y=>y.size≤sizeLine∧k=((y.size:Int) != 0)
  | .ref p=>(∃ xs,SqL K H p xs∧k=!xs.isEmpty)∨(∃ xs,SqT K H p xs∧k=!xs.isEmpty)∨∃ kvs,H p=some (.dK kvs)∧k=!kvs.isEmpty
  | _=>False
theorem isEmpty_kv {κ:Type} {kvs:List (κ×V)} {vs:List (κ×Value)} (r:KV kvs vs):(!vs.isEmpty)=!kvs.isEmpty:=by
  cases r <;> rfl
theorem isEmpty_of {xs:List V} {its:List Value} (r:Vals xs its):(!its.toArray.isEmpty)=!xs.isEmpty:=by
  cases r <;> simp
theorem line63:(sizeLine:Nat) < 2 ^ 63:=by rw [sizeLine_eq]; decide
theorem tru_ok:TruR X (fun x H Q=>∃ k,TruV X.K x H k∧Q k H):=by
  intro pins s σ H x v Q I rx h
  obtain ⟨k,e,q⟩:=h
  have hl:=line63
  have hs:sizeLine=16777216:=sizeLine_eq
  cases x with
  | non =>
    cases rx
    have e':k=false:=e
    subst e'
    exact truthy_none ⟨H,I,q⟩
  | bl b =>
    cases rx
    have e':k=b:=e
    subst e'
    exact wpAny_truthy_bool ⟨H,I,q⟩
  | int i =>
    obtain ⟨t,rfl⟩:=rx
    have e':k=(i != 0):=e
    subst e'
    exact PySem.P.truthy_int ⟨H,I,q⟩
  | str y =>
    obtain ⟨t,rfl⟩:=rx
    obtain ⟨hy,e'⟩:y.length≤sizeLine∧k=((y.length:Int) != 0):=e
    subst e'
    exact PySem.P.truthy_str (by omega) ⟨H,I.tok _,q⟩
  | byt y =>
    obtain ⟨t,rfl⟩:=rx
    obtain ⟨hy,e'⟩:y.size≤sizeLine∧k=((y.size:Int) != 0):=e
    subst e'
    exact PySem.W.truthy_bytes (by omega) ⟨H,I.tok _,q⟩
  | ref p =>
    cases rx
    have e':(∃ xs,SqL X.K H p xs∧k=!xs.isEmpty)∨(∃ xs,SqT X.K H p xs∧k=!xs.isEmpty)∨∃ kvs,H p=some (.dK kvs)∧k=!kvs.isEmpty:=e
    rcases e' with ⟨xs,hx,e'⟩ | ⟨xs,hx,e'⟩ | ⟨kvs,hx,e'⟩
    · subst e'
      obtain ⟨its,r,pl,hz⟩:=I.list hx
      have hlen:=r.length
      exact wpAny_truthy_list pl.isList (by simp only [List.size_toArray]; omega) ⟨H,I.tok _,by rw [isEmpty_of r]; exact q⟩
    · subst e'
      obtain ⟨its,r,pl,hz⟩:=I.tuple hx
      have hlen:=r.length
      exact truthy_tuple pl (by simp only [List.size_toArray]; omega) ⟨H,I.tok _,by rw [isEmpty_of r]; exact q⟩
    · subst e'
      obtain ⟨hz,hS,vs,r,m⟩:kvs.length≤sizeLine∧(p == sysModules)=false∧∃ vs,KV kvs vs∧s.heap.DictOf (mixKind X.prog X.w) p vs:=I.hok p _ hx
      have hlen:kvs.length=vs.length:=Paired.length r
      exact wpAny_truthy_dict hS m (by omega) ⟨H,I.tok _,by rw [isEmpty_kv r]; exact q⟩
  | _=>exact (show False from e).elim
theorem pt_truth (ha:PE X a ta) (he:∀ whole,isTrue a X.env whole=(do let v ← whole; standAt a.pos; holding [v] (truthy v))) :
    PT X a (fun σ H Q=>ta σ H fun x H'=>∃ k,TruV X.K x H' k∧Q k H'):=by
  intro pins s σ H Q I h
  exact isTrue_plain (thn (ha pins s σ H _ I h) fun v s1 ⟨x,H1,I1,r1,q1⟩=>tru_ok pins s1 σ H1 x v Q I1 r1 q1) (he _)

theorem vals1 {x:V} {us:List Value} (r:Vals [x] us):∃ u,us=[u]∧RelV x u:=by
  cases r with
  | cons r1 r2=>cases r2; exact ⟨_,rfl,r1⟩
theorem vals2 {x y:V} {us:List Value} (r:Vals [x,y] us):∃ u w',us=[u,w']∧RelV x u∧RelV y w':=by
  cases r with
  | cons r1 r2 =>
    cases r2 with
    | cons r3 r4=>cases r4; exact ⟨_,_,rfl,r1,r3⟩
theorem call_abs:CallR X (.builtin "abs") (fun xs H Q=>∃ i,xs=[.int i]∧Q (.int (if i < 0 then -i else i)) H):=by
  intro pins s σ H xs us Q I r h
  obtain ⟨i,rfl,q⟩:=h
  obtain ⟨u,rfl,t,rfl⟩:=vals1 r
  exact call_abs_int fun u tk=>⟨.int (if i < 0 then -i else i),H,I.tok _,⟨_,rfl⟩,q⟩
theorem call_max2 (hc:X.calm=true):CallR X (.builtin "max") (fun xs H Q=>∃ i j,xs=[.int i,.int j]∧Q (.int (if j > i then j else i)) H):=by
  intro pins s σ H xs us Q I r h
  obtain ⟨i,j,rfl,q⟩:=h
  obtain ⟨u,w',rfl,⟨t,rfl⟩,⟨t',rfl⟩⟩:=vals2 r
  refine max_two_ints (I.ok.hd hc) fun h' tk k=>⟨_,H,I.kept k,?_,q⟩
  by_cases hj:j > i
  · rw [if_pos hj,if_pos hj]; exact ⟨_,rfl⟩
  · rw [if_neg hj,if_neg hj]; exact ⟨_,rfl⟩
theorem call_int1:CallR X (.type "int") (fun xs H Q=>(∃ i,xs=[.int i]∧Q (.int i) H)∨∃ k,xs=[.bl k]∧Q (.int (if k then 1 else 0)) H):=by
  intro pins s σ H xs us Q I r h
  rcases h with ⟨i,rfl,q⟩ | ⟨k,rfl,q⟩
  · obtain ⟨u,rfl,t,rfl⟩:=vals1 r
    exact call_int_int ⟨.int i,H,I,⟨_,rfl⟩,q⟩
  · obtain ⟨u,rfl,r1⟩:=vals1 r
    cases r1
    exact call_int_bool ⟨.int (if k then 1 else 0),H,I.tok _,⟨_,rfl⟩,q⟩
end
end L2
namespace L2
open PySem PySem.Spec PyProof.Rows
structure ObjM (h:Heap) (x dx C:Addr) (mA:Str→Option Value):Prop where
  obj:h.get? x=some (PySem.W.instObj C dx)
  ns:h.Ns1 dx mA
  ne:dx≠x

theorem lookIn_ns {h:Heap} {dx:Addr} {mA:Str→Option Value} (n:h.Ns1 dx mA):∃ od,h.get? dx=some od∧∀ name,PySem.W.lookIn name od=some (mA name):=by
  obtain ⟨o,es,ep,ho,hd,hk,_,hm⟩:=n
  refine ⟨o,ho,fun name=>?_⟩
  have e:=hm name
  unfold nsFind findBy at e
  rw [← Array.find?_toList] at e
  unfold PySem.W.lookIn
  rw [hd]
  dsimp only
  split
  · rename_i y q
    rw [q] at e
    exact congrArg some e
  · rename_i q
    rw [q] at e
    have a:es.toList.any (·.refKey)=false:=by
      rw [List.any_eq_false]
      intro y hy
      obtain ⟨z,t,hkey⟩:=hk y (Array.mem_toList_iff.mp hy)
      simp [DictEntry.refKey,hkey]
    have a':¬ es.toList.any (·.refKey)=true:=by rw [a]; exact Bool.false_ne_true
    rw [if_neg a']
    exact congrArg some e

theorem ObjM.look {h:Heap} {x dx C:Addr} {mA:Str→Option Value} (I:ObjM h x dx C mA):∃ od,PySem.W.InstAt h x (PySem.W.instObj C dx) C (some od)∧∀ name,PySem.W.lookIn name od=some (mA name) :=
  let ⟨od,ho,hl⟩:=lookIn_ns I.ns
  ⟨od,⟨I.obj,rfl,rfl,ho⟩,hl⟩

section
variable {prog:Program} {w:World} {A:Around} {E:Value→Shared→Prop} {s:Shared} {K:PySem.W.Frag} {x dx C f:Addr} {mA:Str→Option Value} {name:Str} {v:Value}
end
theorem RelO.some_of {v:V} {o:Option Value} (r:RelO (some v) o):∃ u,o=some u∧RelV v u:=by
  cases o with
  | none=>exact (show False from r).elim
  | some u=>exact ⟨u,rfl,r⟩
section
variable {P:Program} {w:World} {H H':Hp} {h h':Heap} {a C dx:Addr} {fs fs':List (Str×V)}
theorem ins_get (hok:HOk P w H h) (e:H a=some (.ins C dx fs)):∃ mA,ObjM h a dx C mA∧(∀ f,RelO (fs.lookup f) (mA f))∧PySem.Within mA (fs.map (·.1))∧fs.length≤1000∧H dx=some (.own a):=by
  obtain ⟨d,z,ne,ob,mA,n,r,q⟩:=(show ObjOk P w H h a (.ins C dx fs) from hok a _ e)
  exact ⟨mA,⟨ob,n,ne⟩,r,q,z,d⟩
end
structure Cls (K:PySem.W.Frag) (C:Addr):Prop where
  pg:PySem.W.plainGet K C Str.empty=true
  hd:PySem.W.hasDictIn K C=true
  po:PySem.W.plainOver K C=true
  sa:PySem.W.findIn K (.ref C) "__setattr__"=some (some (.builtin "object.__setattr__"))
theorem Cls.get {K:PySem.W.Frag} {C:Addr} (c:Cls K C) (f:Str):PySem.W.plainGet K C f=true:=c.pg
section
variable {X:Cx} {pins:List (Addr×Obj)} {σ:St} {H:Hp} {s:Shared} {a C dx:Addr} {fs:List (Str×V)} {f:Str} {v:V} {A:Around} {E:Value→Shared→Prop}
end
section
variable {X:Cx} {o e value:Expr} {f:Str} {pos pos' tpos:Pos} {ta tv:TE}
end
section
variable {X:Cx} {pins:List (Addr×Obj)} {σ:St} {H:Hp} {s:Shared} {A:Around} {E:Value→Shared→Prop} {Q:Value→Shared→Prop} {c:Value} {b:Bool}
inductive TyOf (K:PySem.W.Frag) (H:Hp):V→Value→Prop where
  | non:TyOf K H .non (.type "NoneType")
  | bl (x:Bool):TyOf K H (.bl x) (.type "bool")
  | int (i:Int):TyOf K H (.int i) (.type "int")
  | str (x:Str):TyOf K H (.str x) (.type "str")
  | flt (x:UInt64):TyOf K H (.flt x) (.type "float")
  | lst {a:Addr} {xs:List V} (e:H a=some (.lst xs)):TyOf K H (.ref a) (.type "list")
  | frz {a:Addr} {o:Obj} {xs:List V} (e:H a=some (.frz o (.lst xs))):TyOf K H (.ref a) (.type "list")
  | tup {a:Addr} {xs:List V} (e:H a=some (.tup xs)):TyOf K H (.ref a) (.type "tuple")
  | dK {a:Addr} {kvs:List (Key×V)} (e:H a=some (.dK kvs)):TyOf K H (.ref a) (.type "dict")
  | dT {a:Addr} {kvs:List (List Key×V)} (e:H a=some (.dT kvs)):TyOf K H (.ref a) (.type "dict")
  | ins {a C dx:Addr} {fs:List (Str×V)} (e:H a=some (.ins C dx fs)) (cl:Cls K C) (ha:PySem.W.findIn K (.ref C) "__class__"=some (some (.builtin "object.__class__")))
      (hn:PySem.W.specialIn K (.builtin "object.__class__") "__get__"=some (some (.builtin "getset_descriptor.__get__"))) (htk:PySem.W.takesIn K (.builtin "object.__class__")=some true)
      (hm:PySem.W.mroIn K C (.type "object")=some true):TyOf K H (.ref a) (.ref C)
theorem isinst_ok {x:V} {u t:Value} (I:Inv X pins σ H s) (rx:RelV x u) (ty:TyOf X.K H x t) (e:PySem.W.kitOne X.K t c=some b) (h:∀ tk,Q (.bool b) { s with toks:=tk }) :
    wpAny (model X.prog X.w) A (call (.builtin "isinstance") [u,c]) Q E s:=by
  cases ty with
  | non=>cases (show u=Value.none from rx); exact PySem.W.kia_one PySem.W.kitx_none I.kIn True.intro e (fun z=>nomatch z) h
  | bl y=>cases (show u=Value.bool y from rx); exact PySem.W.kia_one PySem.W.kitx_bool I.kIn True.intro e (fun z=>nomatch z) h
  | int i=>obtain ⟨t,q⟩:=(show ∃ t,u=Value.int i t from rx); cases q; exact PySem.W.kia_one PySem.W.kitx_int I.kIn True.intro e (fun z=>nomatch z) h
  | str y=>obtain ⟨t,q⟩:=(show ∃ t,u=Value.str y t from rx); cases q; exact PySem.W.kia_one PySem.W.kitx_str I.kIn True.intro e (fun z=>nomatch z) h
  | flt y=>obtain ⟨t,q⟩:=(show ∃ t,u=Value.float y t from rx); cases q; exact PySem.W.kia_one PySem.W.kitx_float I.kIn True.intro e (fun z=>nomatch z) h
  | @lst a xs ea =>
    cases (show u=Value.ref a from rx)
    obtain ⟨_,_,n,_,h1⟩:=(show ObjOk X.prog X.w H s.heap a (.lst xs) from I.hok a _ ea)
    exact PySem.W.kia_one PySem.W.kitx_list I.kIn ⟨_,h1,rfl⟩ e (fun z=>nomatch z) h
  | @frz a ob xs ea =>
    cases (show u=Value.ref a from rx)
    obtain ⟨_,_,_,n,_,h1⟩:=(show ObjOk X.prog X.w H s.heap a (.frz ob (.lst xs)) from I.hok a _ ea)
    exact PySem.W.kia_one PySem.W.kitx_list I.kIn ⟨_,h1,rfl⟩ e (fun z=>nomatch z) h
  | @tup a xs ea =>
    cases (show u=Value.ref a from rx)
    obtain ⟨_,_,_,p⟩:=(show ObjOk X.prog X.w H s.heap a (.tup xs) from I.hok a _ ea)
    obtain ⟨o,h1,h2,_⟩:=p
    exact PySem.W.kia_one PySem.W.kitx_tuple I.kIn ⟨o,h1,h2⟩ e (fun z=>nomatch z) h
  | @dK a kvs ea =>
    cases (show u=Value.ref a from rx)
    obtain ⟨_,_,vs,_,p⟩:=(show ObjOk X.prog X.w H s.heap a (.dK kvs) from I.hok a _ ea)
    obtain ⟨o,es,ep,h1,h2,_⟩:=p
    exact PySem.W.kia_one PySem.W.kitx_dict I.kIn ⟨o,h1,h2.1⟩ e (fun z=>nomatch z) h
  | @dT a kvs ea =>
    cases (show u=Value.ref a from rx)
    obtain ⟨_,_,xs,_,o,es,ep,h1,h2,_⟩:=(show ObjOk X.prog X.w H s.heap a (.dT kvs) from I.hok a _ ea)
    exact PySem.W.kia_one PySem.W.kitx_dict I.kIn ⟨o,h1,h2.1⟩ e (fun z=>nomatch z) h
  | @ins a C dx fs ea cl ha hn htk hm =>
    cases (show u=Value.ref a from rx)
    obtain ⟨mA,O,_⟩:=ins_get I.hok ea
    obtain ⟨od,J,_⟩:=O.look
    exact PySem.W.kia_one (PySem.W.kitx_own (cl.get _) cl.hd ha hn htk hm) I.kIn J e (fun z=>nomatch z) h
end
end L2
namespace L2
open PySem PySem.Spec PyProof.Rows
structure Room (k:Nat) (A:Around):Prop where
  hd:A.handled=none
  dp:A.depth+3 * k+5 < recursionLimit
  un:A.units+16 * k+200 < cLine
  gd:A.guards=some []
theorem Room.mono {j k:Nat} {A:Around} (r:Room k A) (h:j≤k):Room j A:=⟨r.hd,by have:=r.dp; omega,by have:=r.un; omega,r.gd⟩
theorem Room.deeper {k:Nat} {A:Around} (r:Room (k+1) A) (env:Env):Room k (A.deeper env) :=
  ⟨r.hd,by have:=r.dp; show A.depth+1+3 * k+5 < _; omega,by have:=r.un; show A.units+3+16 * k+200 < _; omega,r.gd⟩
theorem Room.depth {k:Nat} {A:Around} (r:Room k A):A.depth < recursionLimit:=by have:=r.dp; omega
theorem Room.units {k:Nat} {A:Around} (r:Room k A):A.units+64 < cLine:=by have:=r.un; omega
noncomputable def tNil:TA:=fun _ H Q=>Q [] H
noncomputable def tCons (ta:TE) (tr:TA):TA:=fun σ H Q=>ta σ H fun x H1=>tr σ H1 fun xs H2=>Q (x::xs) H2
section
variable {X:Cx} {e:Expr} {es:List Expr} {te:TE} {t:TA} {pos:Pos}
theorem pa_nil:PA X [] tNil:=fun _ _ _ _ H Q I h=>Calls.spliced_nil ⟨[],H,I,.nil,h⟩
theorem pa_cons (ha:PE X e te) (hr:PA X es t) (hs:starEach (e::es) X.env=(false,eval e X.env)::starEach es X.env:=by rfl):PA X (e::es) (tCons te t):=by
  intro pos pins s σ H Q I h
  rw [hs]
  show wpAny _ _ (spliced ((false,eval e X.env)::backTo pos (starEach es X.env))) _ _ s
  refine Calls.spliced_cons (thn (ha pins s σ H _ I h) fun u s1 hz0=>?_)
  obtain ⟨x,H1,I1,r1,q1⟩:=hz0
  exact thn (hr pos pins s1 σ H1 _ I1 q1) fun us s2 hz0=>by
    obtain ⟨xs,H2,I2,r2,q2⟩:=hz0
    exact ⟨x::xs,H2,I2,.cons r1 r2,q2⟩

noncomputable def tTup (t:TA):TE:=fun σ H Q=>t σ H fun xs H1=>xs.length≤sizeLine∧∀ p,H1 p=none→Q (.ref p) (upd H1 p (.tup xs))
noncomputable def tLst (t:TA):TE:=fun σ H Q=>t σ H fun xs H1=>xs.length≤sizeLine∧∀ p,H1 p=none→Q (.ref p) (upd H1 p (.lst xs))
theorem pe_tup {x1} (h:PA X es t):PE X (.Tuple es x1 pos) (tTup t):=by
  intro pins s σ H Q I hq
  refine wpAny_Tuple_spliced (thn (h pos pins s σ H _ I hq) fun us s1 ⟨xs,H1,I1,r,z,q⟩=>⟨by rw [← r.length]; exact z,?_⟩)
  have hf:H1 s1.heap.objs.size=none:=I1.hok.fresh (Nat.le_refl _)
  refine ⟨.ref s1.heap.objs.size,upd H1 s1.heap.objs.size (.tup xs),I1.laid (t':=s1.toks) (fun b u e=>Heap.get?_push_of_some _ e) (Nat.le_refl _) ?_,rfl,q _ hf⟩
  exact ⟨z,us,r,⟨_,Heap.get?_push_size _ rfl,rfl,_,rfl⟩⟩
theorem pe_lst (h:PA X es t):PE X (.List es pos) (tLst t):=by
  intro pins s σ H Q I hq
  refine wpAny_List_spliced (thn (h pos pins s σ H _ I hq) fun us s1 ⟨xs,H1,I1,r,z,q⟩=>⟨by rw [← r.length]; exact z,?_⟩)
  have hf:H1 s1.heap.objs.size=none:=I1.hok.fresh (Nat.le_refl _)
  refine ⟨.ref s1.heap.objs.size,upd H1 s1.heap.objs.size (.lst xs),I1.laid (t':=s1.toks) (fun b u e=>Heap.get?_push_of_some _ e) (Nat.le_refl _) ?_,rfl,q _ hf⟩
  exact ⟨z,us,0,r,Heap.get?_push_size _ rfl⟩
end
noncomputable abbrev Sp:=List V→Hp→VK→XK→Prop
noncomputable abbrev CXT:=List Env→Hp→Shared→XK→Value→Shared→Prop

structure Env0 (P:Program) (w:World) (K:PySem.W.Frag) (mg:Str→Option Value) (base:Heap) (A:Around) (outer:List Env) (s:Shared) (H:Hp):Prop where
  frames:A.frames=some outer
  mod:Mod K mg base
  bs:∀ b o,base.get? b=some o→s.heap.get? b=some o∧H b=none
  bsz:base.objs.size≤s.heap.objs.size
  funs:s.heap.FunFrames base outer
  frf:∀ b∈frs outer,H b=none
  hok:HOk P w H s.heap
  bare:AllBare s.gens
noncomputable def CE (outer:List Env) (P:Program) (w:World) (H:Hp) (s:Shared) (Q:VK) (u:Value) (s':Shared):Prop :=
  ∃ v H',s'.os=s.os∧AllBare s'.gens∧Un (frs outer) [] H H' s.heap s'.heap∧HOk P w H' s'.heap∧RelV v u∧Q v H'
noncomputable def CR (CX:CXT) (outer:List Env) (P:Program) (w:World) (H:Hp) (s:Shared) (Q:VK) (E:XK) (r:Result) (s':Shared):Prop :=
  match r with
  | .ok (.ret u)=>CE outer P w H s Q u s'
  | .ok _=>False
  | .error e=>CX outer H s E e s'
structure FnOk (P:Program) (w:World) (K:PySem.W.Frag) (mg:Str→Option Value) (base:Heap) (CX:CXT) (k:Nat) (f:Addr) (fd:FuncData) (ps:List Str) (sp:Sp):Prop where
  len:∀ vs H Q E,sp vs H Q E→vs.length=ps.length
  run:∀ (A:Around) (outer:List Env) (s:Shared) (H:Hp) (args:Args) (us:List Value) (vs:List V) (Q:VK) (E:XK),Room k A→Env0 P w K mg base A outer s H→BindsTo s fd args (ps.zip us)→Vals vs us→sp vs H Q E →
    codeAny (model P w) A (.call (.ref f) args) (CR CX outer P w H s Q E) s
theorem FnOk.imp {P:Program} {w:World} {K:PySem.W.Frag} {mg:Str→Option Value} {base:Heap} {CX:CXT} {k:Nat} {f:Addr} {fd:FuncData} {ps:List Str} {sp sp':Sp} (F:FnOk P w K mg base CX k f fd ps sp)
    (h:∀ vs H Q E,sp' vs H Q E→sp vs H Q E):FnOk P w K mg base CX k f fd ps sp' :=
  ⟨fun vs H Q E q=>F.len vs H Q E (h _ _ _ _ q),fun A outer s H args us vs Q E hr he hb hv hs=>F.run A outer s H args us vs Q E hr he hb hv (h _ _ _ _ hs)⟩

section
variable {X:Cx} {pins:List (Addr×Obj)} {σ:St} {H:Hp} {s s':Shared}
theorem Inv.env0 (I:Inv X pins σ H s):Env0 X.prog X.w X.K X.mg X.base X.A X.stack s H :=
  ⟨I.ok.frames,I.ok.mod,I.bs,Nat.le_trans I.ok.bsz I.sz,I.stack,I.stkFree,I.hok,I.bare⟩
theorem Inv.after {Q:VK} {u:Value} (I:Inv X pins σ H s) (h:CE X.stack X.prog X.w H s Q u s'):EP X pins σ Q u s':=by
  obtain ⟨v,H',os,bare,un,hok,r,q⟩:=h
  obtain ⟨hh,g,d,t,os'⟩:=s'
  obtain rfl:os'=s.os:=os
  exact ⟨v,H',I.call (h':=hh) (g':=g) (d':=d) (t':=t) (ch:=[]) un hok bare (fun b z=>absurd z (by simp)),r,q⟩
end
noncomputable def tCall (sp:Sp) (dvs:List V) (E:XK) (t:TA):TE:=fun σ H Q=>t σ H fun vs H1=>sp (vs++dvs) H1 Q E
noncomputable def Binds (K:PySem.W.Frag) (fd:FuncData) (ps:List Str) (ds:List Value):Prop :=
  ∀ (s:Shared) (us:List Value),K.In s.heap→(us++ds).length=ps.length→BindsTo s fd ⟨us,[]⟩ (ps.zip (us++ds))
theorem Binds.all {K:PySem.W.Frag} {fd:FuncData} {ps:List Str} (h:∀ us:List Value,us.length=ps.length→bindArgs fd ⟨us,[]⟩=pure (ps.zip us)):Binds K fd ps []:=fun s us _ hl=>by
  rw [List.append_nil] at hl ⊢
  exact .of_eq (h us hl)

noncomputable def Passes (CX:CXT) (X:Cx) (E:XK):Prop:=∀ (pins:List (Addr×Obj)) (σ:St) (H:Hp) (s:Shared) (e:Value) (s':Shared),Inv X pins σ H s→CX X.stack H s E e s'→X.xe e s'

section
variable {X:Cx} {CX:CXT} {k:Nat} {f C:Addr} {fd:FuncData} {ps:List Str} {sp:Sp} {dvs:List V} {ds:List Value} {E:XK} {x m:Str} {p pos apos:Pos} {e o:Expr} {es:List Expr} {ta:TE} {t:TA}
theorem run_fn {pins:List (Addr×Obj)} {σ:St} {H:Hp} {s:Shared} {Q:VK} {us:List Value} {vs:List V} (F:FnOk X.prog X.w X.K X.mg X.base CX k f fd ps sp) (hr:Room k X.A) (hb:Binds X.K fd ps ds) (hd:Vals dvs ds) (hx:Passes CX X E)
    (I:Inv X pins σ H s) (r:Vals vs us) (h:sp (vs++dvs) H Q E):wpAny (model X.prog X.w) X.A (call (.ref f) us) (EP X pins σ Q) X.xe s:=by
  have r2:Vals (vs++dvs) (us++ds):=r.append hd
  have hl:(us++ds).length=ps.length:=by rw [← r2.length]; exact F.len _ _ _ _ h
  refine wpAny_call (codeAny_mono (F.run X.A X.stack s H ⟨us,[]⟩ (us++ds) (vs++dvs) Q E hr I.env0 (hb s us I.kIn hl) r2 h) fun r s' hq=>?_)
  cases r with
  | error e=>exact hx pins σ H s e s' I hq
  | ok fl =>
    cases fl with
    | ret u=>exact I.after hq
    | next=>exact False.elim hq
    | brk=>exact False.elim hq
    | cont=>exact False.elim hq

theorem pe_call (F:FnOk X.prog X.w X.K X.mg X.base CX k f fd ps sp) (hr:Room k X.A) (hg:Gl X x) (hm:X.mg x=some (.ref f)) (hk:PySem.W.keepIn X.K (.ref f)=true) (hb:Binds X.K fd ps ds) (hd:Vals dvs ds) (hx:Passes CX X E)
    (ha:PA X (e::es) t) (hdb:(x == ("__debug__":Str))=false:=by decide) (he:starEach (e::es) X.env=(false,eval e X.env)::starEach es X.env:=by rfl) (hpl:(backTo pos (starEach es X.env)).any (·.1)=false:=by rfl) :
    PE X (.Call (.Name x p) (e::es) [] pos) (tCall sp dvs E t):=by
  intro pins s σ H Q I h
  refine wpAny_Call_Name_kw (ld_glob I hg hm ?_ hdb)
  refine PySem.W.callWith_K (h₀:=X.base) I.ok.mod.kin hk (thn (ha pos pins s σ H _ I h) fun us s1 ⟨vs,H1,I1,r,q⟩=>⟨I1.kIn,?_⟩) he hpl
  exact run_fn F hr hb hd hx I1 r q
end
noncomputable def PK (X:Cx) (kws:List Keyword) (t:TA):Prop :=
  ∀ (pos:Pos) (pins:List (Addr×Obj)) (s:Shared) (σ:St) (H:Hp) (Q:List V→Hp→Prop),Inv X pins σ H s→t σ H Q→wpAny (model X.prog X.w) X.A (evalAll ((backToKw pos (keywordEach kws X.env)).map (·.2))) (AP X pins σ Q) X.xe s
section
variable {X:Cx} {CX:CXT} {k:Nat} {f C:Addr} {fd:FuncData} {ps ks:List Str} {sp:Sp} {E:XK} {x m:Str} {p pos apos kpos:Pos} {e o:Expr} {es:List Expr} {kws:List Keyword} {te ta:TE} {t tk:TA} {nm:Option Str}
variable {g:List Value→List Value→List Value} {gV:List V→List V→List V}
end
structure FnScope (N P:List Str) (sc:Scope):Prop where
  kind:sc.kind=.function
  co:sc.isCoroutine=false
  gen:sc.isGenerator=false
  nd:N.Nodup
  pre:N.take P.length=P
  par:∀ x∈P,sc.names.lookup x=some .local∨sc.names.lookup x=some .cell
  nofree:∀ y∈sc.names,y.2≠.free

theorem bindL_out {kindOf:Str→Option NameKind} {x:Str}:∀ {binds:List (Str×Value)} {m:Str→Option Value},(∀ v,(x,v) ∉ binds)→bindL kindOf binds m x=m x
  | [],_,_=>rfl
  | (n,v)::r,m,h=>by
    unfold bindL
    rw [bindL_out fun w hw=>h w (List.mem_cons_of_mem _ hw)]
    split
    · have:x≠n:=by rintro rfl; exact h v List.mem_cons_self
      simp [this]
    · rfl
theorem bindC_out {kindOf:Str→Option NameKind} {x:Str}:∀ {binds:List (Str×Value)} {m:Str→Option Value},(∀ v,(x,v) ∉ binds)→bindC kindOf binds m x=m x
  | [],_,_=>rfl
  | (n,v)::r,m,h=>by
    unfold bindC
    rw [bindC_out fun w hw=>h w (List.mem_cons_of_mem _ hw)]
    split
    · rfl
    · have:x≠n:=by rintro rfl; exact h v List.mem_cons_self
      simp [this]
theorem bindL_get {kindOf:Str→Option NameKind} {x:Str} {v:Value}:∀ {P:List Str} {vs:List Value} {i:Nat} {m:Str→Option Value},P.Nodup→P[i]?=some x→vs[i]?=some v→kindOf x=some .local →
    bindL kindOf (P.zip vs) m x=some v
  | [],_,_,_,_,h,_,_=>by simp at h
  | _::_,[],_,_,_,_,h,_=>by simp at h
  | p::P,w::vs,0,m,nd,h1,h2,hk=>by
    simp at h1 h2; subst h1; subst h2
    show bindL kindOf ((p,w)::P.zip vs) m p=_
    unfold bindL
    rw [bindL_out fun v hv=>(List.nodup_cons.mp nd).1 (List.of_mem_zip hv).1,if_pos hk]
    simp
  | p::P,w::vs,i+1,m,nd,h1,h2,hk=>by
    show bindL kindOf ((p,w)::P.zip vs) m x=_
    unfold bindL
    exact bindL_get (i:=i) (List.nodup_cons.mp nd).2 (by simpa using h1) (by simpa using h2) hk
theorem bindC_get {kindOf:Str→Option NameKind} {x:Str} {v:Value}:∀ {P:List Str} {vs:List Value} {i:Nat} {m:Str→Option Value},P.Nodup→P[i]?=some x→vs[i]?=some v→kindOf x≠some .local →
    bindC kindOf (P.zip vs) m x=some v
  | [],_,_,_,_,h,_,_=>by simp at h
  | _::_,[],_,_,_,_,h,_=>by simp at h
  | p::P,w::vs,0,m,nd,h1,h2,hk=>by
    simp at h1 h2; subst h1; subst h2
    show bindC kindOf ((p,w)::P.zip vs) m p=_
    unfold bindC
    rw [bindC_out fun v hv=>(List.nodup_cons.mp nd).1 (List.of_mem_zip hv).1,if_neg hk]
    simp
  | p::P,w::vs,i+1,m,nd,h1,h2,hk=>by
    show bindC kindOf ((p,w)::P.zip vs) m x=_
    unfold bindC
    exact bindC_get (i:=i) (List.nodup_cons.mp nd).2 (by simpa using h1) (by simpa using h2) hk

noncomputable def start (N:List Str) (vs:List V):St:=vs.map some++List.replicate (N.length - vs.length) none

noncomputable def cxOf (CX:CXT) (P:Program) (w:World) (K:PySem.W.Frag) (mg:Str→Option Value) (base:Heap) (N:List Str) (qual:Str) (scope:Scope) (f:Addr) (cd:Value) (A:Around) (outer:List Env) (s:Shared) (H:Hp) (E:XK):Cx where
  prog:=P
  w:=w
  K:=K
  mg:=mg
  base:=base
  A:=A.deeper (envOfC qual scope s.heap.objs.size f cd)
  N:=N
  s₀:=s
  H₀:=H
  env:=envOfC qual scope s.heap.objs.size f cd
  outer:=outer
  stack:=envOfC qual scope s.heap.objs.size f cd::outer
  ex:=[]
  calm:=true
  fn:=fun _=>true
  pn:=[]
  xe:=fun e s'=>wpAny (model P w) (A.deeper (envOfC qual scope s.heap.objs.size f cd)) (leaving (envOfC qual scope s.heap.objs.size f cd) e) (fun _ s''=>CX outer H s E e s'') (fun e' s''=>CX outer H s E e' s'') s'

theorem cell_has {sc:Scope} {n:Nat} {x:Str} (h:sc.names.lookup x=some .cell):∃ c,(cellsFrom n sc.names []).lookup x=some c:=by
  have q:=PySem.W.cellsFrom_some sc.names n [] (.inl h)
  exact Option.isSome_iff_exists.mp q

theorem inv_start {CX:CXT} {P:Program} {w:World} {K:PySem.W.Frag} {mg:Str→Option Value} {base:Heap} {N ps:List Str} {qual:Str} {scope:Scope} {f:Addr} {cd:Value} {A:Around} {outer:List Env} {s s1:Shared} {H:Hp} {E:XK} {us:List Value} {vs:List V}
    (S:FnScope N ps scope) (hd:A.handled=none) (e0:Env0 P w K mg base A outer s H) (hl:vs.length=ps.length) (r:Vals vs us)
    (x:InCallC s s.heap.objs.size (bindL (envOfC qual scope s.heap.objs.size f cd).kindOf (ps.zip us) fun _=>none) (cellsFrom (s.heap.objs.size+1) scope.names []) (bindC (envOfC qual scope s.heap.objs.size f cd).kindOf (ps.zip us) fun _=>none) s1) :
    Inv (cxOf CX P w K mg base N qual scope f cd A outer s H E) [] (start N vs) H s1:=by
  have hpl:ps.length≤N.length:=by have:=congrArg List.length S.pre; rw [List.length_take] at this; omega
  obtain ⟨h1,tk,rfl,hk⟩:=x.done
  have noA:∀ b:Addr,b ∉ (cxOf CX P w K mg base N qual scope f cd A outer s H E).ex:=fun b z=>absurd (show b∈([]:List Addr) from z) (by simp)
  refine ⟨⟨e0.mod,S.kind,rfl,rfl,Nat.le_refl _,fun y z c h1 h2=>?_,fun y hy=>?_,fun y c _ h=>?_,fun _=>hd,Around.frames_deeper e0.frames,.inr ⟨rfl,rfl⟩,fun b z=>absurd z (noA b),e0.bs,e0.bsz,fun b _ _=>noA b,fun b z=>absurd z (noA b),e0.funs,e0.frf⟩,
    rfl,e0.bare,Un.kept hk,⟨_,x.toInCall.ns,fun i y v h1 h2 h3=>?_⟩,fun y c h=>⟨_,x.cell y c h⟩,e0.hok.fresh (Nat.le_refl _),fun y c h=>?_,fun p hp=>absurd (show p∈([]:List (Addr×Obj)) from hp) (by simp),e0.hok.kept hk,?_⟩
  · exact name_of_addr x.apart (PySem.mem_of_lookup h1) (PySem.mem_of_lookup h2)
  · have hy:scope.names.lookup y=some .cell∨scope.names.lookup y=some .free:=hy
    rcases hy with hy | hy
    · exact cell_has hy
    · exact absurd rfl (S.nofree _ (PySem.mem_of_lookup hy))
  · exact Nat.le_of_lt (x.above y c (PySem.mem_of_lookup h))
  · have hi:i < vs.length:=by
      unfold start at h2
      by_cases hi:i < vs.length
      · exact hi
      · rw [List.getElem?_append_right (by simpa using hi)] at h2
        rw [List.getElem?_replicate] at h2
        split at h2 <;> cases h2
    have ha:vs[i]?=some v:=by
      unfold start at h2
      rw [List.getElem?_append_left (by simpa using hi),List.getElem?_map] at h2
      cases e:vs[i]? with
      | none=>rw [e] at h2; cases h2
      | some a=>rw [e] at h2; cases h2; rfl
    obtain ⟨u,hu,rv⟩:=r.get ha
    have hp:ps[i]?=some y:=by
      rw [← S.pre,List.getElem?_take_of_lt (by omega)]; exact h1
    have ndP:ps.Nodup:=by rw [← S.pre]; exact S.nd.sublist (List.take_sublist _ _)
    refine ⟨u,rv,?_⟩
    rcases S.par y (List.mem_of_getElem? hp) with k | k
    · exact .inl ⟨k,bindL_get ndP hp hu k⟩
    · obtain ⟨c,e⟩:=cell_has (n:=s.heap.objs.size+1) k
      refine .inr ⟨.inl k,c,e,?_⟩
      have q:=x.cell y c e
      rw [bindC_get ndP hp hu (by show scope.names.lookup y≠_; rw [k]; decide)] at q
      exact q
  · exact e0.hok.fresh (Nat.le_of_lt (x.above y c (PySem.mem_of_lookup h)))
  · unfold start
    show _=N.length
    rw [List.length_append,List.length_map,List.length_replicate]
    omega

theorem fn_of {CX:CXT} {P:Program} {w:World} {K:PySem.W.Frag} {mg:Str→Option Value} {base:Heap} {k:Nat} {f:Addr} {name qual:Str} {params:Arguments} {body:List Stmt} {scope:Scope} {dV kV doc pm cdv ct oc:Value} {an od:Option Addr}
    {osl:Array (Option Value)} {N ps:List Str} {sp:Sp} (lk:K.lookup f=some ⟨oc,od,.func (PySem.W.fnOf name qual params body scope dV kV doc pm an cdv ct),osl⟩) (hcd:PySem.W.codeIn K cdv qual=true) (S:FnScope N ps scope)
    (len:∀ vs H Q E,sp vs H Q E→vs.length=ps.length)
    (hbody:∀ (A:Around) (outer:List Env) (s:Shared) (H:Hp) (vs:List V) (Q:VK) (E:XK),Room k (A.deeper (envOfC qual scope s.heap.objs.size f cdv))→sp vs H Q E →
      ∃ t,PSs (cxOf CX P w K mg base N qual scope f cdv A outer s H E) body t∧t { nx:=fun _ H'=>Q .non H',rt:=Q } (start N vs) H) :
    FnOk P w K mg base CX (k+1) f (PySem.W.fnOf name qual params body scope dV kV doc pm an cdv ct) ps sp:=by
  refine ⟨len,fun A outer s H args us vs Q E hr e0 hb r hsp=>?_⟩
  have hl:=len _ _ _ _ hsp
  have KX:K.In s.heap:=e0.mod.kin.keeps fun b o e=>(e0.bs b o e).1
  have lim:s.heap.NoLimit:=e0.mod.nolimit.keeps fun b o e=>(e0.bs b o e).1
  have hkind:∀ y∈ps.zip us,scope.names.lookup y.1=some .local∨(scope.names.lookup y.1=some .cell∧((cellsFrom (s.heap.objs.size+1) scope.names []).lookup y.1).isSome=true):=fun ⟨n,v⟩ hy=>by
    rcases S.par n (List.of_mem_zip hy).1 with q | q
    · exact .inl q
    · exact .inr ⟨q,PySem.W.cellsFrom_some _ _ _ (.inl q)⟩
  refine codeAny_call_function hr.depth (KX _ _ lk) rfl S.co S.gen rfl (PySem.W.codeRec_of KX hcd) (hb _ _ _ _ ?_)
  refine wpAny_newFunctionEnv_cells S.kind hkind fun env he s1 x=>?_
  subst he
  refine ⟨lim.keeps x.toInCall.keep,codeAny_func ?_⟩
  obtain ⟨t,ht,hq⟩:=hbody A outer s H vs Q E (hr.deeper _) hsp
  have I:Inv (cxOf CX P w K mg base N qual scope f cdv A outer s H E) [] (start N vs) H s1:=inv_start S hr.hd e0 hl r x
  refine wpAny_mono (ht [] s1 (start N vs) H _ I hq) (fun fl s' hs=>?_) fun e s' hs=>hs
  have fin:∀ {σ':St} {H':Hp} {v:V} {u:Value},Inv (cxOf CX P w K mg base N qual scope f cdv A outer s H E) [] σ' H' s'→RelV v u→Q v H'→CE outer P w H s Q u s' :=
    fun {σ' H' v u} J rv q=>⟨v,H',J.os,J.bare,J.base,J.hok,rv,q⟩
  cases fl with
  | ret u =>
    obtain ⟨v,σ',H',J,rv,q⟩:=hs
    exact fin J rv q
  | next =>
    obtain ⟨σ',H',J,q⟩:=hs
    exact fin (v:=V.non) (u:=Value.none) J rfl q
  | brk =>
    obtain ⟨_,_,_,q⟩:=hs
    exact False.elim q
  | cont =>
    obtain ⟨_,_,_,q⟩:=hs
    exact False.elim q
end L2
namespace L2
open PySem PySem.Spec PyProof.Rows
section
variable {X:Cx} {x:Str} {p pos:Pos} {e:Expr} {es:List Expr} {t:TA} {id T:String} {r:List V→Hp→VK→Prop}
noncomputable def tCB (r:List V→Hp→VK→Prop) (t:TA):TE:=fun σ H Q=>t σ H fun vs H1=>r vs H1 Q
theorem pe_callB (hc:CallR X (.builtin id) r) (hg:Gl X x) (hm:X.mg x=none) (hv:bootBuiltins x=some (.builtin id)) (ha:PA X (e::es) t) (hn:x≠"__name__":=by decide) (hdb:(x == ("__debug__":Str))=false:=by decide)
    (he:starEach (e::es) X.env=(false,eval e X.env)::starEach es X.env:=by rfl) (hpl:(backTo pos (starEach es X.env)).any (·.1)=false:=by rfl):PE X (.Call (.Name x p) (e::es) [] pos) (tCB r t):=by
  intro pins s σ H Q I h
  refine wpAny_Call_Name_kw (ld_blt I hg hm hv ?_ hn hdb)
  exact PyProof.Rows.callWith_builtin1 (thn (ha pos pins s σ H _ I h) fun us s1 ⟨vs,H1,I1,r1,q1⟩=>hc pins s1 σ H1 vs us Q I1 r1 q1) he hpl
theorem pe_callTy (hc:CallR X (.type T) r) (hg:Gl X x) (hm:X.mg x=none) (hv:bootBuiltins x=some (.type T)) (ha:PA X (e::es) t) (hn:x≠"__name__":=by decide) (hdb:(x == ("__debug__":Str))=false:=by decide)
    (he:starEach (e::es) X.env=(false,eval e X.env)::starEach es X.env:=by rfl) (hpl:(backTo pos (starEach es X.env)).any (·.1)=false:=by rfl):PE X (.Call (.Name x p) (e::es) [] pos) (tCB r t):=by
  intro pins s σ H Q I h
  refine wpAny_Call_Name_kw (ld_blt I hg hm hv ?_ hn hdb)
  exact PyProof.Rows.callWith_type1 (thn (ha pos pins s σ H _ I h) fun us s1 ⟨vs,H1,I1,r1,q1⟩=>hc pins s1 σ H1 vs us Q I1 r1 q1) he hpl
end
end L2
namespace HT
open PySem PyProof.Rows
noncomputable def lexLt:List Int→List Int→Bool
  | [],[]=>false
  | [],_::_=>true
  | _::_,[]=>false
  | x::xs,y::ys=>if x=y then lexLt xs ys else decide (x < y)
section
open PySem.SeqAt
open PySem.AutoSeq1 (wpAny_loadPart')
open PySem.MeetsSeq PySem.MeetsSeq2 PySem.MeetsSeq3
end
section
variable {prog:Program} {w:World} {A:Around} {E:Value→Shared→Prop} {s:Shared}
theorem cat_tup {t b:Addr} {vs ws:List Value} {Q:Value→Shared→Prop} (ht:IsTup s.heap t vs.toArray) (hb:IsTup s.heap b ws.toArray) (hv:vs≠[])
    (h1:ws=[]→Q (.ref t) s) (h2:ws≠[]→Q (.ref s.heap.objs.size) { s with heap:=s.heap.push { cls:=.type "tuple",data:=.seq (vs++ws).toArray } })
    (hsz:vs.length+ws.length≤sizeLine):wpAny (model prog w) A (binaryOp .Add (.ref t) (.ref b)) Q E s:=by
  obtain ⟨⟨cls,dd,data,sl⟩,ho,hc,n,hd⟩:=id ht
  obtain ⟨⟨cls2,dd2,data2,sl2⟩,ho2,hc2,n2,hd2⟩:=id hb
  simp only at hc hd hc2 hd2
  subst hc hd hc2 hd2
  have e:vs.toArray++ws.toArray=(vs++ws).toArray:=by simp
  by_cases hw:ws=[]
  · exact concat_meets ⟨_,ho,rfl⟩ ⟨_,ho2,rfl⟩ noFill_tuple_add seq_tuple_add PySem.F.slot_tuple_add PySem.F.entry_tuple_add (PySem.F.args_tuple_add_2 _ _)
      (tuple_addW1 t b vs.toArray ws.toArray n n2 dd dd2 sl sl2 (by simpa using hv) (by simp [hw])) ⟨ho,ho2,h1 hw⟩
  · refine concat_meets ⟨_,ho,rfl⟩ ⟨_,ho2,rfl⟩ noFill_tuple_add seq_tuple_add PySem.F.slot_tuple_add PySem.F.entry_tuple_add (PySem.F.args_tuple_add_2 _ _)
      (tuple_addW2 t b vs.toArray ws.toArray n n2 dd dd2 sl sl2 (by simpa using hv) (by simpa using hw) (by rw [List.size_toArray,List.size_toArray]; exact hsz)) ⟨ho,ho2,?_⟩
    rw [e]
    exact h2 hw

noncomputable def sIx (n d:Nat):Option Int→Nat
  | none=>d
  | some v=>if v < 0 then (v+(n:Int)).toNat else min v.toNat n
theorem sIx_none (n d:Nat):sIx n d none=d:=rfl
theorem sIx_nat (n d k:Nat):sIx n d (some (k:Int))=min k n:=by
  show (if (k:Int) < 0 then ((k:Int)+(n:Int)).toNat else min (k:Int).toNat n)=min k n
  rw [if_neg (by omega),Int.toNat_natCast]
theorem sIx_le (n d:Nat) (hd:d≤n) (o:Option Int):sIx n d o≤n:=by
  cases o with
  | none=>exact hd
  | some v =>
    show (if v < 0 then (v+(n:Int)).toNat else min v.toNat n)≤n
    by_cases hv:v < 0
    · rw [if_pos hv]; omega
    · rw [if_neg hv]; exact Nat.min_le_right _ _
theorem clip_eq (v:Int) (n d:Nat):(if v < 0 then max (v+(n:Int)) 0 else min v (n:Int))=((sIx n d (some v):Nat):Int):=by
  show (if v < 0 then max (v+(n:Int)) 0 else min v (n:Int))=(((if v < 0 then (v+(n:Int)).toNat else min v.toNat n):Nat):Int)
  by_cases hv:v < 0
  · rw [if_pos hv,if_pos hv,Int.ofNat_toNat]
  · rw [if_neg hv,if_neg hv]
    obtain ⟨k,rfl⟩:=Int.eq_ofNat_of_zero_le (Int.not_lt.mp hv)
    rw [Int.toNat_natCast,← Lean.Omega.Int.ofNat_min]
theorem adjust_gen (lo hi:Option Int) (n:Nat):Builtin.Slice.sliceAdjust lo hi 1 (n:Int)=(((sIx n 0 lo:Nat):Int),((sIx n n hi:Nat):Int)):=by
  have h1:¬ ((1:Int) < 0):=by omega
  unfold Builtin.Slice.sliceAdjust
  simp only [h1,if_false]
  refine Prod.ext ?_ ?_
  · cases lo with
    | none=>rfl
    | some v=>exact clip_eq v n 0
  · cases hi with
    | none=>rfl
    | some v=>exact clip_eq v n n
theorem places_gen (i j:Nat):Builtin.Slice.slicePlaces (i:Int) (j:Int) 1=j - i:=by
  unfold Builtin.Slice.slicePlaces
  have h1:(1:Int) > 0:=by omega
  simp only [h1,if_true,Int.ediv_one]
  split <;> omega
theorem slicePart_ {v:Value} {o:Option Int} {Q:Option Int→Shared→Prop} (p:IsPart v o) (h:Q o s):wpAny (model prog w) A (Builtin.Slice.slicePartIndex v) Q E s:=by
  cases p with
  | none=>exact slicePart_none h
  | int i t=>exact slicePart_int h
theorem sliceApplied_gen {sl:Addr} {vl vu:Value} {lo hi:Option Int} {n:Nat} {Q:Int×Int×Nat→Shared→Prop} (hs:s.heap.IsSliceOf sl vl vu .none) (pl:IsPart vl lo) (pu:IsPart vu hi)
    (h:Q (((sIx n 0 lo:Nat):Int),1,sIx n n hi - sIx n 0 lo) s):wpAny (model prog w) A (Builtin.Slice.sliceApplied (.ref sl) (pure (n:Int))) Q E s:=by
  obtain ⟨os,hos,hcs,hds⟩:=id hs
  unfold Builtin.Slice.sliceApplied Builtin.Slice.sliceFields
  refine wpAny_bind (wpAny_bind (wpAny_field hos hds (x:=vl) rfl (wpAny_bind (wpAny_field hos hds (x:=vu) rfl (wpAny_bind (wpAny_field hos hds (x:=.none) rfl (wpAny_pure ?_)))))))
  refine wpAny_bind (slicePart_none ?_)
  show wpAny _ _ (if ((1:Int) == 0)=true then _ else _) _ _ s
  rw [if_neg (by decide)]
  refine wpAny_bind (slicePart_ pl (wpAny_bind (slicePart_ pu (wpAny_bind (wpAny_pure ?_)))))
  show wpAny _ _ (match Builtin.Slice.sliceAdjust lo hi 1 (n:Int) with | (lo,hi)=>pure (lo,(1:Int),Builtin.Slice.slicePlaces lo hi 1)) _ _ s
  rw [adjust_gen lo hi n]
  show wpAny _ _ (pure (((sIx n 0 lo:Nat):Int),(1:Int),Builtin.Slice.slicePlaces ((sIx n 0 lo:Nat):Int) ((sIx n n hi:Nat):Int) 1)) _ _ s
  rw [places_gen]
  exact wpAny_pure h
theorem pick_gen (xs:Array Value) (i k:Nat):((List.range k).filterMap fun (m:Nat)=>xs[((i:Int)+(m:Int) * 1).toNat]?).toArray=((xs.toList.drop i).take k).toArray:=by
  have e:(fun (m:Nat)=>xs[((i:Int)+(m:Int) * 1).toNat]?)=fun m=>xs[i+m]?:=by
    funext m
    have:((i:Int)+(m:Int) * 1).toNat=i+m:=by omega
    rw [this]
  rw [e]
  have:=pick_run xs i k
  rw [List.filterMap_map] at this
  have e2:((fun x=>xs[x]?) ∘ fun x=>i+x)=fun m=>xs[i+m]?:=rfl
  rw [e2] at this
  rw [this]

theorem getItem_tuple_cut {t sl:Addr} {items:Array Value} {vl vu:Value} {lo hi:Option Int} {Q:Value→Shared→Prop} (ht:IsTup s.heap t items) (hs:s.heap.IsSliceOf sl vl vu .none) (pl:IsPart vl lo) (pu:IsPart vu hi)
    (hw:¬ (sIx items.size 0 lo=0∧sIx items.size items.size hi=items.size))
    (h:Q (.ref s.heap.objs.size) { s with heap:=s.heap.push { cls:=.type "tuple",data:=.seq ((items.toList.drop (sIx items.size 0 lo)).take (sIx items.size items.size hi - sIx items.size 0 lo)).toArray } })
    (hsz:items.size≤sizeLine):wpAny (model prog w) A (getItem (.ref t) (.ref sl)) Q E s:=by
  have htake:sizeOk (.seq ((items.toList.drop (sIx items.size 0 lo)).take (sIx items.size items.size hi - sIx items.size 0 lo)).toArray):=by
    show ((items.toList.drop (sIx items.size 0 lo)).take (sIx items.size items.size hi - sIx items.size 0 lo)).toArray.size≤sizeLine
    rw [List.size_toArray,List.length_take,List.length_drop,Array.length_toList]
    exact Nat.le_trans (Nat.min_le_right _ _) (Nat.le_trans (Nat.sub_le _ _) hsz)
  have hj:sIx items.size items.size hi≤items.size:=sIx_le _ _ (Nat.le_refl _) hi
  obtain ⟨os,hos,hcs,hds⟩:=id hs
  have hTs:s.TypeIs (.ref sl) "slice":=⟨os,hos,hcs⟩
  unfold getItem
  try with_reducible refine wpAny_holding ?_
  first | refine wpAny_bind (wpAny_pure ?_) | skip
  refine wpAny_bind (wpAny_sequenceKey ht.typeIs (by decide) ?_)
  refine wpAny_bind (wpAny_callSpecial?_slot (name:=Str.ofString "__getitem__") ht.typeIs PyProof.Rows.slot_tuple_getitem
    (wpAny_call_entry PyProof.Rows.slot_tuple_getitem ht.typeIs entry_tuple_getitem ?_ (args_tuple_getitem _ _)))
  show wpAny _ _ (Builtin.Tuple.tupleItemsOf (.ref t) >>= _) _ _ s
  refine wpAny_bind (tupleItemsOf_ ht ?_)
  refine wpAny_bind (wpAny_typeOf hTs ?_)
  rw [if_pos (by decide)]
  refine wpAny_bind (sliceApplied_gen hs pl pu ?_)
  have hno:¬ ((((sIx items.size 0 lo:Nat):Int) == 0 && (1:Int) == 1 && (sIx items.size items.size hi - sIx items.size 0 lo) == items.size)=true):=by
    intro q
    rw [Bool.and_eq_true,Bool.and_eq_true] at q
    have q1:((sIx items.size 0 lo:Nat):Int)=0:=eq_of_beq q.1.1
    have q2:sIx items.size items.size hi - sIx items.size 0 lo=items.size:=eq_of_beq q.2
    exact hw ⟨by omega,by omega⟩
  show wpAny _ _ (if (((sIx items.size 0 lo:Nat):Int) == 0 && (1:Int) == 1 && (sIx items.size items.size hi - sIx items.size 0 lo) == items.size)=true then _ else _) _ _ s
  rw [if_neg hno,pick_gen]
  first
    | exact wpAny_bind (m:=Builtin.Tuple.tupleExact _) (wpAny_newObj_type (wpAny_pure ⟨_,rfl,wpAny_pure h⟩) htake)
    | exact wpAny_bind (m:=Builtin.Tuple.tupleExact _) (wpAny_newObj_type (wpAny_bind (wpAny_pure (wpAny_pure ⟨_,rfl,wpAny_pure h⟩))) htake)
    | exact wpAny_bind (wpAny_bind (m:=Builtin.Tuple.tupleExact _) (wpAny_newObj_type (wpAny_pure (wpAny_pure ⟨_,rfl,wpAny_pure h⟩)) htake))
    | exact wpAny_bind (wpAny_bind (m:=Builtin.Tuple.tupleExact _) (wpAny_newObj_type (wpAny_pure ⟨_,rfl,wpAny_pure h⟩) htake))
end
end HT
namespace L2
open PySem PySem.Spec PyProof.Rows
noncomputable abbrev TO:=St→Hp→(Option Int→Hp→Prop)→Prop
noncomputable def PO (X:Cx) (e:Option Expr) (t:TO):Prop :=
  ∀ (pins:List (Addr×Obj)) (s:Shared) (σ:St) (H:Hp) (Q:Option Int→Hp→Prop),Inv X pins σ H s→t σ H Q →
    wpAny (model X.prog X.w) X.A (evalPart e X.env) (fun u s'=>∃ o H',Inv X pins σ H' s'∧IsPart u o∧Q o H') X.xe s
noncomputable def tNoPart:TO:=fun _ H Q=>Q none H
noncomputable def tPart (t:TE):TO:=fun σ H Q=>t σ H fun x H1=>∃ i,x=.int i∧Q (some i) H1

section
variable {X:Cx} {e:Expr} {te:TE} {lo hi:Option Expr} {tl th:TO} {pos p2:Pos}
theorem po_none:PO X none tNoPart:=by
  intro pins s σ H Q I h
  rw [evalPart_none]
  exact wpAny_pure ⟨none,H,I,.none,h⟩
theorem po_some (h:PE X e te):PO X (some e) (tPart te):=by
  intro pins s σ H Q I hw
  rw [evalPart_some]
  refine thn (h pins s σ H _ I hw) fun u s1 hz0=>?_
  obtain ⟨x,H1,I1,r1,q1⟩:=hz0
  obtain ⟨i,rfl,q⟩:=q1
  obtain ⟨t,rfl⟩:=r1
  exact ⟨some i,H1,I1,.int i t,q⟩

noncomputable def SlR (X:Cx) (r:V→Option Int→Option Int→Hp→VK→Prop):Prop :=
  ∀ (pins:List (Addr×Obj)) (s:Shared) (σ:St) (H:Hp) (x:V) (v vl vu:Value) (lo hi:Option Int) (sl:Addr) (Q:VK),Inv X pins σ H s→RelV x v→s.heap.IsSliceOf sl vl vu .none→IsPart vl lo→IsPart vu hi→r x lo hi H Q →
    ∃ T id,typeLookup (.type T) "__getitem__"=pure (some (.builtin id))∧s.TypeIs v T∧wpAny (model X.prog X.w) X.A (getItem v (.ref sl)) (EP X pins σ Q) X.xe s
theorem SlR.or {r r':V→Option Int→Option Int→Hp→VK→Prop} (h:SlR X r) (h':SlR X r'):SlR X (fun x lo hi H Q=>r x lo hi H Q∨r' x lo hi H Q):=by
  intro pins s σ H x v vl vu lo hi sl Q I rx hs pl pu q
  rcases q with q | q
  · exact h pins s σ H x v vl vu lo hi sl Q I rx hs pl pu q
  · exact h' pins s σ H x v vl vu lo hi sl Q I rx hs pl pu q
noncomputable def tSl (r:V→Option Int→Option Int→Hp→VK→Prop) (te:TE) (tl th:TO):TE:=fun σ H Q=>te σ H fun x H1=>tl σ H1 fun l H2=>th σ H2 fun u H3=>r x l u H3 Q
theorem pe_slice {r:V→Option Int→Option Int→Hp→VK→Prop} (hr:SlR X r) (he:PE X e te) (hl:PO X lo tl) (hu:PO X hi th):PE X (.Subscript e (.Slice lo hi none p2) pos) (tSl r te tl th):=by
  intro pins s σ H Q I h
  refine Subscript_ (thn (he pins s σ H _ I h) fun v s1 hz0=>?_)
  obtain ⟨x,H1,I1,r1,q1⟩:=hz0
  refine wpAny_Slice (thn (hl pins s1 σ H1 _ I1 q1) fun vl s2 ⟨l,H2,I2,pl,q2⟩=>thn (hu pins s2 σ H2 _ I2 q2) fun vu s3 hz0=>?_)
  obtain ⟨u,H3,I3,pu,q3⟩:=hz0
  rw [evalPart_none]
  refine wpAny_pure ?_
  have I4:Inv X pins σ H3 { s3 with heap:=s3.heap.push { cls:=.type "slice",data:=.fields #[vl,vu,.none] } }:=I3.kept (t':=s3.toks) fun b ob q=>Heap.get?_push_of_some _ q
  obtain ⟨T,id,hT,ht,hg⟩:=hr pins { s3 with heap:=s3.heap.push { cls:=.type "slice",data:=.fields #[vl,vu,.none] } } σ H3 x v vl vu l u s3.heap.objs.size Q I4 r1 (Heap.IsSliceOf.new ..) pl pu q3
  show wpAny (model X.prog X.w) X.A (subscriptTail e (.Slice lo hi none p2) v (.ref s3.heap.objs.size)) (EP X pins σ Q) X.xe { s3 with heap:=s3.heap.push { cls:=.type "slice",data:=.fields #[vl,vu,.none] } }
  exact tail_any (ops:=[.ref s3.heap.objs.size,v]) ht hT hg (by with_unfolding_all rfl)

noncomputable def cutV (xs:List V) (lo hi:Option Int):List V:=(xs.drop (HT.sIx xs.length 0 lo)).take (HT.sIx xs.length xs.length hi - HT.sIx xs.length 0 lo)
theorem cutV_length (xs:List V) (lo hi:Option Int):(cutV xs lo hi).length≤xs.length:=by
  unfold cutV
  rw [List.length_take,List.length_drop]
  exact Nat.le_trans (Nat.min_le_right _ _) (Nat.sub_le _ _)
noncomputable def rSlT (K:PySem.W.Frag):V→Option Int→Option Int→Hp→VK→Prop:=fun x lo hi H Q=>∃ a xs,x=.ref a∧SqT K H a xs ∧
  ¬ (HT.sIx xs.length 0 lo=0∧HT.sIx xs.length xs.length hi=xs.length)∧∀ p,H p=none→Q (.ref p) (upd H p (.tup (cutV xs lo hi)))
theorem sl_tup:SlR X (rSlT X.K):=by
  intro pins s σ H x v vl vu lo hi sl Q I rx hs pl pu h
  obtain ⟨a,xs,rfl,hx,hw,q⟩:=h
  cases rx
  obtain ⟨its,r,ht,hz⟩:=I.tuple hx
  have hlen:its.toArray.size=xs.length:=by rw [List.size_toArray]; exact r.length.symm
  refine ⟨"tuple",_,PyProof.Rows.slot_tuple_getitem.lookup,ht.typeIs,?_⟩
  refine HT.getItem_tuple_cut ht hs pl pu (by rw [hlen]; exact hw) ?_ (by rw [hlen]; exact hz)
  rw [hlen]
  refine ⟨.ref s.heap.objs.size,_,I.laid (t':=s.toks) (o:=.tup (cutV xs lo hi)) (fun b ob q=>Heap.get?_push_of_some _ q) (Nat.le_refl _) ?_,rfl,q _ (I.hok.fresh (Nat.le_refl _))⟩
  exact ⟨Nat.le_trans (cutV_length xs lo hi) hz,_,(r.drop (HT.sIx xs.length 0 lo)).take (HT.sIx xs.length xs.length hi - HT.sIx xs.length 0 lo),IsTup.new _ _⟩

noncomputable def rCatT (K:PySem.W.Frag):R2:=fun x y H Q=>∃ a b xs ys,x=.ref a∧y=.ref b∧SqT K H a xs∧SqT K H b ys∧xs≠[]∧xs.length+ys.length≤sizeLine ∧
  (ys=[]→Q (.ref a) H)∧(ys≠[]→∀ p,H p=none→Q (.ref p) (upd H p (.tup (xs++ys))))
theorem Vals.nil_iff {xs:List V} {us:List Value} (r:Vals xs us):us=[] ↔ xs=[]:=by
  cases r with
  | nil=>simp
  | cons _ _=>simp
theorem op_catT:OpR X (binaryOp .Add) (rCatT X.K):=by
  intro pins s σ H x y v u Q I rx ry h
  obtain ⟨a,b,xs,ys,rfl,rfl,ha,hb,hx,hz,q1,q2⟩:=h
  cases rx
  cases ry
  obtain ⟨its,r1,p1,_⟩:=I.tuple ha
  obtain ⟨its2,r2,p2,_⟩:=I.tuple hb
  refine HT.cat_tup p1 p2 (fun z=>hx (r1.nil_iff.mp z)) (fun z=>⟨.ref a,H,I,rfl,q1 (r2.nil_iff.mp z)⟩) (fun z=>?_) (by rw [← r1.length,← r2.length]; exact hz)
  refine ⟨.ref s.heap.objs.size,_,I.laid (t':=s.toks) (o:=.tup (xs++ys)) (fun b ob q=>Heap.get?_push_of_some _ q) (Nat.le_refl _) ?_,rfl,q2 (fun w=>z (r2.nil_iff.mpr w)) _ (I.hok.fresh (Nat.le_refl _))⟩
  exact ⟨by rw [List.length_append]; exact hz,_,r1.append r2,IsTup.new _ _⟩
end
end L2
namespace L2
open PySem PySem.Spec PyProof.Rows
noncomputable def ixN (n:Nat) (i:Int):Option Nat:=if 0≤i then (if i < n then some i.toNat else none) else if -(n:Int)≤i then some (i+n).toNat else none
noncomputable def atI {α:Type} (xs:List α) (i:Int):Option α:=(ixN xs.length i).bind fun j=>xs[j]?
theorem ixN_seq {n:Nat} {i:Int} {j:Nat} (h:ixN n i=some j):seqIndex? i n=some j∧j < n∧-(n:Int)≤i∧i < n:=by
  unfold ixN at h
  by_cases h0:0≤i
  · rw [if_pos h0] at h
    by_cases h1:i < n
    · rw [if_pos h1] at h
      have e:i.toNat=j:=Option.some.inj h
      exact ⟨by rw [seqIndex_of h0 h1,e],by omega,by omega,h1⟩
    · rw [if_neg h1] at h; cases h
  · rw [if_neg h0] at h
    by_cases h1:-(n:Int)≤i
    · rw [if_pos h1] at h
      have e:(i+n).toNat=j:=Option.some.inj h
      exact ⟨by rw [seqIndex_neg (by omega) h1,e],by omega,h1,by omega⟩
    · rw [if_neg h1] at h; cases h
theorem atI_get {α:Type} {xs:List α} {i:Int} {v:α} (h:atI xs i=some v):∃ j,seqIndex? i xs.length=some j∧xs[j]?=some v∧j < xs.length∧-(xs.length:Int)≤i∧i < xs.length:=by
  unfold atI at h
  cases e:ixN xs.length i with
  | none=>rw [e] at h; cases h
  | some j =>
    rw [e] at h
    obtain ⟨h1,h2,h3,h4⟩:=ixN_seq e
    exact ⟨j,h1,h,h2,h3,h4⟩
theorem atI_nat {α:Type} {xs:List α} {j:Nat} {v:α} (h:xs[j]?=some v):atI xs (j:Int)=some v:=by
  have hj:j < xs.length:=(List.getElem?_eq_some_iff.mp h).1
  have e:ixN xs.length (j:Int)=some j:=by
    unfold ixN
    rw [if_pos (by omega),if_pos (by omega)]; simp
  unfold atI; rw [e]; exact h
noncomputable def PlainIx (b:Expr):Prop:=∀ o i,subscripted b false o i=operate [o,i] (getItem o i)
noncomputable def IxR (X:Cx) (r:R2):Prop :=
  ∀ (value slice:Expr) (pins:List (Addr×Obj)) (s:Shared) (σ:St) (H:Hp) (x y:V) (v u:Value) (Q:VK),Inv X pins σ H s→RelV x v→RelV y u→r x y H Q →
    subscripted slice false v u=operate [v,u] (getItem v u)→wpAny (model X.prog X.w) X.A (subscriptTail value slice v u) (EP X pins σ Q) X.xe s
noncomputable def MtR (X:Cx) (id:String) (r:V→List V→Hp→VK→Prop):Prop :=
  ∀ (pins:List (Addr×Obj)) (s:Shared) (σ:St) (H:Hp) (x:V) (xs:List V) (v:Value) (us:List Value) (Q:VK),Inv X pins σ H s→RelV x v→Vals xs us→r x xs H Q →
    wpAny (model X.prog X.w) X.A (call (.builtin id) (v::us)) (EP X pins σ Q) X.xe s
section
variable {X:Cx} {a b:Expr} {ta tb:TE} {pos:Pos}
theorem IxR.or {r r':R2} (h:IxR X r) (h':IxR X r'):IxR X (fun x y H Q=>r x y H Q∨r' x y H Q):=by
  intro value slice pins s σ H x y v u Q I rx ry q hs
  rcases q with q | q
  · exact h value slice pins s σ H x y v u Q I rx ry q hs
  · exact h' value slice pins s σ H x y v u Q I rx ry q hs
theorem pe_ix {r:R2} (hr:IxR X r) (ha:PE X a ta) (hb:PE X b tb) (hs:PlainIx b):PE X (.Subscript a b pos) (tOp r ta tb):=by
  intro pins s σ H Q I h
  exact Subscript_ (binT ha hb I h fun v u s2 x y H2 I2 rx ry q=>hr a b pins s2 σ H2 x y v u Q I2 rx ry q (hs _ _))

noncomputable def rIxL (K:PySem.W.Frag):R2:=fun x y H Q=>∃ p xs i v,x=.ref p∧y=.int i∧SqL K H p xs∧atI xs i=some v∧Q v H
noncomputable def rIxT (K:PySem.W.Frag):R2:=fun x y H Q=>∃ p xs i v,x=.ref p∧y=.int i∧SqT K H p xs∧atI xs i=some v∧Q v H
noncomputable def rIxS:R2:=fun x y H Q=>∃ z i c,x=.str z∧y=.int i∧z.length≤sizeLine∧atI z.cps.toList i=some c∧Q (.str ⟨#[c]⟩) H
theorem ix_list:IxR X (rIxL X.K):=by
  intro value slice pins s σ H x y v u Q I rx ry h hs
  obtain ⟨p,xs,i,z,rfl,rfl,hq,he,q⟩:=h
  cases rx
  obtain ⟨t,rfl⟩:=ry
  obtain ⟨its,r,pl,hz⟩:=I.list hq
  obtain ⟨j,h1,h2,h3,h4,h5⟩:=atI_get he
  obtain ⟨w,ew,rw'⟩:=r.get h2
  have hl:=r.length
  have hn:=line63
  have fin:EP X pins σ Q w s:=⟨z,H,I,rw',q⟩
  by_cases h0:0≤i
  · have hj:i.toNat=j:=by
      rw [seqIndex_of h0 h5] at h1
      exact Option.some.inj h1
    exact item_listR pl.isList h0 (by omega) (by rw [hj]; simpa using ew) fin hs
  · have hj:(i+(its.toArray.size:Int)).toNat=j:=by
      rw [seqIndex_neg (by omega) h4] at h1
      rw [List.size_toArray,← hl]
      exact Option.some.inj h1
    exact subscriptTail_builtinR (x:=w) pl.isList.typeIs slot_list_getitem.lookup
      (wpAny_getItem_list_neg (Q:=fun r s'=>r=w∧EP X pins σ Q r s') pl.isList (by omega) (by rw [List.size_toArray] <;> omega) (by omega) (by rw [hj]; simpa using ew) ⟨rfl,fin⟩) hs
theorem ix_tup:IxR X (rIxT X.K):=by
  intro value slice pins s σ H x y v u Q I rx ry h hs
  obtain ⟨p,xs,i,z,rfl,rfl,hq,he,q⟩:=h
  cases rx
  obtain ⟨t,rfl⟩:=ry
  obtain ⟨its,r,pl,hz⟩:=I.tuple hq
  obtain ⟨j,h1,h2,h3,h4,h5⟩:=atI_get he
  obtain ⟨w,ew,rw'⟩:=r.get h2
  have hl:=r.length
  have hn:=line63
  have fin:EP X pins σ Q w s:=⟨z,H,I,rw',q⟩
  exact subscriptTail_builtinR (x:=w) pl.typeIs slot_tuple_getitem.lookup
    (getItem_tuple (j:=j) (Q:=fun r s'=>r=w∧EP X pins σ Q r s') pl (by omega) (by omega) (by rw [List.size_toArray,← hl]; exact h1) (by simpa using ew) ⟨rfl,fin⟩) hs
theorem ix_str:IxR X rIxS:=by
  intro value slice pins s σ H x y v u Q I rx ry h hs
  obtain ⟨z,i,c,rfl,rfl,hz,he,q⟩:=h
  obtain ⟨t,rfl⟩:=rx
  obtain ⟨t',rfl⟩:=ry
  obtain ⟨j,h1,h2,h3,h4,h5⟩:=atI_get he
  have hl:z.cps.toList.length=z.length:=by simp [Str.length]
  rw [hl] at h1 h4 h5
  have hn:=line63
  exact tail_any (typeIs_str s z t) slot_str_getitem.lookup (getItem_str (c:=c) (by
    have e1:decide (i < -(2 ^ 63:Int))=false:=decide_eq_false (by omega)
    have e2:decide (i ≥ 2 ^ 63)=false:=decide_eq_false (by omega)
    rw [e1,e2,Bool.or_false]) (by rw [h1]; simpa using h2) ⟨.str ⟨#[c]⟩,H,I.tok _,⟨_,rfl⟩,q⟩) hs
noncomputable def rIx (K:PySem.W.Frag):R2:=fun x y H Q=>rIxL K x y H Q∨rIxT K x y H Q∨rIxS x y H Q
theorem ix_seq:IxR X (rIx X.K):=ix_list.or (ix_tup.or ix_str)

theorem mapSeq_set (its:List Value) (n j:Nat) (u:Value):Obj.mapSeq (·.setIfInBounds j u) { cls:=.type "list",data:=.seq its.toArray n }={ cls:=.type "list",data:=.seq (its.set j u).toArray n }:=by
  simp [Obj.mapSeq]
theorem Inv.lst {pins:List (Addr×Obj)} {σ:St} {H:Hp} {s:Shared} {p:Addr} {xs:List V} (I:Inv X pins σ H s) (h:H p=some (.lst xs)) :
    ∃ (its:List Value) (n:Nat),Vals xs its∧s.heap.get? p=some { cls:=.type "list",data:=.seq its.toArray n }∧xs.length≤sizeLine:=by
  obtain ⟨z,its,n,r,e⟩:=I.hok p _ h
  exact ⟨its,n,r,e,z⟩
theorem Inv.lstUpd {pins:List (Addr×Obj)} {σ:St} {H:Hp} {s:Shared} {p:Addr} {xs ys:List V} {its its':List Value} {n n':Nat} {f:Obj→Obj} (I:Inv X pins σ H s) (h:H p=some (.lst xs))
    (ho:s.heap.get? p=some { cls:=.type "list",data:=.seq its.toArray n }) (hf:f { cls:=.type "list",data:=.seq its.toArray n }={ cls:=.type "list",data:=.seq its'.toArray n' }) (r:Vals ys its') (hz:ys.length≤sizeLine) (t:Nat) :
    Inv X pins σ (upd H p (.lst ys)) { s with heap:=s.heap.update p f,toks:=t }:=by
  have e:(s.heap.update p f).get? p=some { cls:=.type "list",data:=.seq its'.toArray n' }:=by
    rw [Heap.get?_update_self f ho (by rw [hf] <;> rfl),hf]
  refine I.write (x:=p) (e:=p) (by rw [h]; trivial) (.inl rfl) (fun b u hb q=>(Heap.get?_update_other _ _ (Ne.symm hb)).trans q) ⟨_,e⟩ ?_
  exact ⟨hz,its',n',r,e⟩
noncomputable def rSetL:V→V→V→Hp→(Hp→Prop)→Prop:=fun o i v H Q=>∃ p xs k j,o=.ref p∧i=.int k∧H p=some (.lst xs)∧ixN xs.length k=some j∧Q (upd H p (.lst (xs.set j v)))
theorem set_list:PSet X rSetL:=by
  intro pins s σ H o i v ov iv u Q I ro ri rv h
  obtain ⟨p,xs,k,j,rfl,rfl,hp,hj,q⟩:=h
  cases ro
  obtain ⟨t,rfl⟩:=ri
  obtain ⟨its,n,r,ho,hz⟩:=I.lst hp
  obtain ⟨h1,h2,h3,h4⟩:=ixN_seq hj
  have hl:=r.length
  have hn:=line63
  have I':Inv X pins σ (upd H p (.lst (xs.set j v))) { s with heap:=s.heap.update p (Obj.mapSeq (·.setIfInBounds j u)) } :=
    I.lstUpd hp ho (mapSeq_set its n j u) (r.set rv j) (by rw [List.length_set]; exact hz) s.toks
  by_cases h0:0≤k
  · have hk:k.toNat=j:=by
      rw [seqIndex_of h0 h4] at h1
      exact Option.some.inj h1
    exact PySem.W.ki_setAt ho h0 (by omega) (by rw [List.size_toArray,← hl]; exact h4) (by rw [hk]; exact ⟨_,I',q⟩)
  · have hk:(k+(its.toArray.size:Int)).toNat=j:=by
      rw [seqIndex_neg (by omega) h3] at h1
      rw [List.size_toArray,← hl]
      exact Option.some.inj h1
    exact PySem.W.ki_setBack ho (by omega) (by rw [List.size_toArray,← hl]; exact h3) (by omega) (by rw [hk]; exact ⟨_,I',q⟩)

theorem cut_lo {n:Nat} {i:Int} (h:i < 0):max 0 (min (i+(n:Int)) n)=(((i+n).toNat:Nat):Int):=by
  rw [Int.min_eq_left (by omega),Int.ofNat_toNat,Int.max_comm]
theorem cut_hi {n:Nat} {i:Int} (h:¬ i < 0):max 0 (min i (n:Int))=((min i.toNat n:Nat):Int):=by
  obtain ⟨k,rfl⟩:=Int.eq_ofNat_of_zero_le (Int.not_lt.mp h)
  rw [Int.toNat_natCast,← Lean.Omega.Int.ofNat_min]
  exact Int.max_eq_right (Int.natCast_nonneg _)
theorem slice_bounds (lo hi:Option Int) (n:Nat):(sliceBounds lo hi none n).1=((HT.sIx n 0 lo:Nat):Int)∧(sliceBounds lo hi none n).2.1=((HT.sIx n n hi:Nat):Int)∧(sliceBounds lo hi none n).2.2=1:=by
  refine ⟨?_,?_,rfl⟩
  · cases lo with
    | none=>simp [sliceBounds,HT.sIx]
    | some i =>
      simp only [sliceBounds,HT.sIx,Option.getD_none,show (1:Int) > 0 by decide,if_true]
      by_cases h:i < 0
      · simp only [h,if_true]
        exact cut_lo h
      · simp only [h,if_false]
        exact cut_hi h
  · cases hi with
    | none=>simp [sliceBounds,HT.sIx]
    | some i =>
      simp only [sliceBounds,HT.sIx,Option.getD_none,show (1:Int) > 0 by decide,if_true]
      by_cases h:i < 0
      · simp only [h,if_true]
        exact cut_lo h
      · simp only [h,if_false]
        exact cut_hi h
theorem slicePick_cut (its:List Value) (lo hi:Option Int):slicePick its.toArray lo hi none=((its.drop (HT.sIx its.length 0 lo)).take (HT.sIx its.length its.length hi - HT.sIx its.length 0 lo)).toArray:=by
  obtain ⟨h1,h2,h3⟩:=slice_bounds lo hi its.toArray.size
  unfold slicePick
  rw [h1,h2,h3]
  simp only [sliceRange_one,pick_run,List.size_toArray] <;> rfl
noncomputable def rSlL (K:PySem.W.Frag):V→Option Int→Option Int→Hp→VK→Prop:=fun x lo hi H Q=>∃ a xs,x=.ref a∧SqL K H a xs∧∀ p,H p=none→Q (.ref p) (upd H p (.lst (cutV xs lo hi)))
theorem sl_list:SlR X (rSlL X.K):=by
  intro pins s σ H x v vl vu lo hi sl Q I rx hs pl pu h
  obtain ⟨a,xs,rfl,hx,q⟩:=h
  cases rx
  obtain ⟨its,r,ht,hz⟩:=I.list hx
  have hlen:=r.length
  refine ⟨"list",_,slot_list_getitem.lookup,ht.isList.typeIs,?_⟩
  refine wpAny_getItem_list_slice ht.isList hs pl pu .none (by simp) ?_ (by rw [List.size_toArray] <;> omega)
  rw [slicePick_cut,← hlen]
  refine ⟨.ref s.heap.objs.size,_,I.laid (t':=s.toks) (o:=.lst (cutV xs lo hi)) (fun b ob q=>Heap.get?_push_of_some _ q) (Nat.le_refl _) ?_,rfl,q _ (I.hok.fresh (Nat.le_refl _))⟩
  exact ⟨Nat.le_trans (cutV_length xs lo hi) hz,_,0,(r.drop (HT.sIx xs.length 0 lo)).take (HT.sIx xs.length xs.length hi - HT.sIx xs.length 0 lo),Heap.get?_push_size _ rfl⟩

theorem call_len_seq:CallR X (.builtin "len") (fun xs H Q=>∃ p ys,xs=[.ref p]∧(SqL X.K H p ys∨SqT X.K H p ys)∧Q (.int ys.length) H):=by
  intro pins s σ H xs us Q I r h
  obtain ⟨p,ys,rfl,hq,q⟩:=h
  obtain ⟨u,rfl,rx⟩:=vals1 r
  cases rx
  have hn:=line63
  rcases hq with hq | hq
  · obtain ⟨its,r',pl,hz⟩:=I.list hq
    have hlen:=r'.length
    exact Calls.call_len_list pl.isList (by simp only [List.size_toArray] <;> omega) ⟨.int ys.length,H,I.tok _,⟨s.toks+1,by rw [List.size_toArray,hlen]⟩,q⟩
  · obtain ⟨its,r',pl,hz⟩:=I.tuple hq
    have hlen:=r'.length
    exact len_tuple pl (by simp only [List.size_toArray] <;> omega) ⟨.int ys.length,H,I.tok _,⟨s.toks+1,by rw [List.size_toArray,hlen]⟩,q⟩
theorem call_list_of:CallR X (.type "list") (fun xs H Q=>∃ p ys,xs=[.ref p]∧(SqL X.K H p ys∨SqT X.K H p ys)∧∀ l,H l=none→Q (.ref l) (upd H l (.lst ys))):=by
  intro pins s σ H xs us Q I r h
  obtain ⟨p,ys,rfl,hq,q⟩:=h
  obtain ⟨u,rfl,rx⟩:=vals1 r
  cases rx
  have fin:∀ (its:List Value),Vals ys its→ys.length≤sizeLine→∀ (h':Heap) (c':Nat),(∀ b o',s.heap.get? b=some o'→h'.get? b=some o') →
      h'.get? s.heap.objs.size=some { cls:=.type "list",dict:=none,data:=.seq its.toArray c',slots:=#[] }→EP X pins σ Q (.ref s.heap.objs.size) { s with heap:=h' }:=fun its r' hz h' c' kp e =>
    ⟨.ref s.heap.objs.size,_,I.laid (t':=s.toks) kp (Nat.le_refl _) (show ObjOk X.prog X.w _ h' _ (.lst ys) from ⟨hz,its,c',r',e⟩),rfl,q _ (I.hok.fresh (Nat.le_refl _))⟩
  rcases hq with hq | hq
  · obtain ⟨its,r',pl,hz⟩:=I.list hq
    have hlen:=r'.length
    obtain ⟨o,ho,hc,n,hd⟩:=pl.isList
    exact call_list_seq p (.inl rfl) ho hc hd (fun h' c' kp e=>fin its r' hz h' c' kp e) (by simp only [List.size_toArray] <;> omega)
  · obtain ⟨its,r',pl,hz⟩:=I.tuple hq
    have hlen:=r'.length
    obtain ⟨o,ho,hc,n,hd⟩:=pl
    exact call_list_seq p (.inr rfl) ho hc hd (fun h' c' kp e=>fin its r' hz h' c' kp e) (by simp only [List.size_toArray] <;> omega)
theorem call_tuple_of:CallR X (.type "tuple") (fun xs H Q=>∃ p ys,xs=[.ref p]∧((SqL X.K H p ys∧∀ l,H l=none→Q (.ref l) (upd H l (.tup ys)))∨(SqT X.K H p ys∧Q (.ref p) H))):=by
  intro pins s σ H xs us Q I r h
  obtain ⟨p,ys,rfl,h⟩:=h
  obtain ⟨u,rfl,rx⟩:=vals1 r
  cases rx
  rcases h with ⟨hq,q⟩ | ⟨hq,q⟩
  · obtain ⟨its,r',pl,hz⟩:=I.list hq
    have hlen:=r'.length
    refine call_tuple_list pl.isList (fun h' kp=>?_) (by simp only [List.size_toArray] <;> omega)
    have I1:Inv X pins σ H { s with heap:=h' }:=I.kept (t':=s.toks) kp
    have I2:Inv X pins σ (upd H h'.objs.size (.tup ys)) { s with heap:=h'.push { cls:=.type "tuple",data:=.seq its.toArray } } :=
      I1.laid (t':=s.toks) (fun b o e=>Heap.get?_push_of_some _ e) (Nat.le_refl _) (show ObjOk X.prog X.w _ _ _ (.tup ys) from ⟨hz,its,r',IsTup.new _ _⟩)
    exact ⟨.ref h'.objs.size,_,I2,rfl,q _ (I1.hok.fresh (Nat.le_refl _))⟩
  · obtain ⟨its,r',pl,hz⟩:=I.tuple hq
    exact call_tuple_same pl ⟨.ref p,H,I,rfl,q⟩

noncomputable def tyV (K:PySem.W.Frag) (T:String) (x:V) (H:Hp):Prop:=match x with
  | .str _=>T="str"
  | .int _=>T="int"
  | .ref p=>(T="list"∧∃ xs,SqL K H p xs)∨(T="tuple"∧∃ o,K.lookup p=some o∧o.cls=.type "tuple"∧o.dict=none) ∨
      (T="dict"∧((∃ kvs,H p=some (.dK kvs))∨∃ kvs,H p=some (.dT kvs)))∨(T="set"∧∃ S n,H p=some (.set S n))
  | _=>False
theorem tyV_is {pins:List (Addr×Obj)} {σ:St} {H:Hp} {s:Shared} {T:String} {x:V} {v:Value} (I:Inv X pins σ H s) (r:RelV x v) (ty:tyV X.K T x H) :
    s.TypeIs v T∧∀ a,v=.ref a→∃ ob,s.heap.get? a=some ob∧ob.dict=none:=by
  cases x with
  | str z =>
    obtain ⟨t,rfl⟩:=r
    cases (show T="str" from ty)
    exact ⟨typeIs_str s z t,fun _ e=>nomatch e⟩
  | int i =>
    obtain ⟨t,rfl⟩:=r
    cases (show T="int" from ty)
    exact ⟨typeIs_int s i t,fun _ e=>nomatch e⟩
  | ref p =>
    cases r
    rcases ty with ⟨rfl,xs,hq⟩ | ⟨rfl,o,hk,hc,hd⟩ | ⟨rfl,hk⟩ | ⟨rfl,S,n,hk⟩
    · obtain ⟨its,_,pl,_⟩:=I.list hq
      refine ⟨pl.isList.typeIs,fun a e=>?_⟩
      cases e
      obtain ⟨o,n,e,c,hd,_⟩:=pl
      exact ⟨o,e,hd⟩
    · refine ⟨⟨o,I.kIn p o hk,hc⟩,fun a e=>?_⟩
      cases e
      exact ⟨o,I.kIn _ o hk,hd⟩
    · have z:∃ o,s.heap.get? p=some o∧o.ExactDict:=by
        rcases hk with ⟨kvs,hk⟩ | ⟨kvs,hk⟩
        · obtain ⟨_,_,_,_,o,_,_,e,ex,_⟩:=I.hok p _ hk
          exact ⟨o,e,ex⟩
        · obtain ⟨_,_,_,_,o,_,_,e,ex,_⟩:=I.hok p _ hk
          exact ⟨o,e,ex⟩
      obtain ⟨o,e,ex⟩:=z
      refine ⟨⟨o,e,ex.1⟩,fun a e2=>?_⟩
      cases e2
      exact ⟨o,e,ex.2.1⟩
    · obtain ⟨o,_,_,_,e,ex,_⟩:=I.hok p _ hk
      refine ⟨⟨o,e,ex.1⟩,fun a e2=>?_⟩
      cases e2
      exact ⟨o,e,ex.2.1⟩
  | _=>exact False.elim ty
noncomputable def tBM (K:PySem.W.Frag) (T:String) (r:V→List V→Hp→VK→Prop) (to:TE) (t:TA):TE:=fun σ H Q=>to σ H fun x H1=>tyV K T x H1∧t σ H1 fun xs H2=>r x xs H2 Q
variable {o e:Expr} {es:List Expr} {to:TE} {t:TA} {name:Str} {apos cpos:Pos} {T id:String} {r:V→List V→Hp→VK→Prop}
theorem pe_bm (pa:PlainAttrs T) (slot:Slot T name id) (hty:typeOf (.builtin id)=pure (.type "method_descriptor")) (hm:MtR X id r) (ho:PE X o to) (ha:PA X (e::es) t)
    (hbase:attributeBase o name X.env (eval o X.env)=eval o X.env:=by rfl)
    (hfew:((backTo cpos (starEach (e::es) X.env)).all (fun x=>!x.1) && (backToKw cpos (keywordEach [] X.env)).all (fun x=>x.1.isSome)
      && decide ((e::es).length+([]:List Keyword).length+(if ([]:List Keyword).isEmpty then 0 else 1) < 30))=true:=by rfl)
    (hline:(apos.endLine == cpos.line)=true:=by rfl) (hs:starEach (e::es) X.env=(false,eval e X.env)::starEach es X.env:=by rfl) (hplain:(backTo cpos (starEach es X.env)).any (·.1)=false:=by rfl) :
    PE X (.Call (.Attribute o name apos) (e::es) [] cpos) (tBM X.K T r to t):=by
  intro pins s σ H Q I h
  refine wpAny_Call_method_late hbase hfew hline rfl (thn (ho pins s σ H _ I h) fun v s1 hz0=>?_)
  obtain ⟨x,H1,I1,r1,ty,q1⟩:=hz0
  obtain ⟨h1,h2⟩:=tyV_is I1 r1 ty
  refine ⟨T,id,pa,slot,hty,h1,h2,?_⟩
  have hA:=ha cpos pins s1 σ H1 _ I1 q1
  rw [hs] at hA ⊢
  refine Calls.callWith_builtin (by show (false || (backTo cpos (starEach es X.env)).any (·.1))=false; rw [hplain] <;> rfl) (Calls.evalArgs_plain ?_)
  exact thn hA fun us s2 hz0=>by
    obtain ⟨vs,H2,I2,r2,q2⟩:=hz0
    exact hm pins s2 σ H2 x vs v us Q I2 r1 r2 q2
end
end L2
namespace L2
open PySem PySem.Spec PyProof.Rows
noncomputable def MtM (X:Cx) (id:String) (r:V→List V→Hp→VK→Prop):Prop :=
  ∀ (pins:List (Addr×Obj)) (s:Shared) (σ:St) (H:Hp) (x:V) (xs:List V) (v:Value) (us:List Value) (Q:VK),Inv X pins σ H s→RelV x v→Vals xs us→r x xs H Q →
    wpAny (model X.prog X.w) X.A (call (.builtin id) (v::us)) (EP X pins σ Q) X.xe s

theorem Vals.one {x:V} {us:List Value} (h:Vals [x] us):∃ u,us=[u]∧RelV x u:=by
  cases h with
  | cons r t=>cases t; exact ⟨_,rfl,r⟩
theorem Vals.rep {xs:List V} {us:List Value} (h:Vals xs us):∀ k:Nat,Vals (List.replicate k xs).flatten (List.replicate k us).flatten
  | 0=>.nil
  | k+1=>by
    rw [List.replicate_succ,List.replicate_succ,List.flatten_cons,List.flatten_cons]
    exact Vals.append h (Vals.rep h k)
theorem foldl_rep (its:List Value):∀ (k:Nat) (acc:List Value),
    List.foldl (fun x1 x2=>x1++x2) acc.toArray (List.replicate k its.toArray)=(acc++(List.replicate k its).flatten).toArray
  | 0,acc=>by simp
  | k+1,acc=>by
    have e:acc.toArray++its.toArray=(acc++its).toArray:=by simp
    have e2:(acc++its)++(List.replicate k its).flatten=acc++(List.replicate (k+1) its).flatten:=by
      rw [List.replicate_succ,List.flatten_cons,List.append_assoc]
    rw [← e2,← foldl_rep its k (acc++its),← e,List.replicate_succ,List.foldl_cons]

section
variable {X:Cx} {pins:List (Addr×Obj)} {σ:St} {H:Hp} {s:Shared} {l b:Addr} {xs ys zs:List V}
theorem Inv.lset {its its':List Value} {n:Nat} {f:Array Value→Array Value} {t':Nat} (I:Inv X pins σ H s) (hH:H l=some (.lst xs))
    (e:s.heap.get? l=some { cls:=.type "list",data:=.seq its.toArray n }) (hf:f its.toArray=its'.toArray) (hv:Vals ys its') (hz:ys.length≤sizeLine) :
    Inv X pins σ (upd H l (.lst ys)) { s with heap:=s.heap.update l (Obj.mapSeq f),toks:=t' }:=by
  have q:=PySem.IsL.update e f
  rw [hf] at q
  refine I.write (x:=l) (e:=l) (by rw [hH]; exact trivial) (.inl rfl) (fun b' u hb hu=>(Heap.get?_update_other s.heap (Obj.mapSeq f) (Ne.symm hb)).trans hu) ⟨_,q⟩ ?_
  exact ⟨hz,its',_,hv,q⟩
theorem Inv.lnew {its:List Value} {t':Nat} (I:Inv X pins σ H s) (hv:Vals ys its) (hz:ys.length≤sizeLine) :
    Inv X pins σ (upd H s.heap.objs.size (.lst ys)) { s with heap:=s.heap.push { cls:=.type "list",data:=.seq its.toArray },toks:=t' } :=
  I.laid (fun _ _ q=>Heap.get?_push_of_some _ q) (Nat.le_refl _) ⟨hz,its,0,hv,Heap.get?_push_size _ rfl⟩
theorem Inv.fresh (I:Inv X pins σ H s):H s.heap.objs.size=none:=I.hok.fresh (Nat.le_refl _)
theorem Inv.lstM (I:Inv X pins σ H s) (hH:H l=some (.lst xs)):xs.length≤sizeLine∧∃ (its:List Value) (n:Nat),Vals xs its∧xs.length=its.length∧s.heap.get? l=some { cls:=.type "list",data:=.seq its.toArray n }:=by
  obtain ⟨z,its,n,r,e⟩:=I.hok l _ hH
  exact ⟨z,its,n,r,r.length,e⟩

theorem notLongL {n:Nat} (h:n≤sizeLine):Builtin.List.listTooLong n=false:=by
  unfold Builtin.List.listTooLong
  exact decide_eq_false (by omega)
end
section
variable {X:Cx}
noncomputable def rAppend:V→List V→Hp→VK→Prop:=fun x vs H Q=>∃ l xs y,x=.ref l∧vs=[y]∧H l=some (.lst xs)∧xs.length < sizeLine∧Q .non (upd H l (.lst (xs++[y])))
theorem mt_append:MtM X "list.append" rAppend:=by
  intro pins s σ H x vs v us Q I rx rv h
  obtain ⟨l,xs,y,rfl,rfl,hH,hz,q⟩:=h
  cases rx
  obtain ⟨u,rfl,ru⟩:=rv.one
  obtain ⟨z,its,n,r,hl,e⟩:=I.lstM hH
  refine call_meets F.slot_list_append ⟨_,e,rfl⟩ F.entry_list_append (F.args_list_append_2 _ _) (PySem.list_append l its.toArray n u (by rw [List.size_toArray]; omega)) ⟨e,?_⟩
  refine ⟨.non,_,I.lset (its':=its++[u]) hH e (by simp) (r.append (.cons ru .nil)) ?_,rfl,q⟩
  rw [List.length_append,List.length_singleton]
  omega

noncomputable def rCat:R2:=fun x y H Q=>∃ l b xs zs,x=.ref l∧y=.ref b∧H l=some (.lst xs)∧H b=some (.lst zs)∧xs.length+zs.length≤sizeLine∧∀ p,H p=none→Q (.ref p) (upd H p (.lst (xs++zs)))
theorem op_cat:OpR X (binaryOp .Add) rCat:=by
  intro pins s σ H x y v u Q I rx ry h
  obtain ⟨l,b,xs,zs,rfl,rfl,hH,hB,hz,q⟩:=h
  cases rx
  cases ry
  obtain ⟨z,its,n,r,hl,e⟩:=I.lstM hH
  obtain ⟨z2,its2,n2,r2,hl2,e2⟩:=I.lstM hB
  refine PySem.P.add_list e e2 ?_ (by rw [List.size_toArray,List.size_toArray]; omega)
  have ea:its.toArray++its2.toArray=(its++its2).toArray:=by simp
  rw [ea]
  exact ⟨.ref _,_,I.lnew (t':=s.toks) (r.append r2) (by rw [List.length_append]; omega),rfl,q _ I.fresh⟩
noncomputable def rRep:R2:=fun x y H Q=>∃ l k xs,x=.ref l∧y=.int k∧H l=some (.lst xs)∧-(2 ^ 63)≤k∧k < 2 ^ 63∧xs.length * k.toNat≤sizeLine ∧
  ∀ p,H p=none→Q (.ref p) (upd H p (.lst (List.replicate k.toNat xs).flatten))
theorem len_rep {α:Type} (xs:List α) (k:Nat):(List.replicate k xs).flatten.length=k * xs.length:=by
  induction k with
  | zero=>simp
  | succ k ih=>rw [List.replicate_succ,List.flatten_cons,List.length_append,ih,Nat.succ_mul,Nat.add_comm]
theorem op_rep:OpR X (binaryOp .Mult) rRep:=by
  intro pins s σ H x y v u Q I rx ry h
  obtain ⟨l,k,xs,rfl,rfl,hH,h1,h2,hz,q⟩:=h
  cases rx
  obtain ⟨t,rfl⟩:=ry
  obtain ⟨z,its,n,r,hl,e⟩:=I.lstM hH
  have hlen:its.toArray.size * k.toNat≤sizeLine:=by rw [List.size_toArray,← hl]; exact hz
  have hcap:¬ its.toArray.size * k.toNat > (2 ^ 63 - 1) / 8:=by
    have:(sizeLine:Nat)≤(2 ^ 63 - 1) / 8:=by decide
    omega
  have hfit:¬ (!Builtin.List.listFitsIndex k)=true:=by
    rw [fitsIndex_both h1 h2]
    exact Bool.false_ne_true
  have hlong:¬ Builtin.List.listTooLong (its.toArray.size * k.toNat)=true:=by
    rw [notLongL hlen]
    exact Bool.false_ne_true
  have hnew:List.foldl (fun x1 x2=>x1++x2) #[] (List.replicate (if its.toArray.isEmpty=true then 0 else k.toNat) its.toArray)=(List.replicate k.toNat its).flatten.toArray:=by
    have f0:∀ m:Nat,List.foldl (fun x1 x2=>x1++x2) #[] (List.replicate m its.toArray)=(List.replicate m its).flatten.toArray:=fun m=>by
      have:=foldl_rep its m []
      rw [List.nil_append] at this
      exact this
    rw [f0]
    cases its with
    | nil=>simp
    | cons a r'=>rw [if_neg (by simp)]
  refine wpAny_binaryOp_repeat_ref (T:="list") (U:="int") (by decide) ⟨_,e,rfl⟩ (fun s'=>typeIs_int s' k t) noFill_list_mul F.fills_int_mul F.slot_int_rmul repeat_list F.slot_int_index.lookup
    (call_meets F.slot_int_rmul (typeIs_int s k t) F.entry_int_rmul (F.args_int_rmul_2 _ _) (int___rmul___int_list k t l its.toArray n)
      ⟨e,rfl,⟨_,e,rfl⟩,call_meets F.slot_list_mul ⟨_,e,rfl⟩ F.entry_list_mul (F.args_list_mul_2 _ _) (AutoListH.list___mul___list_int_3 l its.toArray n k t hfit hcap hlong) ⟨e,?_⟩⟩)
  rw [hnew]
  exact ⟨.ref _,_,I.lnew (t':=s.toks) (r.rep k.toNat) (by rw [len_rep,Nat.mul_comm]; exact hz),rfl,q _ I.fresh⟩

end
section
variable {prog:Program} {w:World} {A:Around} {E:Value→Shared→Prop} {s:Shared}
end
section
variable {X:Cx}
end
end L2
namespace L2
open PySem PySem.Spec PyProof.Rows
section
variable {κ:Type} [DecidableEq κ]
noncomputable def valV (kvs:List (κ×V)) (k:κ):Option V:=(kvs.find? fun kv=>decide (kv.1=k)).map (·.2)
noncomputable def putK (kvs:List (κ×V)) (k:κ) (v:V):List (κ×V) :=
  if (kvs.any fun kv=>decide (kv.1=k))=true then kvs.map (fun kv=>if kv.1=k then (kv.1,v) else kv) else kvs++[(k,v)]
theorem valV_pos {p:κ×V} {r:List (κ×V)} {k:κ} (e:p.1=k):valV (p::r) k=some p.2:=by simp [valV,List.find?_cons,e]
theorem valV_neg {p:κ×V} {r:List (κ×V)} {k:κ} (e:¬ p.1=k):valV (p::r) k=valV r k:=by simp [valV,List.find?_cons,e]
theorem valV_any (k:κ):∀ kvs:List (κ×V),(kvs.any fun kv=>decide (kv.1=k))=(valV kvs k).isSome
  | []=>rfl
  | p::r=>by
    rw [List.any_cons]
    by_cases e:p.1=k
    · simp only [valV_pos e,decide_eq_true e,Bool.true_or,Option.isSome_some]
    · rw [valV_neg e,decide_eq_false e,Bool.false_or]; exact valV_any k r
theorem length_putK (kvs:List (κ×V)) (k:κ) (v:V):(putK kvs k v).length≤kvs.length+1:=by
  unfold putK
  split
  · rw [List.length_map]; omega
  · rw [List.length_append,List.length_cons,List.length_nil]; omega
theorem RelO.isSome_eq {o:Option V} {u:Option Value} (r:RelO o u):o.isSome=u.isSome:=by
  cases o with
  | none=>cases u with
    | none=>rfl
    | some _=>exact (show False from r).elim
  | some _=>cases u with
    | none=>exact (show False from r).elim
    | some _=>rfl
theorem KV.val {kvs:List (κ×V)} {vs:List (κ×Value)} (r:KV kvs vs) (k:κ):RelO (valV kvs k) (valueAt vs k):=by
  unfold KV at r
  induction r with
  | nil=>exact True.intro
  | @cons p q ps qs h t ih =>
    obtain ⟨h1,h2⟩:=h
    by_cases e:p.1=k
    · have e':q.1=k:=h1.symm.trans e
      have b:valueAt (q::qs) k=some q.2:=by simp [valueAt,List.find?_cons,e']
      rw [valV_pos e,b]; exact h2
    · have e':¬ q.1=k:=fun z=>e (h1.trans z)
      have b:valueAt (q::qs) k=valueAt qs k:=by simp [valueAt,List.find?_cons,e']
      rw [valV_neg e,b]; exact ih
theorem KV.any {kvs:List (κ×V)} {vs:List (κ×Value)} (r:KV kvs vs) (k:κ):(kvs.any fun kv=>decide (kv.1=k))=vs.any fun kv=>decide (kv.1=k):=by
  unfold KV at r
  induction r with
  | nil=>rfl
  | cons h t ih=>rw [List.any_cons,List.any_cons,ih,h.1]
theorem KV.repl {kvs:List (κ×V)} {vs:List (κ×Value)} (r:KV kvs vs) (k:κ) {y:V} {u:Value} (ry:RelV y u) :
    KV (kvs.map fun kv=>if kv.1=k then (kv.1,y) else kv) (vs.map fun kv=>if kv.1=k then (kv.1,u) else kv):=by
  unfold KV at r ⊢
  induction r with
  | nil=>exact .nil
  | @cons p q ps qs h t ih =>
    rw [List.map_cons,List.map_cons]
    refine .cons ?_ ih
    obtain ⟨h1,h2⟩:=h
    by_cases e:p.1=k
    · rw [if_pos e,if_pos (h1.symm.trans e)]; exact ⟨h1,ry⟩
    · rw [if_neg e,if_neg (fun z=>e (h1.trans z))]; exact ⟨h1,h2⟩
theorem KV.put {kvs:List (κ×V)} {vs:List (κ×Value)} (r:KV kvs vs) (k:κ) {y:V} {u:Value} (ry:RelV y u):KV (putK kvs k y) (stored vs k u):=by
  unfold putK stored
  rw [r.any k]
  by_cases e:(vs.any fun kv=>decide (kv.1=k))=true
  · rw [if_pos e,if_pos e]; exact r.repl k ry
  · rw [if_neg e,if_neg e]; exact Paired.snoc r ⟨rfl,ry⟩
theorem KV.length {kvs:List (κ×V)} {vs:List (κ×Value)} (r:KV kvs vs):kvs.length=vs.length:=Paired.length r
end
theorem kV_is {P:Program} {w:World} {k:Key} {u:Value} (r:RelV (kV k) u):(mixKind P w).is k u=true:=by
  cases k with
  | inl i=>obtain ⟨t,e⟩:=(show ∃ t,u=Value.int i t from r); subst e; exact mixKind_int P w i t
  | inr x=>obtain ⟨t,e⟩:=(show ∃ t,u=Value.str x t from r); subst e; exact mixKind_str P w x t
theorem items_are {P:Program} {w:World}:∀ {ks:List Key} {us:List Value},Vals (ks.map kV) us→ItemsAre (mixKind P w) ks us
  | [],_,r=>by rw [List.map_nil] at r; cases r; exact .nil
  | k::ks,_,r=>by
    rw [List.map_cons] at r
    cases r with
    | cons h t=>exact .cons (kV_is h) (items_are t)

noncomputable abbrev KT (H:Hp):List (List Key×V)→List (List Key×Addr×Value)→Prop:=Paired fun p q=>p.1=q.1∧H q.2.1=some (.tup (p.1.map kV))∧RelV p.2 q.2.2
theorem KT.val {H:Hp} {kvs:List (List Key×V)} {xs:List (List Key×Addr×Value)} (r:KT H kvs xs) (k:List Key):RelO (valV kvs k) ((atKey xs k).map (·.2)):=by
  induction r with
  | nil=>exact True.intro
  | @cons p q ps qs h t ih =>
    obtain ⟨h1,_,h2⟩:=h
    by_cases e:p.1=k
    · have e':q.1=k:=h1.symm.trans e
      have b:atKey (q::qs) k=some q.2:=by simp [atKey,List.find?_cons,e']
      rw [valV_pos e,b]; exact h2
    · have e':¬ q.1=k:=fun z=>e (h1.trans z)
      have b:atKey (q::qs) k=atKey qs k:=by simp [atKey,List.find?_cons,e']
      rw [valV_neg e,b]; exact ih
theorem KT.repl {H:Hp} {kvs:List (List Key×V)} {xs:List (List Key×Addr×Value)} (r:KT H kvs xs) (k:List Key) {y:V} {u:Value} (ry:RelV y u) :
    KT H (kvs.map fun kv=>if kv.1=k then (kv.1,y) else kv) (xs.map (putAt k u)):=by
  induction r with
  | nil=>exact .nil
  | @cons p q ps qs h t ih =>
    rw [List.map_cons,List.map_cons]
    refine .cons ?_ ih
    obtain ⟨h1,h2,h3⟩:=h
    unfold putAt
    by_cases e:p.1=k
    · rw [if_pos e,if_pos (h1.symm.trans e)]; exact ⟨h1,h2,ry⟩
    · rw [if_neg e,if_neg (fun z=>e (h1.trans z))]; exact ⟨h1,h2,h3⟩
theorem KT.put {H:Hp} {kvs:List (List Key×V)} {xs:List (List Key×Addr×Value)} (r:KT H kvs xs) (k:List Key) {b:Addr} {y:V} {u:Value} (hb:H b=some (.tup (k.map kV))) (ry:RelV y u) :
    KT H (putK kvs k y) (storedH xs k b u):=by
  have e:(kvs.any fun kv=>decide (kv.1=k))=(atKey xs k).isSome:=by
    rw [valV_any,(r.val k).isSome_eq,Option.isSome_map]
  unfold putK storedH
  rw [e]
  by_cases q:(atKey xs k).isSome=true
  · rw [if_pos q,if_pos q]; exact r.repl k ry
  · rw [if_neg q,if_neg q]; exact Paired.snoc r ⟨rfl,hb,ry⟩
theorem KT.keeps {H H':Hp} {kvs:List (List Key×V)} {xs:List (List Key×Addr×Value)} (r:KT H kvs xs) (ht:∀ b ys,H b=some (.tup ys)→H' b=some (.tup ys)):KT H' kvs xs :=
  Paired.mapP r fun _ _ z=>⟨z.1,ht _ _ z.2.1,z.2.2⟩

section
variable {P:Program} {w:World} {H:Hp} {h:Heap} {a:Addr}
theorem rd_of {u:HO} (ok:HOk P w H h) (e:Rd H a u):ObjOk P w H h a u:=e.ok ok
theorem dk_rd {kvs:List (Key×V)} (ok:HOk P w H h) (e:Rd H a (.dK kvs)):kvs.length≤sizeLine∧(a == sysModules)=false∧∃ vs,KV kvs vs∧h.DictOf (mixKind P w) a vs :=
  show ObjOk P w H h a (.dK kvs) from rd_of ok e
theorem dk_of {kvs:List (Key×V)} (ok:HOk P w H h) (e:H a=some (.dK kvs)):kvs.length≤sizeLine∧(a == sysModules)=false∧∃ vs,KV kvs vs∧h.DictOf (mixKind P w) a vs:=dk_rd ok (.inl e)
theorem key_of {ks:List Key} (ok:HOk P w H h) (e:H a=some (.tup (ks.map kV))):(tupleKind (mixKind P w)).is h ks a:=by
  obtain ⟨_,its,r,o,h1,h2,n,h3⟩:=(show ObjOk P w H h a (.tup (ks.map kV)) from ok a _ e)
  exact ⟨o,its.toArray,n,h1,h2,h3,by simpa using items_are r⟩
theorem dt_rd {kvs:List (List Key×V)} (ok:HOk P w H h) (e:Rd H a (.dT kvs)):kvs.length≤sizeLine∧(a == sysModules)=false ∧
    ∃ xs,KT H kvs xs∧h.DictOfH (tupleKind (mixKind P w)) a xs:=by
  obtain ⟨z,y,xs,r,o,es,ep,h1,h2,h3,h4,h5⟩:=(show ObjOk P w H h a (.dT kvs) from rd_of ok e)
  refine ⟨z,y,xs,r,o,es,ep,h1,h2,h3,h4,fun x hx=>?_,h5⟩
  have all:∀ {l:List (List Key×V)} {m:List (List Key×Addr×Value)},KT H l m→∀ x∈m,(tupleKind (mixKind P w)).is h x.1 x.2.1:=by
    intro l m q
    induction q with
    | nil=>intro x hx; exact nomatch hx
    | @cons p q ps qs hq t ih =>
      intro x hx
      rcases List.mem_cons.mp hx with e | hx
      · subst e
        exact key_of ok (by rw [← hq.1]; exact hq.2.1)
      · exact ih x hx
  exact all r x hx
theorem dt_of {kvs:List (List Key×V)} (ok:HOk P w H h) (e:H a=some (.dT kvs)):kvs.length≤sizeLine∧(a == sysModules)=false ∧
    ∃ xs,KT H kvs xs∧h.DictOfH (tupleKind (mixKind P w)) a xs:=dt_rd ok (.inl e)
end
noncomputable def DGet (H:Hp) (a:Addr) (y:V) (r:Option V):Prop :=
  (∃ kvs k,Rd H a (.dK kvs)∧y=kV k∧r=valV kvs k)∨∃ kvs k b,Rd H a (.dT kvs)∧y=.ref b∧H b=some (.tup (k.map kV))∧r=valV kvs k
noncomputable def DPut (H:Hp) (a:Addr) (y v:V) (H':Hp):Prop :=
  (∃ kvs k,H a=some (.dK kvs)∧y=kV k∧kvs.length < sizeLine∧H'=upd H a (.dK (putK kvs k v))) ∨
  ∃ kvs k b,H a=some (.dT kvs)∧y=.ref b∧H b=some (.tup (k.map kV))∧kvs.length < sizeLine∧H'=upd H a (.dT (putK kvs k v))
theorem DGet.k {H:Hp} {a:Addr} {kvs:List (Key×V)} {k:Key} (e:H a=some (.dK kvs)):DGet H a (kV k) (valV kvs k):=.inl ⟨kvs,k,.inl e,rfl,rfl⟩
theorem DPut.k {H:Hp} {a:Addr} {kvs:List (Key×V)} {k:Key} {v:V} (e:H a=some (.dK kvs)) (hl:kvs.length < sizeLine):DPut H a (kV k) v (upd H a (.dK (putK kvs k v))):=.inl ⟨kvs,k,e,rfl,hl,rfl⟩
section
variable {X:Cx} {pins:List (Addr×Obj)} {σ:St} {H:Hp} {s:Shared} {a:Addr} {y v:V} {u r:Value} {o:Option V} {A:Around} {E:Value→Shared→Prop}
theorem Inv.big (I:Inv X pins σ H s):sysModules < s.heap.objs.size:=by
  have h:mainGlobals < s.heap.objs.size:=(I.mod.glob.keeps I.bk).lt
  exact Nat.lt_trans (by decide) h

theorem d_getItem {Q:Value→Shared→Prop} (hu:A.units+1 < cLine) (I:Inv X pins σ H s) (g:DGet H a y (some v)) (ry:RelV y u) (h:∀ w' s',Inv X pins σ H s'→RelV v w'→Q w' s') :
    wpAny (model X.prog X.w) A (getItem (.ref a) u) Q E s:=by
  rcases g with ⟨kvs,k,e,ey,l⟩ | ⟨kvs,k,b,e,ey,eb,l⟩
  · subst ey
    obtain ⟨z,hd,vs,rel,dd⟩:=dk_rd I.hok e
    obtain ⟨w',hw,rw'⟩:=RelO.some_of (v:=v) (o:=valueAt vs k) (by rw [l]; exact rel.val k)
    exact wpAny_getItem_of (kV_is ry) dd.mapOf hw (h w' _ (I.tok _) rw')
  · subst ey
    cases (show u=Value.ref b from ry)
    obtain ⟨z,hd,xs,rel,dd⟩:=dt_rd I.hok e
    obtain ⟨w',hw,rw'⟩:=RelO.some_of (v:=v) (o:=(atKey xs k).map (·.2)) (by rw [l]; exact rel.val k)
    obtain ⟨p,hp,hp2⟩:=Option.map_eq_some_iff.mp hw
    refine wpAny_getItem_heap (tupleKind_room_in1 hu) (key_of I.hok eb) dd hp ?_
    rw [hp2]
    exact h w' _ (I.tok _) rw'
theorem d_write {h':Heap} {t':Nat} {ob:HO} (I:Inv X pins σ H s) (mu:Mut (H a)) (hs:Heap.SameBut a s.heap h') (he:∃ q,h'.get? a=some q) (new:ObjOk X.prog X.w (upd H a ob) h' a ob) :
    Inv X pins σ (upd H a ob) { s with heap:=h',toks:=t' } :=
  I.write (x:=a) (e:=a) mu (.inl rfl) (fun b q hb z=>(hs.2 b hb).trans z) he new
theorem dk_new {P:Program} {w:World} {H':Hp} {h':Heap} {kvs:List (Key×V)} {vs:List (Key×Value)} (z:kvs.length≤sizeLine) (hd:(a == sysModules)=false) (rel:KV kvs vs) (dd:h'.DictOf (mixKind P w) a vs) :
    ObjOk P w H' h' a (.dK kvs):=⟨z,hd,vs,rel,dd⟩
theorem d_setItem {H':Hp} {Q:Unit→Shared→Prop} (hu:A.units+1 < cLine) (I:Inv X pins σ H s) (g:DPut H a y v H') (ry:RelV y u) (rv:RelV v r) (h:∀ s',Inv X pins σ H' s'→Q () s') :
    wpAny (model X.prog X.w) A (setItem (.ref a) u r) Q E s:=by
  rcases g with ⟨kvs,k,e,ey,l,eH⟩ | ⟨kvs,k,b,e,ey,eb,l,eH⟩
  · subst ey eH
    obtain ⟨z,hd,vs,rel,dd⟩:=dk_of I.hok e
    have hz:vs.length≤sizeLine:=by rw [← rel.length]; exact z
    have hl:(putK kvs k v).length≤sizeLine:=by have:=length_putK kvs k v; omega
    refine wpAny_setItem_pairs (hsz:=hz) (kV_is ry) dd fun h' dd' hs=>h _ ?_
    have he:∃ q,h'.get? a=some q:=let ⟨q,_,_,hq,_⟩:=dd'; ⟨q,hq⟩
    exact d_write I (by rw [e]; exact True.intro) hs he (dk_new hl hd (rel.put k rv) dd')
  · subst ey eH
    cases (show u=Value.ref b from ry)
    obtain ⟨z,hd,xs,rel,dd⟩:=dt_of I.hok e
    have hz:xs.length≤sizeLine:=by rw [← Paired.length rel]; exact z
    have hl:(putK kvs k v).length≤sizeLine:=by have:=length_putK kvs k v; omega
    refine wpAny_setItem_heap (hsz:=hz) (tupleKind_room_in1 hu) (key_of I.hok eb) dd fun h' dd' hs=>h _ ?_
    obtain ⟨q,es,ep,hq,h2,h3,h4,_,h5⟩:=dd'
    refine d_write I (by rw [e]; exact True.intro) hs ⟨q,hq⟩ ⟨hl,hd,_,(rel.put k eb rv).keeps fun c ys ec=>?_,q,es,ep,hq,h2,h3,h4,h5⟩
    rw [upd_ne (ne_of ec e (fun z=>nomatch z))]
    exact ec
end
section
variable {X:Cx} {pins:List (Addr×Obj)} {σ:St} {H:Hp} {s:Shared} {a:Addr} {kvs:List (Key×V)} {k:Key} {u:Value} {A:Around} {E:Value→Shared→Prop}
end
noncomputable def NoSl (i:Expr):Prop:=∀ ov iv,subscripted i false ov iv=operate [ov,iv] (getItem ov iv)
theorem subD_of {prog:Program} {w:World} {A:Around} {E:Value→Shared→Prop} {s:Shared} {env:Env} {value slice:Expr} {pos:Pos} {T id:String} {Q:Value→Shared→Prop}
    (hl:typeLookup (.type T) "__getitem__"=pure (some (.builtin id))) (hs:NoSl slice)
    (h:wpAny (model prog w) A (eval value env) (fun o s₁=>wpAny (model prog w) A (eval slice env) (fun i s₂=>s₂.TypeIs o T∧wpAny (model prog w) A (getItem o i) Q E s₂) E s₁) E s) :
    wpAny (model prog w) A (eval (.Subscript value slice pos) env) Q E s:=by
  refine Subscript_ (wpAny_mono h (fun o s₁ h₁=>wpAny_mono h₁ (fun i s₂ h₂=>?_) fun _ _ x=>x) fun _ _ x=>x)
  obtain ⟨hT,h₂⟩:=h₂
  unfold subscriptTail
  refine wpAny_bind ?_
  rw [getitemInPython_of_ne hT.not_modules]
  refine wpAny_bind (wpAny_specialOf hT hl ?_)
  have fin:wpAny (model prog w) A (subscripted slice false o i) (fun r s₃=>wpAny (model prog w) A (letTemporaryGo value o r >>= fun _=>pure r) Q E s₃) E s₂:=by
    rw [hs o i]
    exact wpAny_operating (wpAny_mono h₂ (fun r s₃ h₃=>wpAny_bind (wpAny_letTemporaryGo (wpAny_pure h₃))) fun _ _ x=>x)
  first
    | exact wpAny_pure (wpAny_bind fin)
    | exact wpAny_bind (wpAny_pure (wpAny_bind fin))
    | exact wpAny_bind fin

theorem dict_typeIs {X:Cx} {pins:List (Addr×Obj)} {σ:St} {H:Hp} {s:Shared} {a:Addr} {y:V} {o:Option V} (I:Inv X pins σ H s) (g:DGet H a y o):s.TypeIs (.ref a) "dict":=by
  rcases g with ⟨kvs,k,e,_,_⟩ | ⟨kvs,k,b,e,_,_,_⟩
  · obtain ⟨_,_,vs,_,dd⟩:=dk_rd I.hok e
    exact dd.typeIs
  · obtain ⟨_,_,xs,_,dd⟩:=dt_rd I.hok e
    exact dd.typeIs
noncomputable def tDGet (td ty:TE):TE:=fun σ H Q=>td σ H fun x H1=>ty σ H1 fun y H2=>∃ a v,x=.ref a∧DGet H2 a y (some v)∧Q v H2
noncomputable def sDPut (td ty tv:TE):TS:=fun D σ H=>tv σ H fun v H1=>td σ H1 fun x H2=>ty σ H2 fun y H3=>∃ a H4,x=.ref a∧DPut H3 a y v H4∧D.nx σ H4
section
variable {X:Cx} {o i e value:Expr} {pos pos' tpos:Pos} {td ty tv:TE}
theorem pe_dget (hu:X.A.units+1 < cLine) (ho:PE X o td) (hi:PE X i ty) (hs:NoSl i):PE X (.Subscript o i pos) (tDGet td ty):=by
  intro pins s σ H Q I h
  refine subD_of PySem.F.slot_dict_getitem.lookup hs (thn (ho pins s σ H _ I h) fun u s1 ⟨x,H1,I1,rx,q1⟩=>thn (hi pins s1 σ H1 _ I1 q1) fun iv s2 hz0=>?_)
  obtain ⟨y,H2,I2,ry,a,v,ex,g,q2⟩:=hz0
  subst ex
  obtain rfl:u=Value.ref a:=rx
  exact ⟨dict_typeIs I2 g,d_getItem hu I2 g ry fun w' s3 I3 rw'=>⟨v,H2,I3,rw',q2⟩⟩
theorem ps_dput (hu:X.A.units+1 < cLine) (ho:PE X o td) (hi:PE X i ty) (hv:PE X value tv) (hs:swapsWith value (some (.Subscript o i pos')) pos.line X.env=pure false) :
    PS X (.Assign [.Subscript o i pos'] value pos) (sDPut td ty tv):=by
  intro pins s σ H D I h
  refine wpAny_Assign_Subscript (thn (hv pins s σ H _ I h) fun r s1 ⟨v,H1,I1,rv,q1⟩=>thn (ho pins s1 σ H1 _ I1 q1) fun u s2 ⟨x,H2,I2,rx,q2⟩=>thn (hi pins s2 σ H2 _ I2 q2) fun iv s3 hz0=>?_) hs
  obtain ⟨y,H3,I3,ry,a,H4,ex,g,q3⟩:=hz0
  subst ex
  obtain rfl:u=Value.ref a:=rx
  exact d_setItem hu I3 g ry rv fun s4 I4=>⟨σ,H4,I4,q3⟩
end
theorem dk_empty {P:Program} {w:World} {H:Hp} (h:Heap) (hb:sysModules < h.objs.size):ObjOk P w H (h.push { cls:=.type "dict",data:=.dict #[] }) h.objs.size (.dK []) :=
  ⟨Nat.zero_le _,beq_eq_false_iff_ne.mpr (Ne.symm (Nat.ne_of_lt hb)),[],.nil,Heap.DictOf.new h⟩
section
variable {X:Cx} {pos:Pos}
end
noncomputable def tPairs:List (TE×TE)→St→Hp→(List (V×V)→Hp→Prop)→Prop
  | [],_,H,Q=>Q [] H
  | (tk,tv)::r,σ,H,Q=>tk σ H fun x H1=>tv σ H1 fun y H2=>tPairs r σ H2 fun ps H3=>Q ((x,y)::ps) H3
noncomputable abbrev VV:List (V×V)→List (Value×Value)→Prop:=Paired fun p q=>RelV p.1 q.1∧RelV p.2 q.2
noncomputable def PPs (X:Cx) (pos:Pos) (keys:List (Option Expr)) (values:List Expr) (trs:List (TE×TE)):Prop :=
  ∀ (pins:List (Addr×Obj)) (s:Shared) (σ:St) (H:Hp) (Q:List (V×V)→Hp→Prop),Inv X pins σ H s→tPairs trs σ H Q →
    wpAny (model X.prog X.w) X.A (evalPairs (pairTrees keys values X.env pos)) (fun vs s'=>∃ ps H',Inv X pins σ H' s'∧VV ps vs∧Q ps H') X.xe s
theorem pps_nil {X:Cx} {pos:Pos}:PPs X pos [] [] []:=fun pins s σ H Q I h=>pairTrees_nil_walk ⟨[],H,I,.nil,h⟩
theorem pps_cons {X:Cx} {pos:Pos} {k v:Expr} {ks:List (Option Expr)} {vs:List Expr} {tk tv:TE} {trs:List (TE×TE)} (hk:PE X k tk) (hv:PE X v tv) (hr:PPs X pos ks vs trs) :
    PPs X pos (some k::ks) (v::vs) ((tk,tv)::trs):=fun pins s σ H Q I h =>
  pairTrees_cons_walk (thn (hk pins s σ H _ I h) fun u s1 ⟨x,H1,I1,rx,q1⟩=>thn (hv pins s1 σ H1 _ I1 q1) fun w2 s2 ⟨y,H2,I2,ry,q2⟩ =>
    thn (hr pins s2 σ H2 _ I2 q2) fun ws s3 ⟨ps,H3,I3,rel,q3⟩=>⟨(x,y)::ps,H3,I3,.cons ⟨rx,ry⟩ rel,q3⟩)

noncomputable def mergeK (kvs more:List (Key×V)):List (Key×V):=more.foldl (fun acc kv=>putK acc kv.1 kv.2) kvs
theorem KV.merge:∀ {more:List (Key×V)} {rs:List (Key×Value)} {kvs:List (Key×V)} {vs:List (Key×Value)},KV more rs→KV kvs vs→KV (mergeK kvs more) (merged vs rs):=by
  intro more rs kvs vs r
  unfold KV at r
  induction r generalizing kvs vs with
  | nil=>intro q; exact q
  | @cons p q ps qs h t ih =>
    intro r0
    have e:KV (putK kvs p.1 p.2) (stored vs q.1 q.2):=by
      have:=r0.put p.1 h.2
      rw [← h.1]; exact this
    exact ih e
theorem length_mergeK:∀ (more kvs:List (Key×V)),(mergeK kvs more).length≤kvs.length+more.length
  | [],kvs=>by show kvs.length≤kvs.length+0; omega
  | p::r,kvs=>by
    have h1:=length_mergeK r (putK kvs p.1 p.2)
    have h2:=length_putK kvs p.1 p.2
    show (mergeK (putK kvs p.1 p.2) r).length≤_
    rw [List.length_cons]; omega
theorem carries_of {P:Program} {w:World}:∀ {kvs:List (Key×V)} {ws:List (Value×Value)},VV (kvs.map fun kv=>(kV kv.1,kv.2)) ws→∃ rs,Carries (mixKind P w) ws rs∧KV kvs rs
  | [],_,r=>by rw [List.map_nil] at r; cases r; exact ⟨[],True.intro,.nil⟩
  | p::kvs,_,r=>by
    rw [List.map_cons] at r
    cases r with
    | @cons a b as bs h t =>
      obtain ⟨rs,c,q⟩:=carries_of (P:=P) (w:=w) t
      obtain ⟨b1,b2⟩:=b
      exact ⟨(p.1,b2)::rs,⟨kV_is h.1,rfl,c⟩,.cons ⟨rfl,h.2⟩ q⟩
noncomputable def tDisp (trs:List (TE×TE)):TE:=fun σ H Q=>∀ p,H p=none→tPairs trs σ (upd H p (.dK [])) fun ps H2=>H2 p=some (.dK [])∧∃ kvs:List (Key×V),ps=kvs.map (fun kv=>(kV kv.1,kv.2))∧kvs.length≤15∧Q (.ref p) (upd H2 p (.dK (mergeK [] kvs)))
theorem pe_disp {X:Cx} {pos:Pos} {keys:List (Option Expr)} {values:List Expr} {trs:List (TE×TE)} (h:PPs X pos keys values trs) (hall:keys.all (·.isSome)=true) (hl:keys.length=values.length) (h0:keys≠[])
    (h15:keys.length≤15):PE X (.Dict keys values pos) (tDisp trs):=by
  intro pins s σ H Q I q
  have hn:=I.hok.fresh (Nat.le_refl s.heap.objs.size)
  have I1:=I.laid (a:=s.heap.objs.size) (o:=.dK []) (h':=s.heap.push { cls:=.type "dict",data:=.dict #[] }) (t':=s.toks) (fun _ _ q=>Heap.get?_push_of_some _ q) (Nat.le_refl _) (dk_empty s.heap I.big)
  refine wpAny_Dict_walk (knd:=mixKind X.prog X.w) hall hl h0 h15 (thn (h pins _ σ _ _ I1 (q _ hn)) fun ws s2 hz0=>?_)
  obtain ⟨ps,H2,I2,rel,e,kvs,ep,lk,q2⟩:=hz0
  subst ep
  obtain ⟨rs,c,rk⟩:=carries_of (P:=X.prog) (w:=X.w) rel
  obtain ⟨z,hd,vs0,r0,dd⟩:=dk_of I2.hok e
  cases r0
  refine ⟨rs,c,dd,fun h' dd' hs=>⟨.ref s.heap.objs.size,_,?_,rfl,q2⟩⟩
  have hz:(mergeK [] kvs).length≤sizeLine:=by
    have h1:=length_mergeK kvs []
    rw [List.length_nil] at h1
    rw [sizeLine_eq]; omega
  have he:∃ q,h'.get? s.heap.objs.size=some q:=let ⟨q,_,_,hq,_⟩:=dd'; ⟨q,hq⟩
  exact d_write I2 (by rw [e]; exact True.intro) hs he (dk_new hz hd (rk.merge .nil) dd')

section
variable {X:Cx} {pins:List (Addr×Obj)} {σ:St} {H:Hp} {s:Shared} {a:Addr} {y d:V} {u r:Value} {o:Option V} {A:Around} {E:Value→Shared→Prop}
end
section
variable {X:Cx} {o e f:Expr} {apos cpos:Pos} {td ty tx:TE}
end
section
variable {X:Cx} {pins:List (Addr×Obj)} {σ:St} {H:Hp} {s:Shared} {a:Addr} {kvs:List (Key×V)} {A:Around} {E:Value→Shared→Prop}
end
section
variable {X:Cx} {pins:List (Addr×Obj)} {σ:St} {H:Hp} {s:Shared} {a:Addr} {y:V} {u:Value} {A:Around} {E:Value→Shared→Prop}
end
end L2
namespace Att
open PySem PySem.W PySem.Calls PyProof.Rows
theorem ints_of_wellAll {P:Params} {h:Heap}:∀ (ns:List Int) (vs:List Value),WellAll P h vs (ns.map WData.int)→IntsAre vs ns:=by
  intro ns
  induction ns with
  | nil =>
    intro vs w
    rw [List.map_nil] at w
    cases w
    exact .nil
  | cons n ns ih =>
    intro vs w
    rw [List.map_cons] at w
    cases w with
    | cons a b =>
      cases a
      exact .cons _ _ (ih _ b)

theorem script_of {l:OpenLaw} {n:Nat} (hn:l.most=some n) {P:Params} {h:Heap} {args:List WData} {vals:List Value}
    (hpre:l.row.toRowW.claim.pre args=true) (hwl:WellAll P h vals args) :
    ∃ a vs ns,vals=[Value.ref a]∧args=[WData.list (ns.map WData.int)]∧h.get? a=some { cls:=.type "list",data:=.seq vs.toArray }∧IntsAre vs ns∧ns.length≤n:=by
  have hsh:WShape.hasAll [] args [.list .int]=true:=(pre_splitW hpre).1
  have hc:l.pre.holds [] { args:=args }=true:=(pre_splitW hpre).2
  obtain ⟨d,r,rfl,h1,h2⟩:=hasAllW_cons hsh
  obtain rfl:=hasAllW_nil h2
  obtain ⟨xs,rfl,h3⟩:=hasW_list h1
  obtain ⟨ns,rfl⟩:=items_int h3
  have hlen:ns.length≤n:=by
    unfold OpenLaw.pre at hc
    have h4:(WTm.not (.lt (.lit (.int (n:Int))) (.len (.arg 0)))).holds [] { args:=[.list (ns.map .int)] }=true:=by
      have h4:=(holds_andW hc).1
      rw [hn] at h4
      exact h4
    have h5:=condW_of h4 (w_not (w_lt w_lit (w_len_list (w_arg rfl))))
    rw [List.length_map] at h5
    refine Nat.le_of_not_lt fun q=>?_
    have q':(n:Int) < ((ns.length:Nat):Int):=by omega
    first
      | (rw [decide_eq_true q'] at h5; exact absurd h5 (by decide))
      | (simp at h5; omega)
  cases hwl with
  | cons w1 w2 =>
    cases w2
    cases w1 with
    | list ho hall=>exact ⟨_,_,ns,rfl,rfl,ho,ints_of_wellAll ns _ hall,hlen⟩

theorem post_true (l:OpenLaw) (args:List WData):l.row.toRowW.claim.post args (.bool true) args=true :=
  postW_of (r:=l.row.toRowW) (X:=(true == true))
    (show WShape.has [] (.bool true) .bool=true by first | rfl | decide | simp [WShape.has,WShape.arms,WShape.armsAll])
    (show (WTm.eq .res (.lit (.bool true))).value [] { args:=args,res:=some (.bool true),after:=args }=some (.bool (true == true)) from w_eq_bool (w_res rfl) w_lit) rfl

theorem attach_call {l:OpenLaw} {n:Nat} {q:Program} {loose:List Str} {XP:(Str→Option Value)→Heap→Prop} {YP:World→Heap→Prop} {d:DefRec}
    (hn:l.most=some n) (hdf:d.params.defaults=[])
    (call:∀ (w:World) (s₀ s₁:Shared) (mg mb:Str→Option Value) (fa:Addr) (o:Obj) (pm cd doc:Value) (a:Addr) (vs:List Value) (ns:List Int),
      Ground q loose [] XP w s₀ mg mb s₁.heap→YP w s₁.heap →
      s₁.heap.get? fa=some o→o.data=.func (docDef d.name d.params d.body d.scope pm cd doc)→s₁.heap.CodeRec cd d.name→mg d.name=some (.ref fa) →
      s₁.heap.get? a=some { cls:=.type "list",data:=.seq vs.toArray }→IntsAre vs ns→ns.length≤n→s₁.gens=#[] →
      codeAny (model l.prog w) callerA (.call (.ref fa) ⟨[.ref a],[]⟩) (fun r s'=>r=.ok (.ret (.bool true))∧OldK s₁.heap s'.heap∧s'.os=s₁.os∧AllBare s'.gens) s₁) :
    WalkO q loose XP YP l.row.toRowW d [] (fun f vs=>PySem.call f vs):=by
  intro w s₀ s₁ mg mb G Y fa o pm cd doc dV kV ho hd hcd hD hmg hg args vals as hpre hlay hrd hwl hlo
  obtain rfl:dV=.none:=Dflts.none hD hdf
  obtain rfl:kV=.none:=Dflts.noKw hD
  obtain ⟨a,vs,ns,rfl,rfl,hobj,hints,hlen⟩:=script_of hn hpre hwl
  refine enter_call (codeAny_mono (call w s₀ s₁ mg mb fa o pm cd doc a vs ns G Y ho (fd_plain hd) hcd hmg hobj hints hlen hg) fun r s' hq=>?_)
  obtain ⟨rfl,h2,h3,h4⟩:=hq
  exact ⟨.inl ⟨.bool true,.bool true,[],rfl,fun _=>rfl,.bool true,post_true l _,fun _=>⟨List.Pairwise.nil,fun _ hm=>(nomatch hm)⟩⟩,h2,h3,h4⟩

section
variable {prog:Program} {w:World} {A:Around} {E:Value→Shared→Prop} {s:Shared} {K:Frag}
end
end Att
namespace L2
open PySem PySem.Spec PyProof.Rows
theorem vals_ints {vs:List Value} {ns:List Int} (h:IntsAre vs ns):Vals (ns.map V.int) vs:=by
  induction h with
  | nil=>exact .nil
  | cons n t h ih=>exact .cons ⟨t,rfl⟩ ih

noncomputable def Only (H:Hp):Prop:=∀ b,H b=none∨∃ o xs,H b=some (.frz o (.lst xs))

theorem law_call {P:Program} {w:World} {K:PySem.W.Frag} {mg mb:Str→Option Value} {CX:CXT} {k:Nat} {fa a:Addr} {fd:FuncData} {x:Str} {sp:Sp} {s₁:Shared} {vs:List Value} {ns:List Int}
    (KX:K.In s₁.heap) (hns:s₁.heap.Ns mainGlobals mg) (hb:s₁.heap.Ns builtinsNs mb) (hbb:∀ x:Str,x≠"__name__"→mb x=bootBuiltins x) (hlim:s₁.heap.NoLimit) (hdig:s₁.heap.NoDigits) (hg:s₁.gens=#[])
    (ha:s₁.heap.get? a=some { cls:=.type "list",data:=.seq vs.toArray }) (hi:IntsAre vs ns) (hl:ns.length≤sizeLine) (hr:Room k callerA)
    (F:∀ base:Heap,K.In base→base.Ns mainGlobals mg→FnOk P w K mg base CX k fa fd [x] sp) (hbind:∀ (s:Shared) (u:Value),BindsTo s fd ⟨[u],[]⟩ [(x,u)])
    (hsp:∀ H:Hp,Only H→SqL K H a (ns.map V.int)→sp [.ref a] H (fun v _=>v=.bl true) fun _ _ _=>False)
    (hCX:∀ H e s',CX [] H s₁ (fun _ _ _=>False) e s'→False) :
    codeAny (model P w) callerA (.call (.ref fa) ⟨[.ref a],[]⟩) (fun r s'=>r=.ok (.ret (.bool true))∧OldK s₁.heap s'.heap∧s'.os=s₁.os∧AllBare s'.gens) s₁:=by
  have rv:=vals_ints hi
  have lenV:=hi.length
  -- from an abstract heap in which nothing but the script may be tracked
  have core:∀ H:Hp,Only H→SqL K H a (ns.map V.int)→HOk P w H s₁.heap→(∀ b,H b≠none→b=a)→(H a≠none→K.lookup a=none) →
      codeAny (model P w) callerA (.call (.ref fa) ⟨[.ref a],[]⟩) (fun r s'=>r=.ok (.ret (.bool true))∧OldK s₁.heap s'.heap∧s'.os=s₁.os∧AllBare s'.gens) s₁:=by
    intro H hO hS hok hA hK
    have base_of:∀ {b:Addr} {o:Obj},s₁.heap.get? b=some o→H b=none→(hidT s₁.heap H).get? b=some o:=fun e n=>hidT_get e n
    have noA:∀ {b:Addr} {o:Obj} {es:Array DictEntry} {ep:Nat},s₁.heap.get? b=some o→o.data=.dict es ep→H b=none:=fun {b o es ep} e d=>by
      cases q:H b with
      | none=>rfl
      | some u =>
        have e':b=a:=hA b (by rw [q]; simp)
        subst e'
        rw [ha] at e; cases e
        have d':Data.seq vs.toArray _=Data.dict es ep:=d
        cases d'
    have nsK:∀ {b:Addr} {m:Str→Option Value},s₁.heap.Ns b m→(hidT s₁.heap H).Ns b m:=fun {b m} hz0=>by
      obtain ⟨o,es,ep,e,d,r⟩:=hz0
      exact ⟨o,es,ep,base_of e (noA e d),d,r⟩
    have hKb:K.In (hidT s₁.heap H):=fun b o e=>base_of (KX b o e) (by
      cases q:H b with
      | none=>rfl
      | some u =>
        have e':b=a:=hA b (by rw [q]; simp)
        subst e'
        rw [hK (by rw [q]; simp)] at e; cases e)
    have hM:Mod K mg (hidT s₁.heap H):=⟨hKb,nsK hns,⟨mb,nsK hb,hbb⟩,let ⟨mc,h1,h2⟩:=hlim; ⟨mc,nsK h1,h2⟩,let ⟨mc,h1,h2⟩:=hdig; ⟨mc,nsK h1,h2⟩⟩
    have e0:Env0 P w K mg (hidT s₁.heap H) callerA [] s₁ H:=⟨rfl,hM,fun b o e=>of_hidT e,Nat.le_of_eq (hidT_size _ _),trivial,fun b hb=>absurd (show b∈([]:List Addr) from hb) (by simp),hok,.of_eq hg⟩
    refine codeAny_mono ((F _ hKb (nsK hns)).run callerA [] s₁ H ⟨[.ref a],[]⟩ [.ref a] [.ref a] _ _ hr e0 (hbind s₁ (.ref a)) (.cons rfl .nil) (hsp H hO hS)) fun r s' h=>?_
    cases r with
    | error e=>exact (hCX H e s' h).elim
    | ok fl =>
      cases fl with
      | next=>exact False.elim h
      | brk=>exact False.elim h
      | cont=>exact False.elim h
      | ret u =>
        obtain ⟨v,H',os,bare,un,hok',r',q⟩:=h
        have q':v=.bl true:=q
        subst q'
        obtain rfl:u=Value.bool true:=r'
        refine ⟨rfl,OldK.of_keep fun b o e=>?_,os,bare⟩
        cases q:H b with
        | none=>exact un.keep b o e q (by intro z; exact absurd (show b∈([]:List Addr) from z) (by simp)) (by simp)
        | some u =>
          rcases hO b with z | ⟨ob,xs,z⟩
          · rw [q] at z; cases z
          · have z2:=un.frzs b ob _ z
            obtain ⟨e1,_⟩:=hok b _ z
            obtain ⟨e2,_⟩:=hok' b _ z2
            rw [e] at e1; cases e1
            exact e2
  cases hk:K.lookup a with
  | some o =>
    -- the script is one of the module's own objects
    have e:=KX a o hk
    rw [ha] at e
    cases e
    refine core (fun _=>none) (fun _=>.inl rfl) (.inr ⟨_,vs.toArray,_,hk,rfl,rfl,rfl,by rw [List.size_toArray,lenV]; exact hl,by simpa using rv⟩) (fun b u z=>by have z':(none:Option HO)=some u:=z; cases z') (fun b z=>absurd rfl z) fun z=>absurd rfl z
  | none =>
    refine core (fun b=>if b=a then some (.frz { cls:=.type "list",data:=.seq vs.toArray } (.lst (ns.map V.int))) else none) (fun b=>?_) (.inl (.inr ⟨{ cls:=.type "list",data:=.seq vs.toArray },if_pos rfl⟩)) (fun b u z=>?_) (fun b z=>?_) fun _=>hk
    · by_cases hb:b=a
      · exact .inr ⟨_,_,if_pos hb⟩
      · exact .inl (if_neg hb)
    · by_cases hb:b=a
      · have z':=(if_pos hb).symm.trans z
        cases z'
        subst hb
        exact ⟨ha,by rw [List.length_map]; exact hl,vs,_,rv,ha⟩
      · have z':=(if_neg hb).symm.trans z
        cases z'
    · by_cases hb:b=a
      · exact hb
      · exact absurd (if_neg hb) z
end L2
namespace L2
open PySem PySem.Spec PyProof.Rows
noncomputable abbrev KOf {K:PySem.W.Frag} {h:Heap} (_:K.In h):PySem.W.Frag:=K

theorem walk_of {l:PySem.W.OpenLaw} {n k:Nat} {q:Program} {loose:List Str} {XP:(Str→Option Value)→Heap→Prop} {YP:World→Heap→Prop} {d:DefRec} {K:Params→PySem.W.Frag} {CX:World→CXT} {sp:World→Sp} {x:Str}
    (hn:l.most=some n) (hn2:n≤sizeLine) (hdf:d.params.defaults=[]) (hr:Room k callerA)
    (hY:∀ (w:World) (h:Heap),YP w h→(K w.params).In h)
    (F:∀ (w:World) (mg:Str→Option Value) (fa:Addr) (h:Heap),(K w.params).In h→h.Ns mainGlobals mg→mg d.name=some (.ref fa) →
      ∃ fd:FuncData,(∀ (s:Shared) (u:Value),BindsTo s fd ⟨[u],[]⟩ [(x,u)]) ∧
        ∀ base:Heap,(K w.params).In base→base.Ns mainGlobals mg→FnOk l.prog w (K w.params) mg base (CX w) k fa fd [x] (sp w))
    (hsp:∀ (w:World) (H:Hp) (a:Addr) (ns:List Int),ns.length≤n→Only H→SqL (K w.params) H a (ns.map V.int)→sp w [.ref a] H (fun v _=>v=.bl true) fun _ _ _=>False)
    (hCX:∀ (w:World) (H:Hp) (s:Shared) (e:Value) (s':Shared),CX w [] H s (fun _ _ _=>False) e s'→False) :
    PySem.W.WalkO q loose XP YP l.row.toRowW d [] (fun f vs=>PySem.call f vs):=by
  refine Att.attach_call hn hdf fun w s₀ s₁ mg mb fa o pm cd doc a vs ns G Y ho hd hcd hmg hobj hints hlen hg=>?_
  have KX:=hY w _ Y
  obtain ⟨fd,hb,hF⟩:=F w mg fa _ KX G.T.g hmg
  exact law_call KX G.T.g G.T.b G.T.builtins G.T.nolimit G.T.nodigits hg hobj hints (Nat.le_trans hlen hn2) hr hF hb (fun H hO hS=>hsp w H a ns hlen hO hS) fun H e s'=>hCX w H s₁ e s'
theorem walk_ofK {l:PySem.W.OpenLaw} {n k:Nat} {q:Program} {loose:List Str} {XP:(Str→Option Value)→Heap→Prop} {YP:World→Heap→Prop} {d:DefRec} {K:Params→PySem.W.Frag} {CX:CXT} {sp:PySem.W.Frag→Sp} {x:Str}
    (hn:l.most=some n) (hn2:n≤sizeLine) (hdf:d.params.defaults=[]) (hr:Room k callerA)
    (hY:∀ (w:World) (h:Heap),YP w h→(K w.params).In h)
    (F:∀ (w:World) (mg:Str→Option Value) (fa:Addr) (h:Heap),(K w.params).In h→h.Ns mainGlobals mg→mg d.name=some (.ref fa) →
      ∃ fd:FuncData,(∀ (s:Shared) (u:Value),BindsTo s fd ⟨[u],[]⟩ [(x,u)]) ∧
        ∀ base:Heap,(K w.params).In base→base.Ns mainGlobals mg→FnOk l.prog w (K w.params) mg base CX k fa fd [x] (sp (K w.params)))
    (hsp:∀ (K:PySem.W.Frag) (H:Hp) (a:Addr) (ns:List Int),ns.length≤n→Only H→SqL K H a (ns.map V.int)→sp K [.ref a] H (fun v _=>v=.bl true) fun _ _ _=>False)
    (hCX:∀ (H:Hp) (s:Shared) (e:Value) (s':Shared),CX [] H s (fun _ _ _=>False) e s'→False) :
    PySem.W.WalkO q loose XP YP l.row.toRowW d [] (fun f vs=>PySem.call f vs) :=
  walk_of (K:=K) (CX:=fun _=>CX) (sp:=fun w=>sp (K w.params)) hn hn2 hdf hr hY F (fun w H a ns h1 h2 h3=>hsp (K w.params) H a ns h1 h2 h3) fun _ H s e s'=>hCX H s e s'
end L2
namespace L2
open PySem PySem.Spec PyProof.Rows
noncomputable def defArgs (s:Stmt):Arguments:=match s with
  | .FunctionDef _ a _ _ _ _ _ _ _ _=>a
  | _=>{ posonlyargs:=[],args:=[],vararg:=none,kwonlyargs:=[],kw_defaults:=[],kwarg:=none,defaults:=[] }
noncomputable def defBody (s:Stmt):List Stmt:=match s with
  | .FunctionDef _ _ b _ _ _ _ _ _ _=>b
  | _=>[]
noncomputable def defScope (s:Stmt):Scope:=match s with
  | .FunctionDef _ _ _ _ _ _ sc _ _ _=>sc
  | _=>{ kind:=.function,names:=[],isGenerator:=false,isCoroutine:=false }

noncomputable abbrev CX0:CXT:=fun _ _ _ _ _ _=>False
noncomputable abbrev E0:XK:=fun _ _ _=>False
theorem pass0 {X:Cx}:Passes CX0 X E0:=fun _ _ _ _ _ _ _ h=>h.elim

structure Fun (K:PySem.W.Frag) (x qual:Str) (st:Stmt) (f:Addr) (fd:FuncData):Prop where
  ex:∃ (oc:Value) (od:Option Addr) (kV doc pm:Value) (an:Option Addr) (cdv ct:Value) (osl:Array (Option Value)),
    fd=PySem.W.fnOf x qual (defArgs st) (defBody st) (defScope st) .none kV doc pm an cdv ct∧K.lookup f=some ⟨oc,od,.func fd,osl⟩∧PySem.W.codeIn K cdv qual=true
  kp:PySem.W.keepIn K (.ref f)=true
section
variable {P:Program} {w:World} {K:PySem.W.Frag} {mg:Str→Option Value} {base:Heap}
theorem Fun.ok {x qual:Str} {st:Stmt} {f:Addr} {fd:FuncData} {N ps:List Str} {k:Nat} {sp:Sp} (F:Fun K x qual st f fd) (S:FnScope N ps (defScope st)) (len:∀ vs H Q E,sp vs H Q E→vs.length=ps.length)
    (hbody:∀ (cdv:Value) (A:Around) (outer:List Env) (s:Shared) (H:Hp) (vs:List V) (Q:VK) (E:XK),Room k (A.deeper (envOfC qual (defScope st) s.heap.objs.size f cdv))→sp vs H Q E →
      ∃ t,PSs (cxOf CX0 P w K mg base N qual (defScope st) f cdv A outer s H E).nox (defBody st) t∧t { nx:=fun _ H'=>Q .non H',rt:=Q } (start N vs) H):FnOk P w K mg base CX0 (k+1) f fd ps sp:=by
  obtain ⟨oc,od,kV,doc,pm,an,cdv,ct,osl,rfl,lk,hcd⟩:=F.ex
  refine fn_of lk hcd S len fun A outer s H vs Q E hr hsp=>?_
  obtain ⟨t,h,q⟩:=hbody cdv A outer s H vs Q E hr hsp
  exact ⟨t,h.nox,q⟩
theorem Fun.binds {x qual:Str} {st:Stmt} {f:Addr} {fd:FuncData} {ps:List Str} (F:Fun K x qual st f fd)
    (h:∀ (kV doc pm:Value) (an:Option Addr) (cdv ct:Value) (us:List Value),us.length=ps.length→bindArgs (PySem.W.fnOf x qual (defArgs st) (defBody st) (defScope st) .none kV doc pm an cdv ct) ⟨us,[]⟩=pure (ps.zip us)):Binds K fd ps []:=by
  obtain ⟨oc,od,kV,doc,pm,an,cdv,ct,osl,rfl,lk,hcd⟩:=F.ex
  exact .all (h kV doc pm an cdv ct)
theorem fun_mk {x qual:Str} {st:Stmt} {f:Addr} {oc:Value} {od an:Option Addr} {osl:Array (Option Value)} {kV doc pm cdv ct:Value} (l:K.lookup f=some ⟨oc,od,.func (PySem.W.fnOf x qual (defArgs st) (defBody st) (defScope st) .none kV doc pm an cdv ct),osl⟩)
    (c:PySem.W.codeIn K cdv qual=true) (k:PySem.W.keepIn K (.ref f)=true):Fun K x qual st f (PySem.W.fnOf x qual (defArgs st) (defBody st) (defScope st) .none kV doc pm an cdv ct):=⟨⟨oc,od,kV,doc,pm,an,cdv,ct,osl,rfl,l,c⟩,k⟩
end
theorem hu_of {A:Around} {k:Nat} (hr:Room k A):A.units+1 < cLine:=Nat.lt_of_le_of_lt (Nat.add_le_add_left (by decide:1≤64) _) hr.units
section
variable {X:Cx}
theorem pv (i:Nat) {x:Str} {pos:Pos} (hN:X.N[i]?=some x:=by rfl) (hv:Vis X.env.scope x:=by first | exact Or.inl rfl | exact Or.inr (Or.inl rfl) | exact Or.inr (Or.inr rfl)) (hd:(x == ("__debug__":Str))=false:=by decide)
    (hcd:(x == ("__classdict__":Str))=false:=by decide):PE X (.Name x pos) (tVar i):=pe_var hN hv hd hcd
end
theorem ite2 {c A B:Prop} [Decidable c] (h1:c→A) (h2:¬ c→B):if c then A else B:=by
  by_cases h:c
  · rw [if_pos h]
    exact h1 h
  · rw [if_neg h]
    exact h2 h
noncomputable def Same (H H':Hp):Prop:=∀ b o,H b=some o→H' b=some o
theorem Same.seq {K:PySem.W.Frag} {H H':Hp} {a:Addr} {xs:List V} (e:Same H H') (h:SqL K H a xs):SqL K H' a xs:=by
  rcases h with (h | ⟨o,h⟩) | h
  · exact .inl (.inl (e _ _ h))
  · exact .inl (.inr ⟨o,e _ _ h⟩)
  · exact .inr h

end L2
set_option Elab.async false
set_option linter.all false
set_option maxRecDepth 100000
namespace L2
open PySem PySem.Spec PyProof.Rows
structure Blk where
  cl:List (Str×Addr)
  C:Addr
  s:Shared
  H:Hp
  fp:List Addr
  pn:List (Addr×Obj)

noncomputable def cxC (X:Cx) (N:List Str) (scope:Scope) (b:Blk):Cx where
  prog:=X.prog
  w:=X.w
  K:=X.K
  mg:=X.mg
  base:=X.base
  A:=X.A
  N:=N
  s₀:=b.s
  H₀:=b.H
  env:=compEnvC scope b.cl b.C X.env
  outer:=X.stack
  stack:=X.stack
  ex:=b.fp
  fn:=fun x=>scope.names.lookup x == some .cell
  calm:=X.calm
  pn:=b.pn
  xe:=fun _ _=>False

noncomputable def bN (Nx ts:List Str) (ix:List Nat):List Str:=ts++ix.map fun j=>(Nx[j]?).getD Str.empty
noncomputable def bSt (n:Nat) (ix:List Nat) (σ:St):St:=List.replicate n none++ix.map fun j=>(σ[j]?).getD none

structure BlkOk (Nx:List Str) (sc scope:Scope) (ix:List Nat):Prop where
  kind:scope.kind=.function
  cells:∀ y∈scope.names,y.2=.cell→scope.names.lookup y.1=some .cell
  locs:∀ y∈scope.names,y.2=.local→scope.names.lookup y.1=some .local
  frees:∀ y∈scope.names,y.2=.free→sc.names.lookup y.1=some .cell∨sc.names.lookup y.1=some .free
  caps:∀ j∈ix,j < Nx.length∧scope.names.lookup ((Nx[j]?).getD Str.empty)=some .free

theorem forIn_frees {env:Env} {f:Str×NameKind→List (Str×Addr)→Sem (ForInStep (List (Str×Addr)))}
    (h1:∀ n k r,k≠NameKind.free→f (n,k) r=pure (.yield r)) (h2:∀ n r c,env.cells.lookup n=some c→f (n,NameKind.free) r=pure (.yield ((n,c)::r))) :
    ∀ (names:List (Str×NameKind)) (acc:List (Str×Addr)),(∀ y∈names,y.2=.free→∃ c,env.cells.lookup y.1=some c)→(∀ x c,acc.lookup x=some c→env.cells.lookup x=some c) →
      ∃ cl,forIn names acc f=pure cl∧(∀ x c,cl.lookup x=some c→env.cells.lookup x=some c)∧(∀ y∈names,y.2=.free→∃ c,cl.lookup y.1=some c)∧∀ x c,acc.lookup x=some c→∃ c',cl.lookup x=some c'
  | [],acc,_,ha=>⟨acc,rfl,ha,(fun _ h=>nomatch h),fun x c h=>⟨c,h⟩⟩
  | (n,k)::names,acc,hn,ha=>by
    have hn':∀ y∈names,y.2=.free→∃ c,env.cells.lookup y.1=some c:=fun y hy=>hn y (List.mem_cons_of_mem _ hy)
    by_cases hk:k=.free
    · subst hk
      obtain ⟨c,hc⟩:=hn (n,.free) List.mem_cons_self rfl
      have ha':∀ x d,((n,c)::acc).lookup x=some d→env.cells.lookup x=some d:=fun x d e=>by
        rw [List.lookup_cons] at e
        cases hx:x == n with
        | true =>
          rw [hx] at e
          have hxn:x=n:=by simpa using hx
          subst hxn
          cases e
          exact hc
        | false =>
          rw [hx] at e
          exact ha x d e
      obtain ⟨cl,e,p1,p2,p3⟩:=forIn_frees h1 h2 names ((n,c)::acc) hn' ha'
      refine ⟨cl,?_,p1,fun y hy hf=>?_,fun x d hx=>?_⟩
      · rw [List.forIn_cons,h2 n acc c hc,pure_bind]
        exact e
      · rcases List.mem_cons.mp hy with rfl | hy
        · exact p3 n c (by simp)
        · exact p2 y hy hf
      · by_cases e1:x=n
        · subst e1
          exact p3 x c (by simp)
        · exact p3 x d (by rw [List.lookup_cons,beq_false_of_ne e1]; exact hx)
    · obtain ⟨cl,e,p1,p2,p3⟩:=forIn_frees h1 h2 names acc hn' ha
      refine ⟨cl,?_,p1,fun y hy hf=>?_,p3⟩
      · rw [List.forIn_cons,h1 n k acc hk,pure_bind]
        exact e
      · rcases List.mem_cons.mp hy with rfl | hy
        · exact absurd hf hk
        · exact p2 y hy hf

theorem closure_of {scope:Scope} {env:Env} (hn:∀ y∈scope.names,y.2=.free→∃ c,env.cells.lookup y.1=some c) :
    ∃ cl,closureFor scope env=pure cl∧(∀ x c,cl.lookup x=some c→env.cells.lookup x=some c)∧∀ y∈scope.names,y.2=.free→∃ c,cl.lookup y.1=some c:=by
  unfold closureFor
  have key:=forIn_frees (env:=env) (f:=fun (x:Str×NameKind) (r:List (Str×Addr))=>match x with
    | (name,kind)=>if (kind == NameKind.free)=true then (do let a ← cellOf env name; pure (ForInStep.yield ((name,a)::r))) else pure (ForInStep.yield r))
    (fun n k r hk=>by
      have hb:(k == NameKind.free)=false:=by simpa using hk
      show (if (k == NameKind.free)=true then _ else _)=_
      rw [hb]
      rfl)
    (fun n r c hc=>by
      show (do let a ← cellOf env n; pure (ForInStep.yield ((n,a)::r)))=_
      unfold cellOf
      rw [hc]
      rfl) scope.names [] hn (fun x c h=>by simp at h)
  obtain ⟨cl,e,p1,p2,_⟩:=key
  refine ⟨cl,?_,p1,p2⟩
  show (forIn scope.names [] _ >>= fun r=>pure r)=pure cl
  exact (congrArg (fun t=>t >>= fun r=>pure r) e).trans (pure_bind _ _)

section
variable {X:Cx} {pins:List (Addr×Obj)} {σ:St} {H:Hp} {s:Shared}
theorem relabel_free {scope:Scope} {env:Env} {x:Str} (h:scope.names.lookup x=some .free):(relabel scope env).names.lookup x=some .cell∨(relabel scope env).names.lookup x=some .free:=by
  unfold relabel
  show List.lookup x (scope.names.map _)=_∨List.lookup x (scope.names.map _)=_
  generalize scope.names=l at h
  induction l with
  | nil=>simp at h
  | cons p r ih =>
    obtain ⟨n,k⟩:=p
    rw [List.map_cons]
    cases hx:x == n with
    | true =>
      rw [List.lookup_cons,hx] at h
      have hk:k=.free:=by simpa using h
      subst hk
      by_cases hc:(NameKind.free == NameKind.free && env.scope.kind == .function && env.kindOf n == some .cell)=true
      · refine .inl ?_
        show List.lookup x ((if (NameKind.free == NameKind.free && env.scope.kind == .function && env.kindOf n == some .cell)=true then (n,NameKind.cell) else (n,NameKind.free))::_)=_
        rw [if_pos hc,List.lookup_cons,hx]
      · refine .inr ?_
        show List.lookup x ((if (NameKind.free == NameKind.free && env.scope.kind == .function && env.kindOf n == some .cell)=true then (n,NameKind.cell) else (n,NameKind.free))::_)=_
        rw [if_neg hc,List.lookup_cons,hx]
    | false =>
      rw [List.lookup_cons,hx] at h
      have key:∀ q:Str×NameKind,(q=(n,NameKind.cell)∨q=(n,k))→∀ l',List.lookup x (q::l')=List.lookup x l':=fun q hq l'=>by
        rcases hq with rfl | rfl <;> rw [List.lookup_cons,hx]
      have hq:(if (k == NameKind.free && env.scope.kind == .function && env.kindOf n == some .cell)=true then (n,NameKind.cell) else (n,k))=(n,NameKind.cell)∨(if (k == NameKind.free && env.scope.kind == .function && env.kindOf n == some .cell)=true then (n,NameKind.cell) else (n,k))=(n,k):=by
        split
        · exact .inl rfl
        · exact .inr rfl
      rcases ih h with z | z
      · exact .inl ((key _ hq _).trans z)
      · exact .inr ((key _ hq _).trans z)

theorem relabel_cell {scope:Scope} {env:Env} {x:Str} (h:(relabel scope env).names.lookup x=some .cell∨(relabel scope env).names.lookup x=some .free):∃ y∈scope.names,y.1=x∧(y.2=.free∨y.2=.cell):=by
  unfold relabel at h
  have h':List.lookup x (scope.names.map fun (n,k)=>if (k == .free && env.scope.kind == .function && env.kindOf n == some .cell) then (n,NameKind.cell) else (n,k))=some .cell∨List.lookup x (scope.names.map fun (n,k)=>if (k == .free && env.scope.kind == .function && env.kindOf n == some .cell) then (n,NameKind.cell) else (n,k))=some .free:=h
  clear h
  generalize scope.names=l at h'
  induction l with
  | nil=>simp at h'
  | cons p r ih =>
    obtain ⟨n,k⟩:=p
    rw [List.map_cons] at h'
    cases hx:x == n with
    | true =>
      have hxn:x=n:=by simpa using hx
      by_cases hk:k=.free
      · exact ⟨(n,k),List.mem_cons_self,hxn.symm,.inl hk⟩
      ·
        have hb:(k == NameKind.free)=false:=by simpa using hk
        have e:(if (k == NameKind.free && env.scope.kind == .function && env.kindOf n == some .cell)=true then (n,NameKind.cell) else (n,k))=(n,k):=by
          rw [hb]
          rfl
        have h2:List.lookup x ((n,k)::r.map fun (n,k)=>if (k == .free && env.scope.kind == .function && env.kindOf n == some .cell) then (n,NameKind.cell) else (n,k))=some .cell∨List.lookup x ((n,k)::r.map fun (n,k)=>if (k == .free && env.scope.kind == .function && env.kindOf n == some .cell) then (n,NameKind.cell) else (n,k))=some .free:=by
          rw [← e]
          exact h'
        rw [List.lookup_cons,hx] at h2
        rcases h2 with z | z
        · exact ⟨(n,k),List.mem_cons_self,hxn.symm,.inr (Option.some.inj z)⟩
        · exact absurd (Option.some.inj z) hk
    | false =>
      have hq:∀ q:Str×NameKind,(q=(n,NameKind.cell)∨q=(n,k))→∀ l',List.lookup x (q::l')=List.lookup x l':=fun q hq l'=>by
        rcases hq with rfl | rfl <;> rw [List.lookup_cons,hx]
      have hqq:(if (k == NameKind.free && env.scope.kind == .function && env.kindOf n == some .cell)=true then (n,NameKind.cell) else (n,k))=(n,NameKind.cell)∨(if (k == NameKind.free && env.scope.kind == .function && env.kindOf n == some .cell)=true then (n,NameKind.cell) else (n,k))=(n,k):=by
        split
        · exact .inl rfl
        · exact .inr rfl
      obtain ⟨y,hy,e⟩:=ih (by
        rcases h' with z | z
        · exact .inl ((hq _ hqq _).symm.trans z)
        · exact .inr ((hq _ hqq _).symm.trans z))
      exact ⟨y,List.mem_cons_of_mem _ hy,e⟩

theorem cells_spec:∀ (names:List (Str×NameKind)) (h:Heap) (acc:List (Str×Addr)),
    (∀ x c,(cellsFrom h.objs.size names acc).lookup x=some c→acc.lookup x=some c∨(h.objs.size≤c∧(pushCells h names).IsCell c none∧(x,NameKind.cell)∈names)) ∧
    (∀ x,((x,NameKind.cell)∈names∨∃ c,acc.lookup x=some c)→∃ c,(cellsFrom h.objs.size names acc).lookup x=some c) ∧
    (∀ x c,(x,NameKind.cell)∈names→(cellsFrom h.objs.size names acc).lookup x=some c→h.objs.size≤c) ∧
    ((∀ x c,acc.lookup x=some c→c < h.objs.size)→(∀ x y c,acc.lookup x=some c→acc.lookup y=some c→x=y)→∀ x y c,(cellsFrom h.objs.size names acc).lookup x=some c→(cellsFrom h.objs.size names acc).lookup y=some c→x=y):=by
  intro names
  induction names with
  | nil=>intro h acc; exact ⟨fun x c e=>.inl e,fun x e=>by rcases e with e | e; cases e; exact e,fun x c e=>(by cases e),fun _ i=>i⟩
  | cons p r ih =>
    obtain ⟨name,kind⟩:=p
    intro h acc
    unfold cellsFrom pushCells
    by_cases hk:kind=.cell
    · subst hk
      have hk':((NameKind.cell == NameKind.cell)=true):=rfl
      rw [if_pos hk',if_pos hk']
      have ih':=ih (h.push { cls:=.type "cell",data:=.cell none }) ((name,h.objs.size)::acc)
      rw [Heap.size_push] at ih'
      obtain ⟨i1,i2,i4,i3⟩:=ih'
      refine ⟨fun x c e=>?_,fun x e=>?_,fun x c e1 e2=>?_,fun hb hi=>i3 (fun x c e=>?_) fun x y c e1 e2=>?_⟩
      · rcases i1 x c e with z | ⟨z1,z2,z3⟩
        · rw [List.lookup_cons] at z
          cases hx:x == name with
          | true =>
            rw [hx] at z
            have hxn:x=name:=by simpa using hx
            cases z
            exact .inr ⟨Nat.le_refl _,⟨_,pushCells_keeps _ _ _ _ (Heap.get?_push_size _ rfl),rfl⟩,by rw [hxn]; exact List.mem_cons_self⟩
          | false=>rw [hx] at z; exact .inl z
        · exact .inr ⟨by omega,z2,List.mem_cons_of_mem _ z3⟩
      · refine i2 x ?_
        by_cases hx:x=name
        · exact .inr ⟨h.objs.size,by rw [List.lookup_cons,hx]; simp⟩
        · rcases e with e | ⟨c,e⟩
          · rcases List.mem_cons.mp e with q | q
            · exact absurd (congrArg Prod.fst q) hx
            · exact .inl q
          · exact .inr ⟨c,by rw [List.lookup_cons,beq_false_of_ne hx]; exact e⟩
      · rcases i1 x c e2 with z | ⟨z,_,_⟩
        · rw [List.lookup_cons] at z
          cases hx:x == name with
          | true=>rw [hx] at z; cases z; exact Nat.le_refl _
          | false =>
            have hxn:x≠name:=by simpa using hx
            rcases List.mem_cons.mp e1 with q | q
            · exact absurd (congrArg Prod.fst q) hxn
            · exact Nat.le_of_succ_le (i4 x c q e2)
        · exact Nat.le_of_succ_le z
      · rw [List.lookup_cons] at e
        cases hx:x == name with
        | true=>rw [hx] at e; cases e; exact Nat.lt_succ_self _
        | false=>rw [hx] at e; exact Nat.lt_succ_of_lt (hb x c e)
      · rw [List.lookup_cons] at e1 e2
        cases hx:x == name with
        | true =>
          have hxn:x=name:=by simpa using hx
          rw [hx] at e1
          cases e1
          cases hy:y == name with
          | true =>
            have hyn:y=name:=by simpa using hy
            rw [hxn,hyn]
          | false=>rw [hy] at e2; exact absurd (hb y _ e2) (Nat.lt_irrefl _)
        | false =>
          rw [hx] at e1
          cases hy:y == name with
          | true=>rw [hy] at e2; cases e2; exact absurd (hb x _ e1) (Nat.lt_irrefl _)
          | false=>rw [hy] at e2; exact hi x y c e1 e2
    · have hk':¬ ((kind == NameKind.cell)=true):=by simpa using hk
      rw [if_neg hk',if_neg hk']
      obtain ⟨i1,i2,i4,i3⟩:=ih h acc
      refine ⟨fun x c e=>?_,fun x e=>i2 x ?_,fun x c e1 e2=>?_,i3⟩
      · rcases i1 x c e with z | ⟨z1,z2,z3⟩
        · exact .inl z
        · exact .inr ⟨z1,z2,List.mem_cons_of_mem _ z3⟩
      · rcases e with e | e
        · rcases List.mem_cons.mp e with q | q
          · exact absurd (congrArg Prod.snd q).symm hk
          · exact .inl q
        · exact .inr e
      · rcases List.mem_cons.mp e1 with q | q
        · exact absurd (congrArg Prod.snd q).symm hk
        · exact i4 x c q e2

theorem wpAny_compEnv {M:Model} {A:Around} {E:Value→Shared→Prop} {s:Shared} {scope:Scope} {globals:Addr} {cl:List (Str×Addr)} {qual:Str} {outer:Env} {Q:Env→Shared→Prop}
    (h:Q { scope:=scope,locals:=s.heap.objs.size,globals:=globals,cells:=cellsFrom (s.heap.objs.size+1) scope.names cl,qual:=qual,func:=none,code:=outer.code,frame:=outer.frame,builtins:=outer.builtins } { s with heap:=pushCells (s.heap.push { cls:=.type "dict",data:=.dict #[] }) scope.names }) :
    wpAny M A (newFunctionEnv scope globals cl [] qual none .none (some outer)) Q E s:=by
  simp only [newFunctionEnv,Option.isSome_some,if_true]
  refine wpAny_bind (wpAny_alloc ?_)
  refine wpAny_bind (wpAny_layCells _ (fun name kind cells=>by cases hkc:kind == NameKind.cell <;> simp [hkc]) _ _ _ _ ?_)
  rw [show ({ s with heap:=s.heap.push { cls:=.type "dict",data:=.dict #[] } }:Shared).heap.objs.size=s.heap.objs.size+1 from Heap.size_push ..]
  rw [List.forIn_nil]
  exact wpAny_bind (wpAny_pure (wpAny_pure h))

theorem bN_get {Nx ts:List Str} {ix:List Nat} {i:Nat} {x:Str} (h:(bN Nx ts ix)[i]?=some x) (hi:ts.length≤i):∃ j,ix[i - ts.length]?=some j∧x=(Nx[j]?).getD Str.empty:=by
  unfold bN at h
  rw [List.getElem?_append_right hi,List.getElem?_map] at h
  cases e:ix[i - ts.length]? with
  | none=>rw [e] at h; cases h
  | some j=>rw [e] at h; exact ⟨j,rfl,(Option.some.inj h).symm⟩

theorem inv_block {scope:Scope} {cl:List (Str×Addr)} {fp:List Addr} {C:Addr} {h3:Heap} {tk:Nat} {m:Str→Option Value} {Nx ts:List Str} {ix:List Nat}
    (I:Inv X pins σ H s) (hNx:X.N=Nx) (ok:BlkOk Nx X.env.scope scope ix) (cs1:∀ x c,cl.lookup x=some c→X.env.cells.lookup x=some c∨(C < c∧h3.IsCell c none∧(x,NameKind.cell)∈scope.names)) (csI:∀ x y c,cl.lookup x=some c→cl.lookup y=some c→x=y) (cl2:∀ y∈scope.names,(y.2=.free∨y.2=.cell)→∃ c,cl.lookup y.1=some c) (csA:∀ x c,(x,NameKind.cell)∈scope.names→cl.lookup x=some c→C≤c)
    (hf:∀ b∈fp,FpOk X pins H b) (hfs:∀ b∈fp,b < s.heap.objs.size) (hC:s.heap.objs.size≤C) (kp:∀ b o,s.heap.get? b=some o→h3.get? b=some o) (hns:h3.Ns C m) :
    Inv (cxC X (bN Nx ts ix) scope ⟨cl,C,s,H,fp,X.pn++pins⟩) [] (bSt ts.length ix σ) H { s with heap:=h3,toks:=tk }:=by
  have below:∀ {b:Addr},b < s.heap.objs.size→b≠C:=fun hb=>Nat.ne_of_lt (Nat.lt_of_lt_of_le hb hC)
  have nstk:∀ b,b≠X.env.locals→b ∉ X.fs→b ∉ frs X.stack:=fun b h1 h2 hb=>by
    rcases List.mem_cons.mp (I.stkSub b hb) with z | z
    · exact h1 z
    · exact h2 z
  refine ⟨⟨I.ok.mod,?_,I.ok.glob,I.ok.blt,hC,csI,fun x hx=>?_,fun x c hfn e=>Nat.le_trans hC (csA x c (PySem.mem_of_lookup (eq_of_beq hfn)) e),I.ok.hd,I.ok.frames,.inl rfl,fun b hb=>⟨below (hfs b hb),fun x c e=>by
    rcases cs1 x c e with z | ⟨z,_,_⟩
    · exact (hf b hb).2.2.2.2.1 x c z
    · exact Nat.ne_of_gt (Nat.lt_of_lt_of_le (hfs b hb) (Nat.le_trans hC (Nat.le_of_lt z)))⟩,I.bs,Nat.le_trans I.ok.bsz I.sz,fun b o e hb=>?_,fun b hb=>nstk b (hf b hb).2.1 (hf b hb).2.2.1,I.stack,I.stkFree⟩,
    rfl,I.bare,Un.kept kp,⟨m,hns,fun i x v h1 h2 h3'=>?_⟩,fun x c e=>?_,I.hok.fresh hC,fun x c e=>by
    rcases cs1 x c e with z | ⟨z,_,_⟩
    · exact I.freeC x c z
    · exact I.hok.fresh (Nat.le_trans hC (Nat.le_of_lt z)),fun p hp=>?_,I.hok.kept kp,?_⟩
  · exact ok.kind
  · have hx':(relabel scope X.env).names.lookup x=some .cell∨(relabel scope X.env).names.lookup x=some .free:=hx
    obtain ⟨y,hy,e1,e2⟩:=relabel_cell hx'
    obtain ⟨c,hc⟩:=cl2 y hy e2
    exact ⟨c,by rw [← e1]; exact hc⟩
  · rcases (hf b hb).2.2.2.1 with z | z
    · exact I.ok.noex b o e z
    · exact absurd (Nat.lt_of_lt_of_le (Heap.lt_size e) (Nat.le_trans I.ok.bsz z)) (Nat.lt_irrefl _)
  · have hi:ts.length≤i:=by
      rcases Nat.lt_or_ge i ts.length with z | z
      · exfalso
        have h2':(bSt ts.length ix σ)[i]?=some (some v):=h2
        unfold bSt at h2'
        rw [List.getElem?_append_left (by simpa using z),List.getElem?_replicate] at h2'
        split at h2' <;> cases h2'
      · exact z
    obtain ⟨j,hj,ex⟩:=bN_get h1 hi
    have h2':(bSt ts.length ix σ)[i]?=some (some v):=h2
    unfold bSt at h2'
    rw [List.getElem?_append_right (by simpa using hi),List.getElem?_map,List.length_replicate,hj] at h2'
    have hσ:σ[j]?=some (some v):=by
      have q:(σ[j]?).getD none=some v:=Option.some.inj h2'
      cases e:σ[j]? with
      | none=>rw [e] at q; cases q
      | some w=>rw [e] at q; exact congrArg some q
    obtain ⟨hjl,hfree⟩:=ok.caps j (List.mem_of_getElem? hj)
    have hNj:X.N[j]?=some x:=by
      rw [hNx,ex,List.getElem?_eq_getElem hjl]
      rfl
    rw [← ex] at hfree
    obtain ⟨c,hc⟩:=cl2 (x,.free) (PySem.mem_of_lookup hfree) (.inl rfl)
    have cl1:X.env.cells.lookup x=some c:=by
      rcases cs1 x c hc with z | ⟨_,_,z⟩
      · exact z
      · have:=ok.cells _ z rfl
        rw [hfree] at this
        cases this
    have kx:=ok.frees (x,.free) (PySem.mem_of_lookup hfree) rfl
    obtain ⟨m0,hn0,hl0⟩:=I.loc
    obtain ⟨u,ru,look⟩:=hl0 j x v hNj hσ (by rcases kx with z | z; exact .inr (.inl z); exact .inr (.inr z))
    refine ⟨u,ru,.inr ⟨relabel_free hfree,c,hc,?_⟩⟩
    rcases look with ⟨k1,_⟩ | ⟨_,c',hc',z⟩
    · have k1':X.env.scope.names.lookup x=some .local:=k1
      rcases kx with z | z
      · rw [k1'] at z; cases z
      · rw [k1'] at z; cases z
    · have e:=cl1
      rw [hc'] at e
      cases e
      obtain ⟨o,ho,hd⟩:=z
      exact ⟨o,kp _ _ ho,hd⟩
  · rcases cs1 x c e with z | ⟨_,z,_⟩
    · obtain ⟨v,o,ho,hd⟩:=I.cell x c z
      exact ⟨v,o,kp _ _ ho,hd⟩
    · exact ⟨_,z⟩
  · have hp':p∈X.pn++pins:=by simpa [cxC] using hp
    obtain ⟨e,n,ne,nf,d⟩:=I.pin p hp'
    exact ⟨kp _ _ e,n,below (Heap.lt_size e),nstk _ ne nf,d⟩
  · show (bSt ts.length ix σ).length=(bN Nx ts ix).length
    unfold bSt bN
    simp

theorem Inv.track {D:Addr} {ys:List V} {its:List Value} {n:Nat} (I:Inv X pins σ H s) (hD:H D=none) (ho:s.heap.get? D=some { cls:=.type "list",data:=.seq its.toArray n }) (r:Vals ys its) (hz:ys.length≤sizeLine)
    (hL:D≠X.env.locals) (hs0:X.s₀.heap.objs.size≤D) (hc:∀ x c,X.env.cells.lookup x=some c→c≠D) (hp:∀ p∈X.pn++pins,p.1≠D):Inv X pins σ (upd H D (.lst ys)) s:=by
  have ne:∀ {b:Addr} {o:HO},H b=some o→b≠D:=fun e=>ne_of_none e hD
  refine I.step (g':=s.gens) (d':=s.drawn) (t':=s.toks) (h':=s.heap) (ch:=[D]) (fun b hb=>?_) (fun b o _ _ _ e _=>e) (fun b o _ _ _ e _=>⟨o.slots,e⟩) (fun b o hb e n=>?_) (fun b o _ e=>⟨o,e⟩)
    (fun b xs e=>by rw [upd_ne (ne e)]; exact e) (fun b o u e=>by rw [upd_ne (ne e)]; exact e) (fun b ps e=>⟨#[],by rw [upd_ne (ne e),e]; simp⟩) (fun m hm=>hm) (fun b u e=>?_) I.bare
  · have e:b=D:=by simpa using hb
    subst e
    exact ⟨.inr hs0,hL,hc,hp⟩
  · have hb':b≠D:=by simpa using hb
    rw [upd_ne hb']
    exact n
  · by_cases hb:b=D
    · subst hb
      rw [upd_same] at e
      cases e
      exact ⟨hz,its,n,r,ho⟩
    · rw [upd_ne hb] at e
      exact (I.hok b u e).stay (fun c v _ q=>q) (fun c q=>by rw [upd_ne (ne q)]; exact q) fun c xs q=>by rw [upd_ne (ne q)]; exact q
end
theorem compLoop_run {prog:Program} {w:World} {A:Around} {R:Result→Shared→Prop} {s:Shared} {elt target iter:Expr} {scope:Scope} {pos:Pos} {it acc:Value} {env:Env} (J:Nat→Shared→Prop)
    (step:∀ k s0,J k s0→wpAny (model prog w) A (pyNext it) (fun got s1=>match got with
      | none=>R (.ok .next) s1
      | some v=>wpAny (model prog w) A (letOwnedTupleGo target it v) (fun _ s2=>wpAny (model prog w) A (assign target env v) (fun _ s3=>wpAny (model prog w) A (eval elt env) (fun y s4 =>
          wpAny (model prog w) A (call (.builtin "list.append") [acc,y]) (fun _ s5=>∃ j,j < k∧J j s5) (fun _ _=>False) s4) (fun _ _=>False) s3) (fun _ _=>False) s2) (fun _ _=>False) s1) (fun _ _=>False) s0)
    (k:Nat) (h:J k s):codeAny (model prog w) A (.compLoop (.ListComp elt [⟨target,iter,[],0⟩] scope pos) 0 it acc env) R s:=by
  refine codeAny_loop rfl J (fun k0 s0 hJ=>?_) k h
  show wpAny _ _ ((compTurn (.ListComp elt [⟨target,iter,[],0⟩] scope pos) 0 it acc env).onRaise (fun x=>do noteFrame x env; theTreesLotGoes x)) _ _ s0
  apply wpAny_noted
  rw [compTurn_list1]
  refine wpAny_bind (wpAny_standAt (wpAny_bind (wpAny_mono (step k0 s0 hJ) (fun got s1 h1=>?_) fun _ _ z=>z.elim)))
  cases got with
  | none=>exact wpAny_pure h1
  | some v =>
    refine wpAny_bind (wpAny_mono h1 (fun _ s2 h2=>?_) fun _ _ z=>z.elim)
    refine wpAny_bind (wpAny_mono h2 (fun _ s3 h3=>?_) fun _ _ z=>z.elim)
    refine wpAny_bind (wpAny_bind (wpAny_mono h3 (fun y s4 h4=>?_) fun _ _ z=>z.elim))
    exact wpAny_bind (wpAny_mono h4 (fun _ s5 h5=>wpAny_pure (wpAny_pure ⟨rfl,h5⟩)) fun _ _ z=>z.elim)

noncomputable def tLc (wi:TI) (n:Nat) (ix:List Nat) (g:Blk→TG) (te:Blk→TE):TE:=fun σ H Q=>wi σ H fun J H1=>∀ b:Blk,∃ W:Nat→Nat→St→List V→Hp→Prop,(∃ m,W 0 m (bSt n ix σ) [] H1)∧∀ i m τ ys H2,W i m τ ys H2 →
  (J.stop i H2∧∀ p v H',H2 p=none→v=V.ref p→H'=upd H2 p (.lst ys)→Q v H') ∨
  (J.go i H2∧ys.length < sizeLine∧∀ x H3,J.yld i H2 x H3→g b x τ H3 fun τ2 H4=>te b τ2 H4 fun y H5=>∃ m',m' < m∧W (i+1) m' τ2 (ys++[y]) H5)

section
variable {X:Cx} {pins:List (Addr×Obj)} {σ:St} {H:Hp} {s:Shared}
theorem lc_block {elt target iter:Expr} {scope:Scope} {pos:Pos} {Nx ts:List Str} {ix:List Nat} {g:Blk→TG} {te:Blk→TE} {cl:List (Str×Addr)} {s2:Shared} {itv:Value} {R:Value→Addr→Result→Shared→Prop}
    {E:Value→Shared→Prop} {Q:VK}
    (hc:X.calm=true) (hg:∀ b,PG (cxC X (bN Nx ts ix) scope b) target (g b)) (he:∀ b,PE (cxC X (bN Nx ts ix) scope b) elt (te b))
    (hNx:X.N=Nx) (ok:BlkOk Nx X.env.scope scope ix) (cl1:∀ x c,cl.lookup x=some c→X.env.cells.lookup x=some c) (cl2:∀ y∈scope.names,y.2=.free→∃ c,cl.lookup y.1=some c)
    (h2:PIE X pins σ target (fun J H1=>∀ b:Blk,∃ W:Nat→Nat→St→List V→Hp→Prop,(∃ m,W 0 m (bSt ts.length ix σ) [] H1)∧∀ i m τ ys H2,W i m τ ys H2 →
      (J.stop i H2∧∀ p v H',H2 p=none→v=V.ref p→H'=upd H2 p (.lst ys)→Q v H') ∨
      (J.go i H2∧ys.length < sizeLine∧∀ x H3,J.yld i H2 x H3→g b x τ H3 fun τ2 H4=>te b τ2 H4 fun y H5=>∃ m',m' < m∧W (i+1) m' τ2 (ys++[y]) H5)) itv s2)
    (hR:∀ (D C:Addr) (H':Hp) (s':Shared) (v:V),Inv X pins σ H' s'→v=.ref D→Q v H'→(∃ m,s'.heap.Ns C m)→H' C=none→C≠X.env.locals→X.s₀.heap.objs.size≤C→(∀ x c,X.env.cells.lookup x=some c→c≠C)→(∀ p∈X.pn++pins,p.1≠C) →
      R (.ref D) C (.ok .next) s') :
    wpAny (model X.prog X.w) X.A (newList []) (fun acc s₃=>wpAny (model X.prog X.w) X.A (newFunctionEnv scope X.env.globals cl [] X.env.qual none .none (some X.env)) (fun cenv s₄ =>
      codeAny (model X.prog X.w) X.A (.compStart (.ListComp elt [⟨target,iter,[],0⟩] scope pos) 0 itv acc { cenv with scope:=relabel scope X.env }) (R acc cenv.locals) s₄) E s₃) E s2:=by
  obtain ⟨it,fp,tn,J,H1,e,I2,T,st2,f2,q2⟩:=h2
  subst e
  refine wpAny_newObj_type (wpAny_compEnv ?_)
  dsimp only
  generalize hG:s2.heap.push { cls:=.type "list",dict:=none,data:=.seq ([]:List Value).toArray }=G
  have hGs:G.objs.size=s2.heap.objs.size+1:=by rw [← hG,Heap.size_push]
  have hfs:∀ b∈fp,b < s2.heap.objs.size:=fun b hb=>let ⟨o,e,_⟩:=T.obj _ _ st2 b hb; Heap.lt_size e
  have kpG:∀ b o,G.get? b=some o→(pushCells (G.push { cls:=.type "dict",data:=.dict #[] }) scope.names).get? b=some o:=fun b o e=>pushCells_keeps _ _ _ _ (Heap.get?_push_of_some _ e)
  have hns3:(pushCells (G.push { cls:=.type "dict",data:=.dict #[] }) scope.names).Ns G.objs.size (fun _=>none):=(Heap.Ns.new G (.type "dict")).keeps (pushCells_keeps _ _)
  obtain ⟨sp1,sp2,sp4,sp3⟩:=cells_spec scope.names (G.push { cls:=.type "dict",data:=.dict #[] }) cl
  rw [Heap.size_push] at sp1 sp2 sp3 sp4
  generalize hh3:pushCells (G.push { cls:=.type "dict",data:=.dict #[] }) scope.names=h3 at kpG hns3 sp1 ⊢
  have kp:∀ b o,s2.heap.get? b=some o→h3.get? b=some o:=fun b o e=>kpG b o (by rw [← hG]; exact Heap.get?_push_of_some _ e)
  have hD3:h3.get? s2.heap.objs.size=some { cls:=.type "list",data:=.seq ([]:List Value).toArray }:=kpG _ _ (by rw [← hG]; exact Heap.get?_push_size _ rfl)
  have clB:∀ x c,cl.lookup x=some c→c < G.objs.size+1:=fun x c e=>by
    obtain ⟨v,q⟩:=I2.cell x c (cl1 x c e)
    exact Nat.lt_succ_of_lt (Nat.lt_of_lt_of_le q.lt (by rw [hGs]; exact Nat.le_succ _))
  have csI:=sp3 clB fun x y c e1 e2=>I2.ok.inj x y c (cl1 x c e1) (cl1 y c e2)
  have cs1:∀ x c,(cellsFrom (G.objs.size+1) scope.names cl).lookup x=some c→X.env.cells.lookup x=some c∨(G.objs.size < c∧h3.IsCell c none∧(x,NameKind.cell)∈scope.names):=fun x c e=>by
    rcases sp1 x c e with z | ⟨z1,z2,z3⟩
    · exact .inl (cl1 x c z)
    · exact .inr ⟨by omega,z2,z3⟩
  have cs2:∀ y∈scope.names,(y.2=.free∨y.2=.cell)→∃ c,(cellsFrom (G.objs.size+1) scope.names cl).lookup y.1=some c:=fun y hy hk=>by
    refine sp2 y.1 ?_
    rcases hk with z | z
    · exact .inr (cl2 y hy z)
    · exact .inl (by rw [← z]; exact hy)
  have csA:∀ x c,(x,NameKind.cell)∈scope.names→(cellsFrom (G.objs.size+1) scope.names cl).lookup x=some c→G.objs.size≤c:=fun x c e1 e2=>Nat.le_of_succ_le (sp4 x c e1 e2)
  generalize hcs:cellsFrom (G.objs.size+1) scope.names cl=cs at csI cs1 cs2 csA ⊢
  generalize hCe:G.objs.size=C at hns3 cs1 csA ⊢
  have hC:s2.heap.objs.size≤C:=by omega
  have hDC:s2.heap.objs.size≠C:=by omega
  let B:Blk:=⟨cs,C,s2,H1,fp,X.pn++pins⟩
  have I3:Inv (cxC X (bN Nx ts ix) scope B) [] (bSt ts.length ix σ) H1 { s2 with heap:=h3 }:=inv_block I2 hNx ok cs1 csI cs2 csA f2 hfs hC kp hns3
  have fC:H1 s2.heap.objs.size=none:=I2.hok.fresh (Nat.le_refl _)
  have cellIn:∀ x c,cs.lookup x=some c→c≠s2.heap.objs.size:=fun x c e=>by
    rcases cs1 x c e with z | ⟨z,_,_⟩
    · obtain ⟨v,q⟩:=I2.cell x c z
      exact Nat.ne_of_lt q.lt
    · exact Nat.ne_of_gt (Nat.lt_of_le_of_lt hC z)
  have pinIn:∀ p∈X.pn++pins,p.1 < s2.heap.objs.size:=fun p hp=>Heap.lt_size (I2.pin p hp).1
  have nofrs:s2.heap.objs.size ∉ frs X.stack:=fun hb=>by
    rcases List.mem_cons.mp (I2.stkSub _ hb) with z | z
    · exact absurd I2.lt (by rw [← z]; exact Nat.lt_irrefl _)
    · exact I2.nofs (Nat.le_refl _) z
  -- a state with the list at its place,pinned
  have pinD:∀ {τ:St} {H':Hp} {s':Shared} {ob:Obj},Inv (cxC X (bN Nx ts ix) scope B) [] τ H' s'→s'.heap.get? s2.heap.objs.size=some ob→H' s2.heap.objs.size=none→(∀ v,ob.data≠.cell v)→Inv (cxC X (bN Nx ts ix) scope B) [(s2.heap.objs.size,ob)] τ H' s' :=
    fun {τ H' s' ob} I' ho hn hd=>I'.pins_of fun p hp=>by
      have e:p=(s2.heap.objs.size,ob):=by simpa using hp
      subst e
      exact ⟨ho,hn,hDC,nofrs,hd⟩
  obtain ⟨W,⟨m0,w0⟩,turn⟩:=q2 B
  have stat:∀ {H':Hp} {ob:Obj},(∀ b∈fp,H' b=none)→∀ b∈fp,FpOk (cxC X (bN Nx ts ix) scope B) [(s2.heap.objs.size,ob)] H' b:=fun {H' ob} hn b hb=>by
    refine ⟨hn b hb,Nat.ne_of_lt (Nat.lt_of_lt_of_le (hfs b hb) hC),fun z=>?_,.inl hb,fun x c e=>by
      rcases cs1 x c e with z | ⟨z,_,_⟩
      · exact (f2 b hb).2.2.2.2.1 x c z
      · exact Nat.ne_of_gt (Nat.lt_of_lt_of_le (hfs b hb) (Nat.le_trans hC (Nat.le_of_lt z))),fun p hp=>?_⟩
    · rcases List.mem_cons.mp (I2.stkSub _ z) with q | q
      · exact (f2 b hb).2.1 q
      · exact (f2 b hb).2.2.1 q
    · rcases List.mem_append.mp hp with z | z
      · exact (f2 b hb).2.2.2.2.2 p z
      · have e:p=(s2.heap.objs.size,ob):=by simpa using z
        subst e
        exact Nat.ne_of_gt (hfs b hb)
  have loop:∀ s4:Shared,s4={ s2 with heap:=h3 } →
      codeAny (model X.prog X.w) X.A (.compLoop (.ListComp elt [⟨target,iter,[],0⟩] scope pos) 0 (.ref it) (.ref s2.heap.objs.size) (compEnvC scope cs C X.env)) (R (.ref s2.heap.objs.size) C) s4:=by
    rintro s4 rfl
    refine compLoop_run (fun k s'=>∃ i τ ys its n H',Inv (cxC X (bN Nx ts ix) scope B) [(s2.heap.objs.size,({ cls:=.type "list",data:=.seq (List.toArray its) n }:Obj))] τ H' s'∧tn i s'.heap∧(∀ b∈fp,H' b=none)∧Vals ys its∧ys.length≤sizeLine∧W i k τ ys H') ?_ m0
      ⟨0,_,[],[],_,H1,pinD I3 hD3 fC (fun v z=>by cases z),T.keep _ _ _ st2 fun b hb o e=>kp b o e,fun b hb=>(f2 b hb).1,.nil,Nat.zero_le _,w0⟩
    rintro k s5 ⟨i,τ,ys,its,n,H5,I5,st5,fr5,rv,hz,w5⟩
    rcases turn i k τ ys H5 w5 with ⟨stop,qn⟩ | ⟨go,hlt,step⟩
    · refine thn (T.done (cxC X (bN Nx ts ix) scope B) rfl rfl rfl hc i _ s5 τ H5 _ I5 (stat fr5) st5 stop) fun got s6 hz0=>?_
      obtain ⟨hr,I6⟩:=hz0
      subst hr
      obtain ⟨ho,hn,_,_,_⟩:=I6.pin (s2.heap.objs.size,({ cls:=.type "list",data:=.seq (List.toArray its) n }:Obj)) (List.mem_append_right _ (by simp))
      have I7:Inv X pins σ H5 s6:=I2.call' (ch:=fp) (H':=H5) (by exact I6.os) I6.base I6.hok I6.bare fun b hb=>⟨(f2 b hb).2.2.2.1,(f2 b hb).2.1,(f2 b hb).2.2.2.2.1,(f2 b hb).2.2.2.2.2⟩
      have hs0:X.s₀.heap.objs.size≤s2.heap.objs.size:=I2.sz
      have I8:=I7.track hn ho rv hz (Nat.ne_of_gt I2.lt) hs0 (fun x c e z=>by
        obtain ⟨v,q⟩:=I2.cell x c e
        exact absurd q.lt (by rw [z]; exact Nat.lt_irrefl _)) (fun p hp=>Nat.ne_of_lt (pinIn p hp))
      obtain ⟨m6,hm6,_⟩:=I6.loc
      refine hR _ C _ s6 _ I8 rfl (qn _ _ _ hn rfl rfl) ⟨m6,hm6⟩ ?_ (fun z=>?_) (Nat.le_trans hs0 hC) (fun x c e z=>?_) fun p hp=>Nat.ne_of_lt (Nat.lt_of_lt_of_le (pinIn p hp) hC)
      · rw [upd_ne (Ne.symm hDC)]
        exact I6.free
      · exact absurd (Nat.lt_of_lt_of_le I2.lt hC) (by rw [z]; exact Nat.lt_irrefl _)
      · obtain ⟨v,q⟩:=I2.cell x c e
        exact absurd (Nat.lt_of_lt_of_le q.lt hC) (by rw [z]; exact Nat.lt_irrefl _)
    · refine thn (T.item (cxC X (bN Nx ts ix) scope B) rfl rfl rfl hc i _ s5 τ H5 _ I5 (stat fr5) st5 go) fun got s6 hz0=>?_
      obtain ⟨u,hr,h6⟩:=hz0
      subst hr
      refine thn h6 fun _ s7 hz0=>?_
      obtain ⟨x,H7,I7,r7,y7,st7,fr7⟩:=hz0
      have I7':=I7.pinned (stat fr7) (T.obj _ _ st7)
      refine thn (hg B _ s7 τ H7 x u _ I7' r7 (step x H7 y7)) fun _ s8 hz0=>?_
      obtain ⟨τ8,H8,I8,q8⟩:=hz0
      refine thn (he B _ s8 τ8 H8 _ I8 q8) fun y s9 hz0=>?_
      obtain ⟨vy,H9,I9,r9,m',hm',w9⟩:=hz0
      obtain ⟨ho,hn,_,_,_⟩:=I9.pin (s2.heap.objs.size,({ cls:=.type "list",data:=.seq (List.toArray its) n }:Obj)) (List.mem_append_right _ (List.mem_append_left _ (by simp)))
      have lenv:=rv.length
      refine wpAny_list_append_plain (l:=s2.heap.objs.size) ⟨n,ho⟩ (fun h' hpl hsb=>?_) (by rw [List.size_toArray]; omega)
      obtain ⟨n',ho'⟩:=hpl
      have eobj:(its.toArray.push y)=List.toArray (its++[y]):=by simp
      rw [eobj] at ho'
      have I9':Inv (cxC X (bN Nx ts ix) scope B) [] τ8 H9 s9:=I9.pins_of fun p hp=>absurd hp (by simp)
      have I10:Inv (cxC X (bN Nx ts ix) scope B) [] τ8 H9 { s9 with heap:=h' }:=I9'.turned (it:=s2.heap.objs.size) (t':=s9.toks) (fun b o hb e=>(hsb.2 b hb).trans e) hn hDC (.inr (Nat.le_refl _)) cellIn (fun p hp=>by
        have hp':p∈(X.pn++pins)++[]:=hp
        rw [List.append_nil] at hp'
        exact Nat.ne_of_lt (pinIn p hp'))
      refine ⟨m',hm',i+1,τ8,ys++[vy],its++[y],n',H9,pinD I10 ho' hn (fun v z=>by cases z),?_,fun b hb=>?_,rv.append (.cons r9 .nil),by rw [List.length_append]; show ys.length+1≤_; omega,w9⟩
      · refine T.keep _ _ _ st7 fun b hb o e=>?_
        have q:=(I9.pin (b,o) (List.mem_append_right _ (List.mem_append_right _ (mem_pinsAt hb e)))).1
        exact (hsb.2 b (Nat.ne_of_lt (hfs b hb))).trans q
      · obtain ⟨o,e,d⟩:=T.obj _ _ st7 b hb
        exact (I9.pin (b,o) (List.mem_append_right _ (List.mem_append_right _ (mem_pinsAt hb e)))).2.1
  exact codeAny_compStart_list (loop _ rfl) (T.self X.A 0 _ _ _ (T.keep _ _ _ st2 fun b hb o e=>kp b o e) (loop _ rfl))

theorem pe_lc {elt target iter:Expr} {scope:Scope} {pos:Pos} {wi:TI} {g:Blk→TG} {te:Blk→TE} (Nx:List Str) (ts:List Str) (ix:List Nat)
    (hc:X.calm=true) (hi:PI X target iter wi) (hg:∀ b,PG (cxC X (bN Nx ts ix) scope b) target (g b)) (he:∀ b,PE (cxC X (bN Nx ts ix) scope b) elt (te b))
    (hNx:X.N=Nx) (ok:BlkOk Nx X.env.scope scope ix) (hs:∀ x,foldedSetIterable iter X.env x=pure x:=by intro _; rfl) :
    PE X (.ListComp elt [⟨target,iter,[],0⟩] scope pos) (tLc wi ts.length ix g te):=by
  intro pins s σ H Q I h
  obtain ⟨cl,hcl,cl1,cl2⟩:=closure_of (scope:=scope) (env:=X.env) fun y hy hf=>I.ok.has y.1 (ok.frees y hy hf)
  rw [eval_ListComp]
  refine wpAny_comprehension_free (use:=none) rfl hs hcl ok.kind ok.locs (thn (hi pins s σ H _ I h) fun v s1 h1=>thn h1 fun itv s2 h2=>?_)
  refine lc_block (R:=fun acc C=>compPost (model X.prog X.w) X.A X.xe none (EP X pins σ Q) acc C) hc hg he hNx ok cl1 cl2 h2 ?_
  rintro D C H' s' v I' rfl q ⟨m,hm⟩ hn hL h0 hcl' hp
  exact ⟨m,hm,fun h' hsb=>⟨.ref D,H',I'.turned (it:=C) (t':=s'.toks) (fun b o hb e=>(hsb.2 b hb).trans e) hn hL (.inr h0) hcl' hp,rfl,q⟩⟩

theorem ps_setLc {elt target iter:Expr} {scope:Scope} {pos pos' spos:Pos} {wi:TI} {g:Blk→TG} {te:Blk→TE} {i:Nat} {x:Str} (Nx:List Str) (ts:List Str) (ix:List Nat)
    (hc:X.calm=true) (hN:X.N.Nodup) (hix:X.N[i]?=some x) (hx:X.env.scope.names.lookup x=some .local) (hi:PI X target iter wi) (hg:∀ b,PG (cxC X (bN Nx ts ix) scope b) target (g b)) (he:∀ b,PE (cxC X (bN Nx ts ix) scope b) elt (te b))
    (hNx:X.N=Nx) (ok:BlkOk Nx X.env.scope scope ix) (hsw:swapsWith (.ListComp elt [⟨target,iter,[],0⟩] scope pos) (some (.Name x pos')) spos.line X.env=pure true) (hs:∀ x,foldedSetIterable iter X.env x=pure x:=by intro _; rfl) :
    PS X (.Assign [.Name x pos'] (.ListComp elt [⟨target,iter,[],0⟩] scope pos) spos) (tAsg (tLc wi ts.length ix g te) (gName i)):=by
  intro pins s σ H D0 I h
  obtain ⟨cl,hcl,cl1,cl2⟩:=closure_of (scope:=scope) (env:=X.env) fun y hy hf=>I.ok.has y.1 (ok.frees y hy hf)
  rw [exec_Assign_Name_used _ _ _ _ hsw]
  refine wpAny_bind (wpAny_standAt (wpAny_bind ?_))
  show wpAny _ X.A (do let _ ← comprehension (.ListComp elt [⟨target,iter,[],0⟩] scope pos) scope X.env _ (newList []) false (eval iter X.env) (some (assign (.Name x pos') X.env))) _ _ s
  refine wpAny_bind (thn (wpAny_comprehension_free (use:=some (assign (.Name x pos') X.env)) (Q:=fun _ s'=>SP X pins D0 .next s') rfl hs hcl ok.kind ok.locs (thn (hi pins s σ H _ I h) fun v s1 h1=>thn h1 fun itv s2 h2=>?_)) fun _ s' hq=>wpAny_pure (wpAny_pure hq))
  refine lc_block (R:=fun acc C=>compPost (model X.prog X.w) X.A X.xe (some (assign (.Name x pos') X.env)) (fun _ s'=>SP X pins D0 .next s') acc C) (Q:=fun x H1=>gName i x σ H1 D0.nx) hc hg he hNx ok cl1 cl2 h2 ?_
  rintro D C H' s' v I' rfl q ⟨m,hm⟩ hn hL h0 hcl' hp
  show wpAny _ X.A (assign (.Name x pos') X.env (.ref D)) _ _ _
  refine wpAny_assign_Name (store_ok2 I' hN hix (.inl hx) (show RelV (.ref D) (.ref D) from rfl) (fun s'' I'' hch=>?_) (.inr hx))
  obtain ⟨a,hsb,ha⟩:=hch
  have haC:C≠a:=by
    rcases ha with z | z
    · rw [z]; exact hL
    · exact fun e=>hcl' _ _ z e.symm
  exact ⟨m,hm.sameBut hsb haC,fun h'' hs''=>⟨_,H',I''.turned (it:=C) (t':=s''.toks) (fun b o hb e=>(hs''.2 b hb).trans e) hn hL (.inr h0) hcl' hp,q⟩⟩
end
end L2
set_option Elab.async false
set_option linter.all false
set_option maxRecDepth 100000
namespace L2
open PySem PySem.Spec PyProof.Rows
mutual
/-- the value bears the datum -/
inductive Dn (H:Hp):V→PyData→Prop
  | non:Dn H .non .none
  | bl (b:Bool):Dn H (.bl b) (.bool b)
  | int (i:Int):Dn H (.int i) (.int i)
  | str (x:Str):Dn H (.str x) (.str x)
  | tup {a:Addr} {xs:List V} {ds:List PyData}:H a=some (.tup xs)→DnAll H xs ds→Dn H (.ref a) (.tuple ds)
  | lst {a:Addr} {xs:List V} {ds:List PyData}:H a=some (.lst xs)→DnAll H xs ds→Dn H (.ref a) (.list ds)
  | dct {a:Addr} {ks:List (Key×V)} {ds:List PyData}:H a=some (.dK ks)→DnAll H (ks.map (·.2)) ds→Dn H (.ref a) (.dict ((ks.map fun k=>match k.1 with | .inl i=>PyData.int i | .inr x=>PyData.str x).zip ds))
inductive DnAll (H:Hp):List V→List PyData→Prop
  | nil:DnAll H [] []
  | cons {v:V} {vs:List V} {d:PyData} {ds:List PyData}:Dn H v d→DnAll H vs ds→DnAll H (v::vs) (d::ds)
end
mutual
theorem Dn.mono {H H':Hp} (e:∀ b o,H b=some o→H' b=some o):∀ {v:V} {d:PyData},Dn H v d→Dn H' v d
  | _,_,.non=>.non
  | _,_,.bl b=>.bl b
  | _,_,.int i=>.int i
  | _,_,.str x=>.str x
  | _,_,.tup h r=>.tup (e _ _ h) (DnAll.mono e r)
  | _,_,.lst h r=>.lst (e _ _ h) (DnAll.mono e r)
  | _,_,.dct h r=>.dct (e _ _ h) (DnAll.mono e r)
theorem DnAll.mono {H H':Hp} (e:∀ b o,H b=some o→H' b=some o):∀ {vs:List V} {ds:List PyData},DnAll H vs ds→DnAll H' vs ds
  | _,_,.nil=>.nil
  | _,_,.cons r t=>.cons (Dn.mono e r) (DnAll.mono e t)
end
theorem DnAll.ints {H:Hp}:∀ ns:List Int,DnAll H (ns.map V.int) (ns.map PyData.int)
  | []=>.nil
  | n::ns=>.cons (.int n) (DnAll.ints ns)
theorem DnAll.length {H:Hp} {vs:List V} {ds:List PyData} (h:DnAll H vs ds):vs.length=ds.length:=by
  induction vs generalizing ds with
  | nil=>cases h; rfl
  | cons v vs ih=>cases h with | cons r t=>exact congrArg (·+1) (ih t)
theorem DnAll.append {H:Hp} {vs ws:List V} {ds es:List PyData} (h:DnAll H vs ds) (s:DnAll H ws es):DnAll H (vs++ws) (ds++es):=by
  induction vs generalizing ds with
  | nil=>cases h; exact s
  | cons v vs ih=>cases h with | cons r t=>exact .cons r (ih t)

mutual
/-- data without dicts -/
theorem Dn.reads {P:Program} {w:World} {H:Hp} {h:Heap} (ok:HOk P w H h):∀ {v:V} {d:PyData} {u:Value},Dn H v d→d.hasDict=false→RelV v u→∃ as,Reads h u d as
  | _,_,_,.non,_,r=>by cases r; exact ⟨_,.none⟩
  | _,_,_,.bl b,_,r=>by cases r; exact ⟨_,.bool b⟩
  | _,_,_,.int i,_,r=>by obtain ⟨t,rfl⟩:=r; exact ⟨_,.int i t⟩
  | _,_,_,.str x,_,r=>by obtain ⟨t,rfl⟩:=r; exact ⟨_,.str x t⟩
  | _,_,_,.tup e rs,hd,r=>by
    cases r
    obtain ⟨z,its,rv,o,h1,h2,n,h3⟩:=ok _ _ e
    obtain ⟨as,q⟩:=DnAll.reads ok rs (by simpa [PyData.hasDict] using hd) rv
    exact ⟨_,.tuple h1 h2 h3 (by simpa using q)⟩
  | _,_,_,.lst e rs,hd,r=>by
    cases r
    obtain ⟨z,its,n,rv,h1⟩:=ok _ _ e
    obtain ⟨as,q⟩:=DnAll.reads ok rs (by simpa [PyData.hasDict] using hd) rv
    exact ⟨_,.list h1 rfl rfl (by simpa using q)⟩
  | _,_,_,.dct e rs,hd,r=>by simp [PyData.hasDict] at hd
theorem DnAll.reads {P:Program} {w:World} {H:Hp} {h:Heap} (ok:HOk P w H h):∀ {vs:List V} {ds:List PyData} {us:List Value},DnAll H vs ds→PyData.hasDictAll ds=false→Vals vs us→∃ as,ReadsAll h us ds as
  | _,_,_,.nil,_,r=>by cases r; exact ⟨_,.nil⟩
  | _,_,_,.cons p t,hd,r=>by
    cases r with
    | cons r1 r2 =>
      simp only [PyData.hasDictAll,Bool.or_eq_false_iff] at hd
      obtain ⟨as,q⟩:=Dn.reads ok p hd.1 r1
      obtain ⟨bs,q2⟩:=DnAll.reads ok t hd.2 r2
      exact ⟨_,.cons q q2⟩
end
section
variable {X:Cx}
theorem call_repr {k:Nat} (hr:Room k X.A):CallR X (.builtin "repr") (fun xs H Q=>∃ v d,xs=[v]∧Dn H v d∧d.hasDict=false∧d.showable=true∧d.depth≤32∧d.shown.length≤sizeLine∧Q (.str d.shown) H):=by
  intro pins s σ H xs us Q I r h
  obtain ⟨v,d,rfl,hd,hn,hs,hdp,hz,q⟩:=h
  obtain ⟨u,rfl,ru⟩:=vals1 r
  have hun:=hr.units
  have viaRef:∀ {a:Addr} {as:List Addr},Reads s.heap (.ref a) d as→wpAny (model X.prog X.w) X.A (call (.builtin "repr") [.ref a]) (EP X pins σ Q) X.xe s:=fun {a as} rd =>
    repr_of_reads' rd hs (PyData.noDict_hsm hn) hr.gd (by omega) (fun _ _ e=>e) (fun h' u' tk hk=>⟨.str d.shown,H,I.kept hk,⟨_,rfl⟩,q⟩) hz
  obtain ⟨as,rd⟩:=Dn.reads I.hok hd hn ru
  cases rd with
  | none=>exact PySem.P.repr_of_none ⟨.str "None",H,I.tok _,⟨_,rfl⟩,q⟩
  | bool b=>exact PySem.P.repr_of_bool ⟨.str (if b then "True" else "False"),H,I.tok _,⟨_,rfl⟩,q⟩
  | int i t=>exact PySem.P.repr_of_int (by simpa [PyData.showable] using hs) ⟨.str (toString i),H,I.tok _,⟨_,rfl⟩,q⟩
  | str x t=>exact PySem.P.repr_of_str ⟨.str (reprText x),H,I.tok _,⟨_,rfl⟩,q⟩ hz
  | list h1 h2 h3 h4=>exact viaRef (.list h1 h2 h3 h4)
  | tuple h1 h2 h3 h4=>exact viaRef (.tuple h1 h2 h3 h4)
  | dict h1 h2 h3 h4 h5=>simp [PyData.hasDict] at hn

theorem op_eqD {k:Nat} (hr:Room k X.A):OpR X (compareOp .Eq) (fun x y H Q=>∃ d e,Dn H x d∧Dn H y e∧SeqAt.shaped d=true∧SeqAt.shaped e=true∧Q (.bl (PyData.eqv d e)) H):=by
  intro pins s σ H x y v u Q I rx ry h
  obtain ⟨d,e,hd,he,sd,se,q⟩:=h
  obtain ⟨as,r1⟩:=Dn.reads I.hok hd (PyData.hasDict_of_canLay _ (SeqAt.canLay_of_shaped sd)) rx
  obtain ⟨bs,r2⟩:=Dn.reads I.hok he (PyData.hasDict_of_canLay _ (SeqAt.canLay_of_shaped se)) ry
  exact SeqAt.compareEq_shaped r1 r2 sd se hr.units ⟨.bl _,H,I,rfl,q⟩
theorem op_neD {k:Nat} (hr:Room k X.A):OpR X (compareOp .NotEq) (fun x y H Q=>∃ d e,Dn H x d∧Dn H y e∧SeqAt.shaped d=true∧SeqAt.shaped e=true∧Q (.bl (!PyData.eqv d e)) H):=by
  intro pins s σ H x y v u Q I rx ry h
  obtain ⟨d,e,hd,he,sd,se,q⟩:=h
  obtain ⟨as,r1⟩:=Dn.reads I.hok hd (PyData.hasDict_of_canLay _ (SeqAt.canLay_of_shaped sd)) rx
  obtain ⟨bs,r2⟩:=Dn.reads I.hok he (PyData.hasDict_of_canLay _ (SeqAt.canLay_of_shaped se)) ry
  exact SeqAt.compareNe_shaped r1 r2 sd se hr.units ⟨.bl _,H,I,rfl,q⟩

theorem call_rangeV2:CallR X (.type "range") (fun xs H Q=>∃ i j:Int,xs=[.int i,.int j]∧∀ p,H p=none→Q (.ref p) (upd H p (.rng i j))):=by
  intro pins s σ H xs us Q I r h
  obtain ⟨i,j,rfl,q⟩:=h
  cases r with
  | cons r1 rr =>
    cases rr with
    | cons r2 rr =>
      cases rr
      obtain ⟨t,rfl⟩:=r1
      obtain ⟨u,rfl⟩:=r2
      refine call_range_2 ?_
      exact ⟨.ref s.heap.objs.size,_,I.laid (t':=s.toks+1) (fun b o e=>Heap.get?_push_of_some _ e) (Nat.le_refl _) (show ObjOk X.prog X.w _ _ _ (.rng i j) from ⟨t,u,s.toks,Heap.get?_push_size _ rfl⟩),rfl,q _ (I.hok.fresh (Nat.le_refl _))⟩

noncomputable def rangeV (lo:Int) (n:Nat):List V:=(List.range n).map fun (k:Nat)=>V.int (lo+(k:Int))
theorem vals_range (lo:Int):∀ (n:Nat) (l:List Value),l.length=n→(∀ (j:Nat) (v:Value),l[j]?=some v→∃ t,v=Value.int (lo+(j:Int)) t)→Vals (rangeV lo n) l:=by
  intro n
  unfold rangeV
  induction n with
  | zero =>
    intro l hl _
    have e:l=[]:=List.length_eq_zero_iff.mp hl
    subst e
    exact .nil
  | succ n ih =>
    intro l hl hl2
    obtain ⟨l',x,rfl⟩:∃ l' x,l=l'++[x]:=⟨l.dropLast,l.getLast (by intro e; rw [e] at hl; cases hl),(List.dropLast_concat_getLast _).symm⟩
    have hl':l'.length=n:=by rw [List.length_append] at hl; simpa using hl
    rw [List.range_succ,List.map_append]
    refine Vals.append (ih l' hl' fun j v hv=>hl2 j v (by rw [List.getElem?_append_left (List.getElem?_eq_some_iff.mp hv).1]; exact hv)) (.cons ?_ .nil)
    obtain ⟨t,e⟩:=hl2 n x (by rw [List.getElem?_append_right (by omega),hl',Nat.sub_self]; rfl)
    exact ⟨t,e⟩
theorem call_list_rng (hh:X.A.handled=none):CallR X (.type "list") (fun xs H Q=>∃ a lo hi,xs=[.ref a]∧H a=some (.rng lo hi)∧-(2 ^ 62)≤lo∧lo < 2 ^ 62∧-(2 ^ 62)≤hi∧hi < 2 ^ 62∧(hi - lo).toNat≤1000∧∀ p,H p=none→Q (.ref p) (upd H p (.lst (rangeV lo (hi - lo).toNat)))):=by
  intro pins s σ H xs us Q I r h
  obtain ⟨a,lo,hi,rfl,ha,b1,b2,b3,b4,hn,q⟩:=h
  obtain ⟨u,rfl,ru⟩:=vals1 r
  cases ru
  obtain ⟨t,u,v,e⟩:=I.hok a _ ha
  have hsz:Builtin.Range.rangeSize lo hi 1=(((hi - lo).toNat:Nat):Int):=by rw [rangeSize_one]; split <;> omega
  refine call_list_range hh (r:=a) (t:=t) (u:=u) (v:=v) e (small_one b1 b2 b3 b4) hsz (by omega) fun h' tk acc c' hk ho hacc=>?_
  refine ⟨.ref s.heap.objs.size,_,I.laid hk (Nat.le_refl _) ?_,rfl,q _ (I.hok.fresh (Nat.le_refl _))⟩
  refine ⟨by unfold rangeV; rw [List.length_map,List.length_range]; exact Nat.le_trans hn (by decide),acc.toList,c',?_,by simpa using ho⟩
  obtain ⟨hl,hit⟩:=hacc
  exact vals_range lo _ _ (by simpa using hl) fun j v hv=>by
    obtain ⟨t,e⟩:=hit j v (by simpa using hv)
    exact ⟨t,by rw [e,Int.mul_one]⟩
end
end L2
set_option Elab.async false
set_option linter.all false
set_option maxRecDepth 100000
namespace L2
open PySem PySem.Spec PyProof.Rows
structure Def (K:PySem.W.Frag) (mg:Str→Option Value) (x:Str) (st:Stmt) (ps:List Str):Prop where
  ex:∃ f fd,Fun K x x st f fd∧mg x=some (.ref f)∧Binds K fd ps []
structure Callee (P:Program) (w:World) (K:PySem.W.Frag) (mg:Str→Option Value) (base:Heap) (x:Str) (k:Nat) (ps:List Str) (sp:Sp):Prop where
  ex:∃ f fd,FnOk P w K mg base CX0 k f fd ps sp∧mg x=some (.ref f)∧PySem.W.keepIn K (.ref f)=true∧Binds K fd ps []

section
variable {P:Program} {w:World} {K:PySem.W.Frag} {mg:Str→Option Value} {base:Heap}
theorem Def.ok {x:Str} {st:Stmt} {N ps:List Str} {k:Nat} {sp:Sp} (D:Def K mg x st ps) (S:FnScope N ps (defScope st)) (len:∀ vs H Q E,sp vs H Q E→vs.length=ps.length)
    (hbody:∀ (f:Addr) (cdv:Value) (A:Around) (outer:List Env) (s:Shared) (H:Hp) (vs:List V) (Q:VK) (E:XK),Room k (A.deeper (envOfC x (defScope st) s.heap.objs.size f cdv))→sp vs H Q E →
      ∃ t,PSs (cxOf CX0 P w K mg base N x (defScope st) f cdv A outer s H E).nox (defBody st) t∧t { nx:=fun _ H'=>Q .non H',rt:=Q } (start N vs) H):Callee P w K mg base x (k+1) ps sp:=by
  obtain ⟨f,fd,F,hm,hb⟩:=D.ex
  exact ⟨f,fd,F.ok S len fun cdv A outer s H vs Q E hr h=>hbody f cdv A outer s H vs Q E hr h,hm,F.kp,hb⟩
theorem def_mk {x:Str} {st:Stmt} {ps:List Str} {h:Heap} {f:Addr} {oc:Value} {od an:Option Addr} {osl:Array (Option Value)} {kV doc pm cdv ct:Value} (X:K.In h) (G:h.Ns mainGlobals mg)
    (a:PySem.W.nsIn K mainGlobals x=some (some (.ref f))) (l:K.lookup f=some ⟨oc,od,.func (PySem.W.fnOf x x (defArgs st) (defBody st) (defScope st) .none kV doc pm an cdv ct),osl⟩)
    (c:PySem.W.codeIn K cdv x=true) (k:PySem.W.keepIn K (.ref f)=true)
    (hb:∀ (kV doc pm:Value) (an:Option Addr) (cdv ct:Value) (us:List Value),us.length=ps.length→bindArgs (PySem.W.fnOf x x (defArgs st) (defBody st) (defScope st) .none kV doc pm an cdv ct) ⟨us,[]⟩=pure (ps.zip us)):Def K mg x st ps:=by
  have F:=fun_mk (st:=st) l c k
  exact ⟨f,_,F,PySem.W.mg_of X G a,F.binds hb⟩
end
section
variable {X:Cx} {x:Str} {k:Nat} {ps:List Str} {sp:Sp} {e:Expr} {es:List Expr} {t:TA} {p pos:Pos}
theorem pe_callC (C:Callee X.prog X.w X.K X.mg X.base x k ps sp) (hr:Room k X.A) (hg:Gl X x) (ha:PA X (e::es) t) (hdb:(x == ("__debug__":Str))=false:=by decide)
    (he:starEach (e::es) X.env=(false,eval e X.env)::starEach es X.env:=by rfl) (hpl:(backTo pos (starEach es X.env)).any (·.1)=false:=by rfl):PE X (.Call (.Name x p) (e::es) [] pos) (tCall sp [] E0 t):=by
  obtain ⟨f,fd,F,hm,hk,hb⟩:=C.ex
  exact pe_call F hr hg hm hk hb .nil pass0 ha hdb he hpl
theorem pe_gint {i:Int} (hg:Gl X x) (h:∃ t,X.mg x=some (.int i t)) (hd:(x == ("__debug__":Str))=false:=by decide):PE X (.Name x pos) (tC (.int i)):=by
  obtain ⟨t,e⟩:=h
  exact pe_glob hg e ⟨t,rfl⟩ hd
end
noncomputable def tJoinS (t:TS):TS:=fun D σ H=>∃ J:St→Hp→Prop,t { D with nx:=J } σ H∧∀ σ' H',J σ' H'→D.nx σ' H'
noncomputable def tJoinT (t:TT):TT:=fun σ H Q=>∃ J:Bool→Hp→Prop,t σ H J∧∀ b H',J b H'→Q b H'
section
variable {X:Cx} {st:Stmt} {e:Expr}
theorem PS.join {t:TS} (h:PS X st t):PS X st (tJoinS t):=by
  rintro pins s σ H D I ⟨J,q,hJ⟩
  refine thn (h pins s σ H _ I q) fun f s' z=>?_
  cases f with
  | next=>obtain ⟨σ',H',I',q'⟩:=z; exact ⟨σ',H',I',hJ _ _ q'⟩
  | brk=>exact z
  | cont=>exact z
  | ret u=>exact z
theorem PT.join {t:TT} (h:PT X e t):PT X e (tJoinT t):=by
  rintro pins s σ H Q I ⟨J,q,hJ⟩
  refine thn (h pins s σ H _ I q) fun b s' ⟨H',I',q'⟩=>⟨H',I',hJ _ _ q'⟩
end
noncomputable def penK (c:Addr) (at' left:Int):List (Key×V):=[(Sum.inr "script",.ref c),(Sum.inr "at",.int at'),(Sum.inr "left",.int left)]
theorem ne1:¬ ((Sum.inr ("script":Str):Key)=(Sum.inr ("at":Str):Key)):=by decide +kernel
theorem ne2:¬ ((Sum.inr ("script":Str):Key)=(Sum.inr ("left":Str):Key)):=by decide +kernel
theorem ne3:¬ ((Sum.inr ("at":Str):Key)=(Sum.inr ("left":Str):Key)):=by decide +kernel
theorem pen_script (c:Addr) (a l:Int):valV (penK c a l) (Sum.inr "script":Key)=some (.ref c):=valV_pos rfl
theorem pen_at (c:Addr) (a l:Int):valV (penK c a l) (Sum.inr "at":Key)=some (.int a):=by
  unfold penK
  rw [valV_neg ne1,valV_pos rfl]
theorem pen_left (c:Addr) (a l:Int):valV (penK c a l) (Sum.inr "left":Key)=some (.int l):=by
  unfold penK
  rw [valV_neg ne2,valV_neg ne3,valV_pos rfl]
theorem pen_put_at (c:Addr) (a l b:Int):putK (penK c a l) (Sum.inr "at":Key) (.int b)=penK c b l:=by
  have h:((penK c a l).any fun kv=>decide (kv.1=(Sum.inr "at":Key)))=true:=by rw [valV_any,pen_at]; rfl
  unfold putK
  rw [if_pos h]
  unfold penK
  simp only [List.map_cons,List.map_nil,if_neg ne1,if_neg (Ne.symm ne3),if_true]
theorem pen_put_left (c:Addr) (a l b:Int):putK (penK c a l) (Sum.inr "left":Key) (.int b)=penK c a b:=by
  have h:((penK c a l).any fun kv=>decide (kv.1=(Sum.inr "left":Key)))=true:=by rw [valV_any,pen_left]; rfl
  unfold putK
  rw [if_pos h]
  unfold penK
  simp only [List.map_cons,List.map_nil,if_neg ne2,if_neg ne3,if_true]
section
variable {H:Hp} {p c:Addr} {a l b:Int}
theorem dg_script (h:H p=some (.dK (penK c a l))):DGet H p (.str "script") (some (.ref c)):=by
  have q:=DGet.k (k:=(Sum.inr "script":Key)) h
  rw [pen_script] at q
  exact q
theorem dg_at (h:H p=some (.dK (penK c a l))):DGet H p (.str "at") (some (.int a)):=by
  have q:=DGet.k (k:=(Sum.inr "at":Key)) h
  rw [pen_at] at q
  exact q
theorem dg_left (h:H p=some (.dK (penK c a l))):DGet H p (.str "left") (some (.int l)):=by
  have q:=DGet.k (k:=(Sum.inr "left":Key)) h
  rw [pen_left] at q
  exact q
theorem dp_at (h:H p=some (.dK (penK c a l))):DPut H p (.str "at") (.int b) (upd H p (.dK (penK c b l))):=by
  have q:=DPut.k (k:=(Sum.inr "at":Key)) (v:=V.int b) h (by show 3 < sizeLine; decide)
  rw [pen_put_at] at q
  exact q
theorem dp_left (h:H p=some (.dK (penK c a l))):DPut H p (.str "left") (.int b) (upd H p (.dK (penK c a b))):=by
  have q:=DPut.k (k:=(Sum.inr "left":Key)) (v:=V.int b) h (by show 3 < sizeLine; decide)
  rw [pen_put_left] at q
  exact q
end
noncomputable def Kept (p:Addr) (H H':Hp):Prop:=∀ b o,H b=some o→b≠p→H' b=some o
theorem Kept.refl {p:Addr} {H:Hp}:Kept p H H:=fun _ _ h _=>h
theorem Kept.pen {p:Addr} {H H':Hp} {o:HO} (a:Kept p H H'):Kept p H (upd H' p o):=fun c u h n=>by
  rw [upd_ne n]
  exact a c u h n
end L2
set_option Elab.async false
set_option linter.all false
set_option maxRecDepth 100000
namespace L2
open PySem PySem.Spec PyProof.Rows
section
variable {prog:Program} {w:World} {A:Around} {E:Value→Shared→Prop} {s:Shared} {r:Addr} {a b c:Int} {t u v:Tok} {n:Nat}
theorem collect_rng {Q:List Value→Shared→Prop} (hh:A.handled=none) (hr:IsRange s.heap r a b c t u v) (hs:Builtin.Range.small a b c=true) (hn:Builtin.Range.rangeSize a b c=n) (hl:n≤2 ^ 24)
    (hQ:∀ (h':Heap) (tk:Nat) (acc:Array Value),(∀ b o,s.heap.get? b=some o→h'.get? b=some o)→ItemsOf (fun i v=>∃ t,v=.int (a+i * c) t) acc n→Q acc.toList { s with heap:=h',toks:=tk }):wpAny (model prog w) A (collect (.ref r)) Q E s:=by
  unfold collect; apply wpAny_bind; apply wpAny_runValue; refine codeAny_builtin F.entry_proto_collect ?_
  rw [Around.under_plainId F.plain_proto_collect _]
  show wpAny _ A.in1 (newList [] >>= fun z=>again (.builtin "list.__iadd__" ⟨[z,.ref r],[]⟩)) _ _ s
  refine wpAny_bind (wpAny_newObj_type (wpAny_pure ⟨plainId_quiet F.plain_list_iadd _,codeAny_builtin F.entry_list_iadd ?_⟩))
  rw [Around.under_plainId F.plain_list_iadd _]
  show wpAny _ A.in1 (Builtin.List.listExtendWith (.ref s.heap.objs.size) (.ref r) (.ref s.heap.objs.size)) _ _ { s with heap:=s.heap.push { cls:=.type "list",data:=.seq ([]:List Value).toArray } }
  let R:Result→Shared→Prop:=fun z s'=>match z with
    | .ok (.ret v)=>wpAny (model prog w) A (match v with
      | .ref q=>(do match (← load q).data with
        | .seq xs _=>pure xs.toList
        | _=>unsupported "internal:collect")
      | _=>unsupported "internal:collect") Q E s'
    | .ok _=>False
    | .error e=>E e s'
  refine wpAny_extend_range (R:=R) (s:={ s with heap:=s.heap.push { cls:=.type "list",data:=.seq ([]:List Value).toArray } }) hh (Heap.get?_push_of_some _ hr) hs hn hl _ _ _ (show (s.heap.push { cls:=.type "list",data:=.seq ([]:List Value).toArray }).get? s.heap.objs.size=some { cls:=.type "list",data:=.seq #[] } from Heap.get?_push_size _ rfl) fun h' tk acc c' hk hS hacc=>?_
  show wpAny _ A (load s.heap.objs.size >>= _) _ _ { s with heap:=h',toks:=tk }
  exact wpAny_bind (wpAny_load hS (wpAny_pure (hQ h' tk acc (fun b o e=>hk b o (Nat.ne_of_lt (Heap.lt_size e)) (Heap.get?_push_of_some _ e)) hacc)))

theorem tuple_rng {Q:Value→Shared→Prop} (hh:A.handled=none) (hr:IsRange s.heap r a b c t u v) (hs:Builtin.Range.small a b c=true) (hn:Builtin.Range.rangeSize a b c=n) (hl:n≤2 ^ 24)
    (hQ:∀ (h':Heap) (tk:Nat) (acc:Array Value),(∀ b o,s.heap.get? b=some o→h'.get? b=some o)→ItemsOf (fun i v=>∃ t,v=.int (a+i * c) t) acc n→Q (.ref h'.objs.size) { s with heap:=h'.push { cls:=.type "tuple",data:=.seq acc },toks:=tk }) :
    wpAny (model prog w) A (call (.type "tuple") [.ref r]) Q E s:=by
  refine callType_codes (Q₁:=fun z s1=>s1.TypeIs z "tuple"∧Q z s1) F.called_tuple (F.typeCall_tuple_1 _) F.entry_object_init ?_ fun z s1 h1=>?_
  · apply codeAny_of_tree
    show wpAny _ A.in1.in1 (do checkBuiltinCall "tuple.__new__" ⟨[.type "tuple",.ref r],[]⟩; again (.builtin "tuple.__new__" ⟨[.type "tuple",.ref r],[]⟩)) _ _ s
    refine wpAny_bind (wpAny_of_eq (F.newCall_tuple_1 _) (wpAny_pure ⟨plainId_quiet F.plain_tuple_new _,codeAny_builtin F.entry_tuple_new ?_⟩))
    rw [Around.under_plainId F.plain_tuple_new _]
    have f1:=sub_tuple_self; have f2:=init_tuple_lookup; have f3:=madeHere_tuple
    have fT:s.TypeIs (.ref r) "range":=⟨_,hr,rfl⟩
    wp_walk using wpAny_typeOf fT,collect_rng (A:=A.in1.in1) hh hr hs hn hl
    intro h' tk acc hk hacc
    show wpAny _ _ (Builtin.Tuple.tupleExact acc.toList.toArray >>= fun z=>ret z) _ _ _
    unfold Builtin.Tuple.tupleExact
    have e:acc.toList.toArray=acc:=by simp
    rw [e]
    refine wpAny_bind (wpAny_newObj_type (wpAny_pure ⟨⟨_,Heap.get?_push_size _ rfl,rfl⟩,hQ h' tk acc hk hacc⟩) ?_)
    show acc.size≤sizeLine
    rw [hacc.1,sizeLine_eq]
    exact hl
  · exact ⟨h1.1,F.args_object_init_2 z _,object_init_meets F.called_tuple.init.lookup F.called_tuple.made (by decide) prog w A.in1 _ s1 ⟨h1.1,rfl,h1.2⟩⟩
end
section
variable {X:Cx}
theorem call_tuple_rng (hh:X.A.handled=none):CallR X (.type "tuple") (fun xs H Q=>∃ a lo hi,xs=[.ref a]∧H a=some (.rng lo hi)∧-(2 ^ 62)≤lo∧lo < 2 ^ 62∧-(2 ^ 62)≤hi∧hi < 2 ^ 62∧(hi - lo).toNat≤1000∧∀ p,H p=none→Q (.ref p) (upd H p (.tup (rangeV lo (hi - lo).toNat)))):=by
  intro pins s σ H xs us Q I r h
  obtain ⟨a,lo,hi,rfl,ha,b1,b2,b3,b4,hn,q⟩:=h
  obtain ⟨u,rfl,ru⟩:=vals1 r
  cases ru
  obtain ⟨t,u,v,e⟩:=I.hok a _ ha
  have hsz:Builtin.Range.rangeSize lo hi 1=(((hi - lo).toNat:Nat):Int):=by rw [rangeSize_one]; split <;> omega
  refine tuple_rng hh (r:=a) (t:=t) (u:=u) (v:=v) e (small_one b1 b2 b3 b4) hsz (by omega) fun h' tk acc hk hacc=>?_
  have I1:Inv X pins σ H { s with heap:=h',toks:=tk }:=I.kept hk
  have hv:Vals (rangeV lo (hi - lo).toNat) acc.toList:=vals_range lo _ _ (by simpa using hacc.1) fun j v hv=>by
    obtain ⟨t,e⟩:=hacc.2 j v (by simpa using hv)
    exact ⟨t,by rw [e,Int.mul_one]⟩
  have hz:(rangeV lo (hi - lo).toNat).length≤sizeLine:=by
    unfold rangeV
    rw [List.length_map,List.length_range]
    exact Nat.le_trans hn (by decide)
  refine ⟨.ref h'.objs.size,_,I1.laid (h':=h'.push { cls:=.type "tuple",data:=.seq acc }) (t':=tk) (fun b o e=>Heap.get?_push_of_some _ e) (Nat.le_refl _) (show ObjOk X.prog X.w _ _ _ (.tup (rangeV lo (hi - lo).toNat)) from ⟨hz,acc.toList,hv,⟨_,Heap.get?_push_size _ rfl,rfl,0,by simp⟩⟩),rfl,q _ (I1.hok.fresh (Nat.le_refl _))⟩

theorem noFill_tup:fillsNumberSlot (.type "tuple") "mul"=pure false :=
  PySem.fillsNumberSlot_seq (id:="tuple.__mul__") (r:=some (.builtin "tuple.__rmul__")) PySem.F.slot_tuple_mul.lookup (by decide +kernel) PySem.F.slot_tuple_rmul.lookup (by decide +kernel)
theorem repeat_tup:seqRepeat? (.type "tuple")=pure (some (.builtin "tuple.__mul__")):=by
  unfold seqRepeat?
  rw [PySem.seqSlot_of (T:="tuple") (name:="__mul__") (id:="tuple.__mul__") PySem.F.slot_tuple_mul.lookup (by decide +kernel),PySem.seqSlot_of (T:="tuple") (name:="__rmul__") (id:="tuple.__rmul__") PySem.F.slot_tuple_rmul.lookup (by decide +kernel)]; rfl
theorem rmul_tup (x:Int) (t:Tok) (l:Addr) (items:Array Value) (n:Nat) (dd:Option Addr) (sl:Array (Option Value)) :
    Meets (Builtin.«int.__rmul__» ⟨[.int x t,.ref l],[]⟩) (fun _ R s=>s.heap.get? l=some { cls:=.type "tuple",dict:=dd,data:=.seq items n,slots:=sl }∧R (.ok (.ret Value.notImplemented)) s):=by
  refine .of_wp fun prog w A R s h=>?_
  obtain ⟨hp,g,d,tk,os⟩:=s
  obtain ⟨hl,h⟩:=h
  wp_walk
  exact ⟨_,rfl,h⟩
theorem mul_tup (x:Int) (t:Tok) (l:Addr) (items:Array Value) (n:Nat) (dd:Option Addr) (sl:Array (Option Value)) (h1:1 < x) (h2:x≤1000) (h3:items.isEmpty=false) (h4:items.size≤1000) :
    Meets (Builtin.«tuple.__mul__» ⟨[.ref l,.int x t],[]⟩) (fun _ R s=>s.heap.get? l=some { cls:=.type "tuple",dict:=dd,data:=.seq items n,slots:=sl } ∧
      R (.ok (.ret (.ref s.heap.objs.size))) { s with heap:=s.heap.push { cls:=.type "tuple",data:=.seq ((List.replicate x.toNat items).foldl (·++·) #[]) } }):=by
  refine .of_wp fun prog w A R s h=>?_
  obtain ⟨hp,g,d,tk,os⟩:=s
  obtain ⟨hl,h⟩:=h
  have hp0:0≤(items.size:Int) * x:=Int.mul_nonneg (by omega) (by omega)
  have hp1:(items.size:Int) * x≤1000 * 1000:=Int.mul_le_mul (by omega) h2 (by omega) (by omega)
  have hne:items.size≠0:=fun e=>by simp [Array.isEmpty,e] at h3
  wp_walk
  refine wpAny_ite_split (fun z=>absurd z (by simp; omega)) (fun _=>?_)
  refine wpAny_bind ?_
  unfold Builtin.Tuple.tupleItemsOf
  refine wpAny_bind (wpAny_seqItems hl rfl (wpAny_pure ?_))
  refine wpAny_ite_split (fun z=>absurd z (by rw [h3]; simp; omega)) (fun _=>?_)
  refine wpAny_ite_split (fun z=>absurd z (by rw [h3]; simp; omega)) (fun _=>?_)
  refine wpAny_ite_split (fun z=>absurd z (by omega)) (fun _=>?_)
  refine wpAny_ite_split (fun z=>absurd z (by unfold Builtin.Tuple.tupleTooMany; rw [sizeLine_eq]; simp; omega)) (fun _=>?_)
  unfold Builtin.Tuple.tupleExact
  have hlen:∀ k:Nat,((List.replicate k items).foldl (·++·) #[]).size=k * items.size:=fun k=>by
    have key:∀ (k:Nat) (acc:Array Value),((List.replicate k items).foldl (·++·) acc).size=acc.size+k * items.size:=by
      intro k
      induction k with
      | zero=>intro acc; simp
      | succ k ih =>
        intro acc
        rw [List.replicate_succ,List.foldl_cons,ih,Array.size_append,Nat.succ_mul]
        omega
    simpa using key k #[]
  refine wpAny_bind (wpAny_newObj_type (wpAny_pure ⟨_,rfl,h⟩) ?_)
  show ((List.replicate x.toNat items).foldl (·++·) #[]).size≤sizeLine
  rw [hlen,sizeLine_eq]
  have hx:x.toNat≤1000:=by omega
  exact Nat.le_trans (Nat.mul_le_mul hx h4) (by decide)
noncomputable def rRepT (K:PySem.W.Frag):R2:=fun x y H Q=>∃ a k xs,x=.ref a∧y=.int k∧SqT K H a xs∧1 < k∧k≤1000∧xs≠[]∧xs.length≤1000∧∀ p,H p=none→Q (.ref p) (upd H p (.tup (List.replicate k.toNat xs).flatten))
theorem vals_rep {xs:List V} {us:List Value} (r:Vals xs us):∀ k:Nat,Vals (List.replicate k xs).flatten (List.replicate k us).flatten
  | 0=>.nil
  | k+1=>by
    rw [List.replicate_succ,List.replicate_succ,List.flatten_cons,List.flatten_cons]
    exact r.append (vals_rep r k)
theorem op_repT:OpR X (binaryOp .Mult) (rRepT X.K):=by
  intro pins s σ H x y v u Q I rx ry h
  obtain ⟨a,k,xs,rfl,rfl,hq,h1,h2,hne,hl,q⟩:=h
  cases rx
  obtain ⟨t,rfl⟩:=ry
  obtain ⟨its,rv,p,hz⟩:=I.tuple hq
  obtain ⟨o,ho,hc,n,hd⟩:=p
  obtain ⟨oc,od,odd,osl⟩:=o
  have hc':oc=.type "tuple":=hc
  have hd':odd=.seq its.toArray n:=hd
  subst hc' hd'
  have hlen:=rv.length
  have hemp:its.toArray.isEmpty=false:=by
    cases its with
    | nil=>cases rv; exact absurd rfl hne
    | cons i r=>rfl
  have efl:(List.replicate k.toNat its.toArray).foldl (·++·) #[]=(List.replicate k.toNat its).flatten.toArray:=by
    have key:∀ (k:Nat) (acc:Array Value),(List.replicate k its.toArray).foldl (·++·) acc=acc++(List.replicate k its).flatten.toArray:=by
      intro k
      induction k with
      | zero=>intro acc; simp
      | succ k ih =>
        intro acc
        rw [List.replicate_succ,List.foldl_cons,ih,List.replicate_succ,List.flatten_cons]
        simp
    simpa using key k.toNat #[]
  refine wpAny_binaryOp_repeat_ref (T:="tuple") (U:="int") (by decide) ⟨_,ho,rfl⟩ (fun s'=>typeIs_int s' k t) noFill_tup PySem.F.fills_int_mul PySem.F.slot_int_rmul repeat_tup PySem.F.slot_int_index.lookup ?_
  refine call_meets PySem.F.slot_int_rmul (typeIs_int s k t) PySem.F.entry_int_rmul (PySem.F.args_int_rmul_2 _ _) (rmul_tup k t a its.toArray n od osl) ⟨ho,rfl,⟨_,ho,rfl⟩,?_⟩
  refine call_meets PySem.F.slot_tuple_mul ⟨_,ho,rfl⟩ PySem.F.entry_tuple_mul (PySem.F.args_tuple_mul_2 _ _) (mul_tup k t a its.toArray n od osl h1 h2 hemp (by rw [List.size_toArray]; omega)) ⟨ho,?_⟩
  rw [efl]
  have hzz:(List.replicate k.toNat xs).flatten.length≤sizeLine:=by
    have hx:k.toNat≤1000:=by omega
    have e:(List.replicate k.toNat xs).flatten.length=k.toNat * xs.length:=by simp
    rw [e,sizeLine_eq]
    exact Nat.le_trans (Nat.mul_le_mul hx hl) (by decide)
  exact ⟨.ref s.heap.objs.size,_,I.laid (t':=s.toks) (fun b o e=>Heap.get?_push_of_some _ e) (Nat.le_refl _) (show ObjOk X.prog X.w _ _ _ (.tup (List.replicate k.toNat xs).flatten) from ⟨hzz,_,vals_rep rv k.toNat,IsTup.new _ _⟩),rfl,q _ (I.hok.fresh (Nat.le_refl _))⟩
end
end L2
set_option Elab.async false
set_option linter.all false
set_option maxRecDepth 100000
namespace L2
open PySem PySem.Spec PyProof.Rows
theorem log_of_lt {n:Nat} (h:n < 2 ^ 1900):n.log2 < 1900:=by
  by_cases h0:n=0
  · rw [h0]; decide
  · exact (Nat.log2_lt h0).mpr h
theorem shown_int_len {i:Int} (h:i.natAbs < 2 ^ 1900):(PyData.int i).shown.length≤1901:=by
  have e:=int_text_length_le (k:=1900) (by decide) (log_of_lt h)
  have q:(Str.ofString (toString i)).length≤1901:=by rw [PySem.ofString_length]; exact e
  simpa [PyData.shown] using q
theorem shownAll_ints:∀ (ns:List Int),(∀ n∈ns,n.natAbs < 2 ^ 1900)→((PyData.shownAll (ns.map PyData.int)).map (·.length)).sum≤ns.length * 1901∧(PyData.shownAll (ns.map PyData.int)).length=ns.length
  | [],_=>⟨by simp [PyData.shownAll],rfl⟩
  | n::r,h=>by
    obtain ⟨h1,h2⟩:=shownAll_ints r fun x hx=>h x (List.mem_cons_of_mem _ hx)
    have h3:=shown_int_len (h n List.mem_cons_self)
    rw [List.map_cons,PyData.shownAll,List.map_cons,List.sum_cons,List.length_cons,List.length_cons,h2,Nat.succ_mul]
    exact ⟨by omega,rfl⟩
theorem showableAll_ints:∀ (ns:List Int),(∀ n∈ns,n.natAbs < 2 ^ 1900)→PyData.showableAll (ns.map PyData.int)=true
  | [],_=>rfl
  | n::r,h=>by
    rw [List.map_cons,PyData.showableAll,showableAll_ints r fun x hx=>h x (List.mem_cons_of_mem _ hx),Bool.and_true]
    have q:=log_of_lt (h n List.mem_cons_self)
    simp only [PyData.showable,decide_eq_true_eq]
    omega
noncomputable def rangeI (lo:Int) (n:Nat):List Int:=(List.range n).map fun (k:Nat)=>lo+(k:Int)
theorem rangeV_eq (lo:Int) (n:Nat):rangeV lo n=(rangeI lo n).map V.int:=by
  unfold rangeV rangeI
  rw [List.map_map]
  rfl
theorem rangeI_length (lo:Int) (n:Nat):(rangeI lo n).length=n:=by
  unfold rangeI
  rw [List.length_map,List.length_range]
theorem rangeI_mem {lo x:Int} {n:Nat} (h:x∈rangeI lo n):lo≤x∧x < lo+n:=by
  unfold rangeI at h
  obtain ⟨k,hk,rfl⟩:=List.mem_map.mp h
  have:=List.mem_range.mp hk
  omega
end L2
set_option Elab.async false
set_option linter.all false
set_option maxRecDepth 100000
namespace L2
open PySem PySem.Spec PyProof.Rows
noncomputable def CMulG (i j:Int):Prop:=i.natAbs < 2 ^ 8000∧j.natAbs < 2 ^ 8000
noncomputable def CDivG (i j:Int):Prop:=j≠0∧j.natAbs < 2 ^ 8000
theorem bits_le {x:Int} (h:x.natAbs < 2 ^ 8000):Builtin.Int.intBits x≤8000:=by
  unfold Builtin.Int.intBits
  split
  · exact Nat.zero_le _
  · rename_i hx
    have h0:x.natAbs≠0:=by
      intro z
      have e:x=0:=Int.natAbs_eq_zero.mp z
      rw [e] at hx
      exact hx rfl
    exact (Nat.log2_lt h0).mpr h
theorem CMulG.ok {i j:Int} (h:CMulG i j):IntMulOk i j:=by
  have h1:=bits_le h.1
  have h2:=bits_le h.2
  unfold IntMulOk
  have e:Builtin.Int.intTooBig ((Builtin.Int.intBits i+Builtin.Int.intBits j:Nat):Int)=false:=by
    unfold Builtin.Int.intTooBig
    refine decide_eq_false ?_
    have hb:((16000:Nat):Int)≤(bitsLine:Int):=by decide
    omega
  intro z
  rw [Bool.and_eq_true] at z
  have z2:Builtin.Int.intTooBig ((Builtin.Int.intBits i+Builtin.Int.intBits j:Nat):Int)=true:=z.2
  rw [e] at z2
  cases z2
section
variable {X:Cx}
theorem op_mulG:OpR X (binaryOp .Mult) (rI CMulG fun i j=>.int (i * j)):=opI fun _ _ _ _ _ _ _ hc q=>mul_int q hc.ok
theorem op_fdivG:OpR X (binaryOp .FloorDiv) (rI CDivG fun i j=>.int (i.fdiv j)):=opI fun i j _ _ _ _ _ hc q=>by
  refine floordiv_int hc.1 q (.inl (PyProof.noPylong_of_log2 ?_))
  by_cases h0:j.natAbs=0
  · exact absurd (Int.natAbs_eq_zero.mp h0) hc.1
  · exact Nat.lt_trans ((Nat.log2_lt h0).mpr hc.2) (by decide)
theorem op_isB:OpR X (compareOp .Is) (fun x y H Q=>∃ a b,x=.bl a∧y=.bl b∧Q (.bl (a == b)) H):=by
  intro pins s σ H x y v u Q I rx ry h
  obtain ⟨a,b,rfl,rfl,q⟩:=h
  cases rx
  cases ry
  refine wpAny_is_plain rfl ⟨.bl (a == b),H,I,?_,q⟩
  cases a <;> cases b <;> rfl
theorem call_isi:CallR X (.builtin "isinstance") (fun xs H Q=>∃ x T t b,xs=[x,.ty T]∧TyOf X.K H x t∧PySem.W.kitOne X.K t (.type T)=some b∧Q (.bl b) H):=by
  intro pins s σ H xs us Q I r h
  obtain ⟨x,T,t,b,rfl,ty,e,q⟩:=h
  obtain ⟨u,c,rfl,ru,rc⟩:=vals2 r
  cases rc
  exact isinst_ok I ru ty e fun tk=>⟨.bl b,H,I.tok tk,rfl,q⟩
end
end L2
set_option Elab.async false
set_option linter.all false
set_option maxRecDepth 100000
namespace Gc
noncomputable def gcdI (a b:Int):Int:=((Nat.gcd a.natAbs b.natAbs:Nat):Int)
noncomputable def den (t b:Int):Int:=if b < 0 then -gcdI t b else gcdI t b
noncomputable def lowT (t b:Int):Int:=t.fdiv (den t b)
noncomputable def lowB (t b:Int):Int:=b.fdiv (den t b)
theorem gcd_pos {t b:Int} (h:b≠0):0 < Nat.gcd t.natAbs b.natAbs:=Nat.gcd_pos_of_pos_right _ (by omega)
theorem den_ne {t b:Int} (h:b≠0):den t b≠0:=by
  have:=gcd_pos (t:=t) h
  unfold den gcdI
  split <;> omega
theorem den_abs (t b:Int):(den t b).natAbs=Nat.gcd t.natAbs b.natAbs:=by
  unfold den gcdI
  split <;> omega
theorem low_spec {t b:Int} (h:b≠0):t=den t b * lowT t b∧b=den t b * lowB t b∧0 < lowB t b∧Nat.gcd (lowT t b).natAbs (lowB t b).natAbs=1:=by
  have hd:=den_ne (t:=t) h
  have ha:=den_abs t b
  have hg:=gcd_pos (t:=t) h
  have d1:den t b ∣ t:=Int.natAbs_dvd_natAbs.mp (by rw [ha]; exact Nat.gcd_dvd_left _ _)
  have d2:den t b ∣ b:=Int.natAbs_dvd_natAbs.mp (by rw [ha]; exact Nat.gcd_dvd_right _ _)
  obtain ⟨x,hx⟩:=d1
  obtain ⟨y,hy⟩:=d2
  have e1:lowT t b=x:=by
    show t.fdiv (den t b)=x
    generalize den t b=d at hd hx
    rw [hx]
    exact Int.mul_fdiv_cancel_left _ hd
  have e2:lowB t b=y:=by
    show b.fdiv (den t b)=y
    generalize den t b=d at hd hy
    rw [hy]
    exact Int.mul_fdiv_cancel_left _ hd
  rw [e1,e2]
  refine ⟨hx,hy,?_,?_⟩
  · have hb:(0 < b∧0 < den t b)∨(b < 0∧den t b < 0):=by
      unfold den gcdI
      split <;> omega
    rcases hb with ⟨p,q⟩ | ⟨p,q⟩
    · rcases (show 0 < y∨y≤0 by omega) with z | z
      · exact z
      · exfalso
        have:=Int.mul_nonneg (Int.le_of_lt q) (show 0≤-y by omega)
        rw [Int.mul_neg,← hy] at this
        omega
    · rcases (show 0 < y∨y≤0 by omega) with z | z
      · exact z
      · exfalso
        have:=Int.mul_nonneg (show 0≤-den t b by omega) (show 0≤-y by omega)
        rw [Int.neg_mul_neg,← hy] at this
        omega
  · have h1:t.natAbs=Nat.gcd t.natAbs b.natAbs * x.natAbs:=by
      have:=congrArg Int.natAbs hx
      rw [Int.natAbs_mul,ha] at this
      exact this
    have h2:b.natAbs=Nat.gcd t.natAbs b.natAbs * y.natAbs:=by
      have:=congrArg Int.natAbs hy
      rw [Int.natAbs_mul,ha] at this
      exact this
    have h3:Nat.gcd t.natAbs b.natAbs=Nat.gcd t.natAbs b.natAbs * Nat.gcd x.natAbs y.natAbs:=by
      rw [← Nat.gcd_mul_left,← h1,← h2]
    have h4:Nat.gcd t.natAbs b.natAbs * 1=Nat.gcd t.natAbs b.natAbs * Nat.gcd x.natAbs y.natAbs:=by rw [Nat.mul_one]; exact h3
    exact (Nat.eq_of_mul_eq_mul_left hg h4).symm
theorem low_le {t b:Int} (h:b≠0):(lowT t b).natAbs≤t.natAbs∧(lowB t b).natAbs≤b.natAbs:=by
  obtain ⟨h1,h2,_,_⟩:=low_spec (t:=t) h
  have hg:=gcd_pos (t:=t) h
  have ha:=den_abs t b
  constructor
  · have e:=congrArg Int.natAbs h1
    rw [Int.natAbs_mul,ha] at e
    rw [e]
    exact Nat.le_mul_of_pos_left _ hg
  · have e:=congrArg Int.natAbs h2
    rw [Int.natAbs_mul,ha] at e
    rw [e]
    exact Nat.le_mul_of_pos_left _ hg
theorem low_same {t b u c:Int} (hb:0 < b) (hc:0 < c) (g1:Nat.gcd t.natAbs b.natAbs=1) (g2:Nat.gcd u.natAbs c.natAbs=1) (h:t * c=u * b):t=u∧b=c:=by
  have k1:b.natAbs ∣ c.natAbs:=by
    have d:b.natAbs ∣ t.natAbs * c.natAbs:=⟨u.natAbs,by rw [← Int.natAbs_mul,h,Int.natAbs_mul,Nat.mul_comm]⟩
    exact Nat.Coprime.dvd_of_dvd_mul_left (show Nat.Coprime b.natAbs t.natAbs by unfold Nat.Coprime; rw [Nat.gcd_comm]; exact g1) d
  have k2:c.natAbs ∣ b.natAbs:=by
    have d:c.natAbs ∣ u.natAbs * b.natAbs:=⟨t.natAbs,by rw [← Int.natAbs_mul,← h,Int.natAbs_mul,Nat.mul_comm]⟩
    exact Nat.Coprime.dvd_of_dvd_mul_left (show Nat.Coprime c.natAbs u.natAbs by unfold Nat.Coprime; rw [Nat.gcd_comm]; exact g2) d
  have e:b=c:=by
    have:=Nat.dvd_antisymm k1 k2
    omega
  subst e
  exact ⟨Int.eq_of_mul_eq_mul_right (by omega) h,rfl⟩
theorem low_of_low {t b:Int} (hb:0 < b) (g:Nat.gcd t.natAbs b.natAbs=1):lowT t b=t∧lowB t b=b:=by
  have e:den t b=1:=by
    unfold den gcdI
    rw [if_neg (by omega),g]
    rfl
  unfold lowT lowB
  rw [e]
  exact ⟨Int.fdiv_one _,Int.fdiv_one _⟩
end Gc
set_option Elab.async false
set_option linter.all false
set_option maxRecDepth 100000
namespace L2
open PySem PySem.Spec PyProof.Rows
end L2
set_option Elab.async false
set_option linter.all false
set_option maxRecDepth 100000
namespace L2
open PySem PySem.Spec PyProof.Rows
end L2
set_option Elab.async false
set_option linter.all false
set_option maxRecDepth 100000
namespace L2
open PySem PySem.Spec PyProof.Rows
inductive Tr (α:Type) where
  | ret (a:α)
  | draw (n:Int) (k:Int→Tr α)
  | fail
namespace Tr
variable {α β γ:Type}
noncomputable def bind:Tr α→(α→Tr β)→Tr β
  | .ret a,f=>f a
  | .draw n k,f=>.draw n fun r=>(k r).bind f
  | .fail,_=>.fail
@[simp] theorem ret_bind (a:α) (f:α→Tr β):(Tr.ret a).bind f=f a:=rfl
@[simp] theorem draw_bind (n:Int) (k:Int→Tr α) (f:α→Tr β):(Tr.draw n k).bind f=.draw n fun r=>(k r).bind f:=rfl
@[simp] theorem fail_bind (f:α→Tr β):(Tr.fail:Tr α).bind f=.fail:=rfl
@[simp] theorem bind_assoc:∀ (t:Tr α) (f:α→Tr β) (g:β→Tr γ),(t.bind f).bind g=t.bind fun a=>(f a).bind g
  | .ret a,f,g=>rfl
  | .draw n k,f,g=>by simp only [draw_bind]; congr 1; funext r; exact bind_assoc (k r) f g
  | .fail,f,g=>rfl
noncomputable def of:Option α→Tr α
  | some a=>.ret a
  | none=>.fail
@[simp] theorem of_some (a:α):Tr.of (some a)=.ret a:=rfl
@[simp] theorem of_none:Tr.of (none:Option α)=.fail:=rfl
noncomputable def ok:Tr α→Nat→(Nat→α→Prop)→Prop
  | .ret a,m,Q=>Q m a
  | .draw n k,m,Q=>m < 400000∧0 < n∧n < 1073741824∧∀ r,0≤r→r < n→(k r).ok (m+1) Q
  | .fail,_,_=>False
theorem ok_mono:∀ {t:Tr α} {m:Nat} {Q Q':Nat→α→Prop},t.ok m Q→(∀ m a,Q m a→Q' m a)→t.ok m Q'
  | .ret a,m,_,_,h,hq=>hq m a h
  | .draw n k,m,_,_,⟨h1,h2,h3,h⟩,hq=>⟨h1,h2,h3,fun r h0 h1=>ok_mono (h r h0 h1) hq⟩
theorem ok_bind:∀ {t:Tr α} {f:α→Tr β} {m:Nat} {Q:Nat→β→Prop},(t.bind f).ok m Q ↔ t.ok m fun m' a=>(f a).ok m' Q
  | .ret a,f,m,Q=>Iff.rfl
  | .draw n k,f,m,Q=>by
    show (_∧_∧_∧∀ r,_) ↔ (_∧_∧_∧∀ r,_)
    refine and_congr_right fun _=>and_congr_right fun _=>and_congr_right fun _=>forall_congr' fun r=>forall_congr' fun _=>forall_congr' fun _=>ok_bind
  | .fail,f,m,Q=>Iff.rfl
theorem ok_of {o:Option α} {m:Nat} {Q:Nat→α→Prop} (h:(Tr.of o).ok m Q):∃ a,o=some a∧Q m a:=by
  cases o with
  | none=>exact h.elim
  | some a=>exact ⟨a,rfl,h⟩
noncomputable def all:Tr α→Nat→(α→Prop)→Prop
  | .ret a,_,P=>P a
  | .draw w k,n+1,P=>0 < w∧w < 1073741824∧∀ r,0≤r→r < w→(k r).all n P
  | .draw _ _,0,_=>False
  | .fail,_,_=>False
theorem all_ok:∀ {t:Tr α} {n m:Nat} {P:α→Prop},t.all n P→m+n≤400000→t.ok m fun m' a=>m'≤m+n∧P a
  | .ret a,n,m,P,h,hm=>⟨by omega,h⟩
  | .draw w k,n+1,m,P,⟨h1,h2,h⟩,hm=>⟨by omega,h1,h2,fun r a b=>ok_mono (all_ok (h r a b) (by omega)) fun m' x hz0=>by
    obtain ⟨p,q⟩:=hz0
    exact ⟨by omega,q⟩⟩
theorem all_mono:∀ {t:Tr α} {n n':Nat} {P P':α→Prop},t.all n P→n≤n'→(∀ a,P a→P' a)→t.all n' P'
  | .ret a,n,n',P,P',h,hn,hp=>hp a h
  | .draw w k,n+1,n'+1,P,P',⟨h1,h2,h⟩,hn,hp=>⟨h1,h2,fun r a b=>all_mono (h r a b) (by omega) hp⟩
  | .draw w k,n+1,0,P,P',h,hn,hp=>by omega
theorem all_bind:∀ {t:Tr α} {f:α→Tr β} {n n':Nat} {P:α→Prop} {P':β→Prop},t.all n P→(∀ a,P a→(f a).all n' P')→(t.bind f).all (n+n') P'
  | .ret a,f,n,n',P,P',h,hf=>all_mono (hf a h) (by omega) fun _ x=>x
  | .draw w k,f,n+1,n',P,P',⟨h1,h2,h⟩,hf=>by
    have e:n+1+n'=(n+n')+1:=by omega
    rw [e]
    exact ⟨h1,h2,fun r a b=>all_bind (h r a b) hf⟩
end Tr
noncomputable abbrev Sub (G H:Hp):Prop:=∀ b o,G b=some o→H b=some o
structure Pk where
  is:HO→Hp→Nat→Prop
  mono:∀ {o:HO} {G G':Hp} {m:Nat},Sub G G'→is o G m→is o G' m
structure Wd (PK:Pk) (pa:Addr) (m:Nat) (G H:Hp):Prop where
  sub:Sub G H
  gpa:G pa=none
  pen:∃ o,H pa=some o∧PK.is o G m
structure Stp (pa:Addr) (G H G' H':Hp):Prop where
  gs:Sub G G'
  gn:∀ b o,G' b=some o→G b=some o∨H b=none
  hk:∀ b o,H b=some o→b≠pa→H' b=some o
theorem Stp.refl {pa:Addr} {G H:Hp}:Stp pa G H G H:=⟨fun _ _ h=>h,fun _ _ h=>.inl h,fun _ _ h _=>h⟩
theorem Stp.trans {pa:Addr} {G H G1 H1 G2 H2:Hp} (a:Stp pa G H G1 H1) (b:Stp pa G1 H1 G2 H2) (hp:∃ o,H1 pa=some o):Stp pa G H G2 H2:=by
  refine ⟨fun c o h=>b.gs c o (a.gs c o h),fun c o h=>?_,fun c o h n=>b.hk c o (a.hk c o h n) n⟩
  rcases b.gn c o h with z | z
  · exact a.gn c o z
  · refine .inr ?_
    cases e:H c with
    | none=>rfl
    | some u =>
      by_cases hc:c=pa
      · subst hc
        obtain ⟨o',z'⟩:=hp
        rw [z'] at z; cases z
      · rw [a.hk c u e hc] at z; cases z
section
variable {PK:Pk} {pa:Addr} {m:Nat} {G H:Hp}
theorem Wd.some (w:Wd PK pa m G H):∃ o,H pa=some o:=let ⟨o,h,_⟩:=w.pen; ⟨o,h⟩
theorem Wd.ne (w:Wd PK pa m G H) {p:Addr} (hp:H p=none):pa≠p:=fun e=>by
  obtain ⟨o,h⟩:=w.some
  rw [e,hp] at h; cases h
theorem Sub.new {p:Addr} {o:HO} (hp:G p=none):Sub G (upd G p o):=fun b u h=>by rw [upd_ne (ne_of_none h hp)]; exact h
theorem Wd.gnone (w:Wd PK pa m G H) {p:Addr} (hp:H p=none):G p=none:=by
  cases e:G p with
  | none=>rfl
  | some o=>rw [w.sub p o e] at hp; cases hp
theorem Sub.upd2 {p:Addr} {o:HO} (s:Sub G H):Sub (upd G p o) (upd H p o):=fun b u h=>by
  by_cases e:b=p
  · subst e; rw [upd_same] at h ⊢; exact h
  · rw [upd_ne e] at h ⊢; exact s b u h
theorem Wd.new (w:Wd PK pa m G H) {p:Addr} {o:HO} (hp:H p=none):Wd PK pa m (upd G p o) (upd H p o)∧Stp pa G H (upd G p o) (upd H p o):=by
  have hg:=w.gnone hp
  have hne:=w.ne hp
  refine ⟨⟨w.sub.upd2,by rw [upd_ne hne]; exact w.gpa,?_⟩,⟨Sub.new hg,fun b u h=>?_,fun b u h _=>by rw [upd_ne (ne_of_none h hp)]; exact h⟩⟩
  · obtain ⟨u,h,q⟩:=w.pen
    exact ⟨u,by rw [upd_ne hne]; exact h,PK.mono (Sub.new hg) q⟩
  · by_cases e:b=p
    · subst e; exact .inr hp
    · rw [upd_ne e] at h; exact .inl h
theorem Wd.own (w:Wd PK pa m G H) {p:Addr} {o:HO} (hp:H p=none):Wd PK pa m G (upd H p o)∧Stp pa G H G (upd H p o):=by
  have hne:=w.ne hp
  refine ⟨⟨fun b u h=>by rw [upd_ne (ne_of_none (w.sub b u h) hp)]; exact w.sub b u h,w.gpa,?_⟩,⟨fun _ _ h=>h,fun _ _ h=>.inl h,fun b u h _=>by rw [upd_ne (ne_of_none h hp)]; exact h⟩⟩
  obtain ⟨u,h,q⟩:=w.pen
  exact ⟨u,by rw [upd_ne hne]; exact h,q⟩
theorem Wd.freeze (w:Wd PK pa m G H) {p:Addr} {o:HO} (hp:H p=Option.some o) (hg:G p=none) (hne:pa≠p):Wd PK pa m (upd G p o) H:=by
  refine ⟨fun b u h=>?_,by rw [upd_ne hne]; exact w.gpa,?_⟩
  · by_cases e:b=p
    · subst e; rw [upd_same] at h; rw [hp]; exact h
    · rw [upd_ne e] at h; exact w.sub b u h
  · obtain ⟨u,h,q⟩:=w.pen
    exact ⟨u,h,PK.mono (Sub.new hg) q⟩

noncomputable def Kn (PK:Pk) (pa:Addr) (m:Nat) (G H:Hp) (x:PyData) (Q:VK):Prop:=∀ v G' H',Stp pa G H G' H'→Wd PK pa m G' H'→Dn G' v x→Q v H'
variable {x:PyData} {Q:VK} {v:V} {vs:List V} {ds:List PyData} {p:Addr}
theorem Kn.here (k:Kn PK pa m G H x Q) (w:Wd PK pa m G H) (d:Dn G v x):Q v H:=k v G H .refl w d
theorem Kn.tup (k:Kn PK pa m G H (.tuple ds) Q) (w:Wd PK pa m G H) (d:DnAll G vs ds) (hp:H p=none):Q (.ref p) (upd H p (.tup vs)):=by
  obtain ⟨w1,s1⟩:=w.new (o:=.tup vs) hp
  exact k _ _ _ s1 w1 (.tup upd_same (DnAll.mono s1.gs d))
theorem Kn.lst (k:Kn PK pa m G H (.list ds) Q) (w:Wd PK pa m G H) (d:DnAll G vs ds) (hp:H p=none):Q (.ref p) (upd H p (.lst vs)):=by
  obtain ⟨w1,s1⟩:=w.new (o:=.lst vs) hp
  exact k _ _ _ s1 w1 (.lst upd_same (DnAll.mono s1.gs d))
theorem Kn.later {G1 H1:Hp} (k:Kn PK pa m G H x Q) (s:Stp pa G H G1 H1) (hp:∃ o,H1 pa=Option.some o):Kn PK pa m G1 H1 x Q:=fun v G' H' s' w d=>k v G' H' (s.trans s' hp) w d
end
inductive Sl where
  | un | d (x:PyData) | own (xs:List PyData) | pen
inductive SlOk (pa:Addr) (H₀ G H:Hp):Option V→Sl→Prop
  | un {o:Option V}:SlOk pa H₀ G H o .un
  | d {v:V} {x:PyData}:Dn G v x→SlOk pa H₀ G H (some v) (.d x)
  | own {p:Addr} {vs:List V} {xs:List PyData}:H p=some (.lst vs)→G p=none→H₀ p=none→DnAll G vs xs→SlOk pa H₀ G H (some (.ref p)) (.own xs)
  | pen:SlOk pa H₀ G H (some (.ref pa)) .pen
structure Rl (PK:Pk) (pa:Addr) (G₀ H₀:Hp) (m:Nat) (σ:St) (ρ:List Sl) (G H:Hp):Prop where
  wd:Wd PK pa m G H
  st:Stp pa G₀ H₀ G H
  p0:∃ o,H₀ pa=some o
  sl:∀ (i:Nat) (s:Sl),ρ[i]?=some s→∃ o,σ[i]?=some o∧SlOk pa H₀ G H o s
  len:ρ.length=σ.length
  dj:∀ (i j:Nat) (xs ys:List PyData),i≠j→ρ[i]?=some (.own xs)→ρ[j]?=some (.own ys)→σ[i]?≠σ[j]?
section
variable {PK:Pk} {pa:Addr} {G₀ H₀ G H:Hp} {m:Nat} {σ:St} {ρ:List Sl}
theorem SlOk.step {G' H':Hp} {o:Option V} {s:Sl} (k:SlOk pa H₀ G H o s) (hp0:∃ o,H₀ pa=some o) (st:Stp pa G H G' H'):SlOk pa H₀ G' H' o s:=by
  cases k with
  | un=>exact .un
  | d h=>exact .d (h.mono st.gs)
  | pen=>exact .pen
  | @own p vs xs h1 h2 h3 h4 =>
    have hne:p≠pa:=fun e=>by
      obtain ⟨u,hu⟩:=hp0
      rw [← e,h3] at hu; cases hu
    refine .own (st.hk _ _ h1 hne) ?_ h3 (DnAll.mono st.gs h4)
    cases e:G' p with
    | none=>rfl
    | some u =>
      rcases st.gn p u e with z | z
      · rw [h2] at z; cases z
      · rw [h1] at z; cases z
theorem Rl.step {G' H':Hp} {m':Nat} (r:Rl PK pa G₀ H₀ m σ ρ G H) (s:Stp pa G H G' H') (w:Wd PK pa m' G' H'):Rl PK pa G₀ H₀ m' σ ρ G' H' :=
  ⟨w,r.st.trans s r.wd.some,r.p0,fun i sl h=>let ⟨o,h1,h2⟩:=r.sl i sl h; ⟨o,h1,h2.step r.p0 s⟩,r.len,r.dj⟩
theorem Rl.set (r:Rl PK pa G₀ H₀ m σ ρ G H) {v:V} {x:PyData} (d:Dn G v x) (k:Nat):Rl PK pa G₀ H₀ m (σ.set k (some v)) (ρ.set k (.d x)) G H:=by
  refine ⟨r.wd,r.st,r.p0,fun i s h=>?_,by rw [List.length_set,List.length_set]; exact r.len,fun i j xs ys hij h1 h2=>?_⟩
  · by_cases e:k=i
    · subst e
      have hl:k < ρ.length:=by
        have:=(List.getElem?_eq_some_iff.mp h).1
        rwa [List.length_set] at this
      rw [List.getElem?_set_self hl] at h
      cases h
      exact ⟨_,List.getElem?_set_self (by rw [← r.len]; exact hl),.d d⟩
    · rw [List.getElem?_set_ne e] at h ⊢
      exact r.sl i s h
  · have hi:k≠i:=fun e=>by
      subst e
      have hl:k < ρ.length:=by
        have:=(List.getElem?_eq_some_iff.mp h1).1
        rwa [List.length_set] at this
      rw [List.getElem?_set_self hl] at h1; cases h1
    have hj:k≠j:=fun e=>by
      subst e
      have hl:k < ρ.length:=by
        have:=(List.getElem?_eq_some_iff.mp h2).1
        rwa [List.length_set] at this
      rw [List.getElem?_set_self hl] at h2; cases h2
    rw [List.getElem?_set_ne hi] at h1 ⊢
    rw [List.getElem?_set_ne hj] at h2 ⊢
    exact r.dj i j xs ys hij h1 h2
theorem Rl.setO (r:Rl PK pa G₀ H₀ m σ ρ G H) {p:Addr} {vs:List V} {xs:List PyData} (h1:H p=some (.lst vs)) (h2:G p=none) (h3:H₀ p=none) (h4:DnAll G vs xs)
    (hd:∀ (i:Nat) (ys:List PyData),ρ[i]?=some (.own ys)→σ[i]?≠some (some (.ref p))) (k:Nat):Rl PK pa G₀ H₀ m (σ.set k (some (.ref p))) (ρ.set k (.own xs)) G H:=by
  have up:∀ {i:Nat} {s:Sl},(ρ.set k (.own xs))[i]?=some s→i=k→s=.own xs∧(σ.set k (some (V.ref p)))[i]?=some (some (.ref p)):=fun {i s} h e=>by
    subst e
    have hl:i < ρ.length:=by
      have:=(List.getElem?_eq_some_iff.mp h).1
      rwa [List.length_set] at this
    rw [List.getElem?_set_self hl] at h
    cases h
    exact ⟨rfl,List.getElem?_set_self (by rw [← r.len]; exact hl)⟩
  refine ⟨r.wd,r.st,r.p0,fun i s h=>?_,by rw [List.length_set,List.length_set]; exact r.len,fun i j ys zs hij e1 e2=>?_⟩
  · by_cases e:i=k
    · obtain ⟨e1,e2⟩:=up h e
      subst e1
      exact ⟨_,e2,.own h1 h2 h3 h4⟩
    · rw [List.getElem?_set_ne (Ne.symm e)] at h ⊢
      exact r.sl i s h
  · by_cases ei:i=k
    · have q:=(up e1 ei).2
      have hj:k≠j:=fun e=>hij (ei.trans e)
      rw [q]
      rw [List.getElem?_set_ne hj] at e2 ⊢
      exact fun z=>hd j zs e2 z.symm
    · rw [List.getElem?_set_ne (Ne.symm ei)] at e1 ⊢
      by_cases ej:j=k
      · rw [(up e2 ej).2]
        exact hd i ys e1
      · rw [List.getElem?_set_ne (Ne.symm ej)] at e2 ⊢
        exact r.dj i j ys zs hij e1 e2
theorem Rl.h0 (r:Rl PK pa G₀ H₀ m σ ρ G H) {p:Addr} (hp:H p=none):H₀ p=none:=by
  cases e:H₀ p with
  | none=>rfl
  | some u =>
    by_cases hc:p=pa
    · subst hc
      obtain ⟨o,h⟩:=r.wd.some
      rw [hp] at h; cases h
    · rw [r.st.hk p u e hc] at hp; cases hp
theorem Rl.apart (r:Rl PK pa G₀ H₀ m σ ρ G H) {p:Addr} (hp:H p=none) (i:Nat) (ys:List PyData) (h:ρ[i]?=some (.own ys)):σ[i]?≠some (some (.ref p)):=fun e=>by
  obtain ⟨o,h1,h2⟩:=r.sl i _ h
  rw [e] at h1
  cases h1
  cases h2 with
  | own a _ _ _=>rw [hp] at a; cases a
theorem Rl.change (r:Rl PK pa G₀ H₀ m σ ρ G H) {k:Nat} {xs ys:List PyData} {p:Addr} {ws:List V} (hk:ρ[k]?=some (.own xs)) (hσ:σ[k]?=some (some (.ref p))) (d:DnAll G ws ys) :
    Rl PK pa G₀ H₀ m σ (ρ.set k (.own ys)) G (upd H p (.lst ws)):=by
  obtain ⟨o,h1,h2⟩:=r.sl k _ hk
  rw [hσ] at h1
  cases h1
  cases h2 with
  | @own _ vs _ a1 a2 a3 a4 =>
    have hne:pa≠p:=fun e=>by
      obtain ⟨u,hu⟩:=r.p0
      rw [e,a3] at hu; cases hu
    have hl:k < ρ.length:=(List.getElem?_eq_some_iff.mp hk).1
    refine ⟨⟨fun b o h=>?_,r.wd.gpa,?_⟩,⟨r.st.gs,r.st.gn,fun b o h hb=>?_⟩,r.p0,fun i s h=>?_,by rw [List.length_set]; exact r.len,fun i j us ws hij e1 e2=>?_⟩
    · rw [upd_ne (fun e=>by subst e; rw [a2] at h; cases h)]
      exact r.wd.sub b o h
    · obtain ⟨u,h,q⟩:=r.wd.pen
      exact ⟨u,by rw [upd_ne hne]; exact h,q⟩
    · rw [upd_ne (fun e=>by subst e; rw [a3] at h; cases h)]
      exact r.st.hk b o h hb
    · by_cases e:k=i
      · subst e
        rw [List.getElem?_set_self hl] at h
        cases h
        exact ⟨_,hσ,.own upd_same a2 a3 d⟩
      · rw [List.getElem?_set_ne e] at h
        obtain ⟨o,q1,q2⟩:=r.sl i s h
        refine ⟨o,q1,?_⟩
        cases q2 with
        | un=>exact .un
        | d z=>exact .d z
        | pen=>exact .pen
        | own b1 b2 b3 b4 =>
          refine .own ?_ b2 b3 b4
          rw [upd_ne]
          · exact b1
          · intro e2
            subst e2
            exact r.dj k i _ _ e hk h (by rw [hσ,q1])
    · by_cases ei:k=i
      · subst ei
        rw [List.getElem?_set_ne hij] at e2
        exact r.dj k j _ _ hij hk e2
      · rw [List.getElem?_set_ne ei] at e1
        by_cases ej:k=j
        · subst ej
          exact r.dj i k _ _ hij e1 hk
        · rw [List.getElem?_set_ne ej] at e2
          exact r.dj i j _ _ hij e1 e2
noncomputable def fz (k:Nat) (ρ:List Sl):List Sl:=match ρ[k]? with
  | some (.own xs)=>ρ.set k (.d (.list xs))
  | _=>ρ
theorem Rl.freeze (r:Rl PK pa G₀ H₀ m σ ρ G H) (k:Nat):∃ G',Sub G G'∧Rl PK pa G₀ H₀ m σ (fz k ρ) G' H:=by
  unfold fz
  split
  · rename_i xs hk
    obtain ⟨o,h1,h2⟩:=r.sl k _ hk
    cases h2 with
    | @own p vs _ a1 a2 a3 a4 =>
      have hne:pa≠p:=fun e=>by
        obtain ⟨u,hu⟩:=r.p0
        rw [e,a3] at hu; cases hu
      have hl:k < ρ.length:=(List.getElem?_eq_some_iff.mp hk).1
      have sb:Sub G (upd G p (.lst vs)):=Sub.new a2
      refine ⟨upd G p (.lst vs),sb,r.wd.freeze a1 a2 hne,⟨fun b o h=>sb b o (r.st.gs b o h),fun b o h=>?_,r.st.hk⟩,r.p0,fun i s h=>?_,by rw [List.length_set]; exact r.len,fun i j us ws hij e1 e2=>?_⟩
      · by_cases e:b=p
        · subst e; exact .inr a3
        · rw [upd_ne e] at h; exact r.st.gn b o h
      · by_cases e:k=i
        · subst e
          rw [List.getElem?_set_self hl] at h
          cases h
          exact ⟨_,h1,.d (.lst upd_same (DnAll.mono sb a4))⟩
        · rw [List.getElem?_set_ne e] at h
          obtain ⟨o,q1,q2⟩:=r.sl i s h
          refine ⟨o,q1,?_⟩
          cases q2 with
          | un=>exact .un
          | d z=>exact .d (z.mono sb)
          | pen=>exact .pen
          | own b1 b2 b3 b4 =>
            refine .own b1 ?_ b3 (DnAll.mono sb b4)
            rw [upd_ne]
            · exact b2
            · intro e2
              subst e2
              exact r.dj k i _ _ e hk h (by rw [h1,q1])
      · have hi:k≠i:=fun e=>by subst e; rw [List.getElem?_set_self hl] at e1; cases e1
        have hj:k≠j:=fun e=>by subst e; rw [List.getElem?_set_self hl] at e2; cases e2
        rw [List.getElem?_set_ne hi] at e1
        rw [List.getElem?_set_ne hj] at e2
        exact r.dj i j _ _ hij e1 e2
  · exact ⟨G,fun _ _ h=>h,r⟩
end
end L2
set_option Elab.async false
set_option linter.all false
set_option maxRecDepth 100000
namespace L2
open PySem PySem.Spec PyProof.Rows
noncomputable def TAe (PK:Pk) (i:List Sl→Tr PyData):TE:=fun σ H Q=>∃ pa G₀ H₀ m ρ G,Rl PK pa G₀ H₀ m σ ρ G H∧(i ρ).ok m fun m' x=>Kn PK pa m' G H x Q
noncomputable def TAt (PK:Pk) (i:List Sl→Tr Bool):TT:=fun σ H Q=>∃ pa G₀ H₀ m ρ G,Rl PK pa G₀ H₀ m σ ρ G H∧(i ρ).ok m fun m' b=>∀ G' H',Stp pa G H G' H'→Wd PK pa m' G' H'→Q b H'
noncomputable def TAd (PK:Pk) (i:List Sl→Tr (List PyData)):TA:=fun σ H Q=>∃ pa G₀ H₀ m ρ G,Rl PK pa G₀ H₀ m σ ρ G H∧(i ρ).ok m fun m' xs=>∀ vs G' H',Stp pa G H G' H'→Wd PK pa m' G' H'→DnAll G' vs xs→Q vs H'
noncomputable def Ko1 (PK:Pk) (pa:Addr) (m:Nat) (G H:Hp) (xs:List PyData) (Q:VK):Prop:=∀ p vs G' H',Stp pa G H G' H'→Wd PK pa m G' H'→H p=none→G' p=none→H' p=some (.lst vs)→DnAll G' vs xs→Q (.ref p) H'
noncomputable def TAo (PK:Pk) (i:List Sl→Tr (List PyData)):TE:=fun σ H Q=>∃ pa G₀ H₀ m ρ G,Rl PK pa G₀ H₀ m σ ρ G H∧(i ρ).ok m fun m' xs=>Ko1 PK pa m' G H xs Q
inductive ArOk (pa:Addr) (G:Hp):V→Sl→Prop
  | d {v:V} {x:PyData}:Dn G v x→ArOk pa G v (.d x)
  | pen:ArOk pa G (.ref pa) .pen
inductive ArsOk (pa:Addr) (G:Hp):List V→List Sl→Prop
  | nil:ArsOk pa G [] []
  | cons {v:V} {vs:List V} {s:Sl} {ss:List Sl}:ArOk pa G v s→ArsOk pa G vs ss→ArsOk pa G (v::vs) (s::ss)
theorem ArOk.mono {pa:Addr} {G G':Hp} {v:V} {s:Sl} (h:ArOk pa G v s) (e:Sub G G'):ArOk pa G' v s:=by
  cases h with
  | d z=>exact .d (z.mono e)
  | pen=>exact .pen
theorem ArsOk.mono {pa:Addr} {G G':Hp} (e:Sub G G') {vs:List V} {ss:List Sl} (h:ArsOk pa G vs ss):ArsOk pa G' vs ss:=by
  induction h with
  | nil=>exact .nil
  | cons h t ih=>exact .cons (h.mono e) ih
theorem ArsOk.length {pa:Addr} {G:Hp} {vs:List V} {ss:List Sl} (h:ArsOk pa G vs ss):vs.length=ss.length:=by
  induction h with
  | nil=>rfl
  | cons h t ih=>exact congrArg (·+1) ih
noncomputable def TAa (PK:Pk) (i:List Sl→Tr (List Sl)):TA:=fun σ H Q=>∃ pa G₀ H₀ m ρ G,Rl PK pa G₀ H₀ m σ ρ G H∧(i ρ).ok m fun m' as=>∀ vs G' H',Stp pa G H G' H'→Wd PK pa m' G' H'→ArsOk pa G' vs as→Q vs H'

inductive Re where
  | d (x:PyData) | own (xs:List PyData)
noncomputable def Re.val:Re→PyData
  | .d x=>x
  | .own xs=>.list xs
@[simp] theorem Re.val_d (x:PyData):(Re.d x).val=x:=rfl
@[simp] theorem Re.val_own (xs:List PyData):(Re.own xs).val=.list xs:=rfl
inductive Ou where
  | next (ρ:List Sl) | ret (r:Re) | brk (ρ:List Sl) | cont (ρ:List Sl)
noncomputable def ReOk (H₀ G H:Hp) (v:V):Re→Prop
  | .d x=>Dn G v x
  | .own xs=>∃ p vs,v=.ref p∧H p=some (.lst vs)∧G p=none∧H₀ p=none∧DnAll G vs xs
noncomputable def Kr (PK:Pk) (pa:Addr) (m:Nat) (G₀ H₀:Hp) (r:Re) (Q:VK):Prop:=∀ v G H,Stp pa G₀ H₀ G H→Wd PK pa m G H→ReOk H₀ G H v r→Q v H
noncomputable def Ko (PK:Pk) (pa:Addr) (G₀ H₀ Gs:Hp) (D:Ends) (m:Nat):Ou→Prop
  | .next ρ=>∀ σ G H,Sub Gs G→Rl PK pa G₀ H₀ m σ ρ G H→D.nx σ H
  | .ret r=>Kr PK pa m G₀ H₀ r D.rt
  | .brk ρ=>∀ σ G H,Sub Gs G→Rl PK pa G₀ H₀ m σ ρ G H→D.bk σ H
  | .cont ρ=>∀ σ G H,Sub Gs G→Rl PK pa G₀ H₀ m σ ρ G H→D.ct σ H
noncomputable def TAs (PK:Pk) (i:List Sl→Tr Ou):TS:=fun D σ H=>∃ pa G₀ H₀ m ρ G,Rl PK pa G₀ H₀ m σ ρ G H∧(i ρ).ok m (Ko PK pa G₀ H₀ G D)

theorem PE.imp {X:Cx} {e:Expr} {t t':TE} (h:PE X e t) (q:∀ σ H Q,t' σ H Q→t σ H Q):PE X e t':=fun pins s σ H Q I z=>h pins s σ H Q I (q σ H Q z)
theorem PT.imp {X:Cx} {e:Expr} {t t':TT} (h:PT X e t) (q:∀ σ H Q,t' σ H Q→t σ H Q):PT X e t':=fun pins s σ H Q I z=>h pins s σ H Q I (q σ H Q z)
theorem PW.imp {X:Cx} {e:Expr} {t t':TT} (h:PW X e t) (q:∀ σ H Q,t' σ H Q→t σ H Q):PW X e t':=fun wh pins s σ H Q I z=>h wh pins s σ H Q I (q σ H Q z)
theorem PA.imp {X:Cx} {e:List Expr} {t t':TA} (h:PA X e t) (q:∀ σ H Q,t' σ H Q→t σ H Q):PA X e t':=fun pos pins s σ H Q I z=>h pos pins s σ H Q I (q σ H Q z)
theorem PS.imp {X:Cx} {e:Stmt} {t t':TS} (h:PS X e t) (q:∀ D σ H,t' D σ H→t D σ H):PS X e t':=fun pins s σ H D I z=>h pins s σ H D I (q D σ H z)
theorem PSs.imp {X:Cx} {e:List Stmt} {t t':TS} (h:PSs X e t) (q:∀ D σ H,t' D σ H→t D σ H):PSs X e t':=fun pins s σ H D I z=>h pins s σ H D I (q D σ H z)

variable {PK:Pk} {X:Cx} {a b c e:Expr} {es:List Expr} {pos:Pos} {i j l:List Sl→Tr PyData}
theorem TAe.then {σ:St} {H:Hp} {β:Type} {k:PyData→Tr β} {Z:Nat→β→Prop} {Q:VK} {pa:Addr} {G₀ H₀ G:Hp} {m:Nat} {ρ:List Sl} (R:Rl PK pa G₀ H₀ m σ ρ G H) (h:((i ρ).bind k).ok m Z)
    (hq:∀ m1 x v G1 H1,Stp pa G H G1 H1→Wd PK pa m1 G1 H1→Rl PK pa G₀ H₀ m1 σ ρ G1 H1→Dn G1 v x→(k x).ok m1 Z→Q v H1):TAe PK i σ H Q:=by
  refine ⟨pa,G₀,H₀,m,ρ,G,R,Tr.ok_mono (Tr.ok_bind.mp h) fun m1 x hx v G1 H1 s1 w1 d1=>?_⟩
  exact hq m1 x v G1 H1 s1 w1 (R.step s1 w1) d1 hx

noncomputable def aVar (k:Nat):List Sl→Tr PyData:=fun ρ=>match ρ[k]? with
  | some (.d x)=>.ret x
  | _=>.fail
noncomputable def aC (d:PyData):List Sl→Tr PyData:=fun _=>.ret d
theorem ae_var {k:Nat} (h:PE X e (tVar k)):PE X e (TAe PK (aVar k)):=h.imp fun σ H Q hz0=>by
  obtain ⟨pa,G₀,H₀,m,ρ,G,R,q⟩:=hz0
  unfold aVar at q
  split at q
  · rename_i x hx
    obtain ⟨o,h1,h2⟩:=R.sl k _ hx
    cases h2 with
    | d z=>exact ⟨_,h1,Kn.here q R.wd z⟩
  · exact q.elim
theorem ae_c {v:V} {d:PyData} (h:PE X e (tC v)) (hd:∀ G,Dn G v d):PE X e (TAe PK (aC d)):=h.imp fun σ H Q hz0=>by
  obtain ⟨pa,G₀,H₀,m,ρ,G,R,q⟩:=hz0
  exact Kn.here q R.wd (hd G)
theorem ae_int {n:Int} {k pos}:PE X (.Constant (.int n) k pos) (TAe PK (aC (.int n))):=ae_c pe_int fun _=>.int n
theorem ae_bl {n:Bool} {k pos}:PE X (.Constant (.bool n) k pos) (TAe PK (aC (.bool n))):=ae_c pe_bl fun _=>.bl n
theorem ae_non {k pos}:PE X (.Constant .none k pos) (TAe PK (aC .none)):=ae_c pe_non fun _=>.non
theorem ae_gint {x:Str} {n:Int} (hg:Gl X x) (h:∃ t,X.mg x=some (.int n t)) (hd:(x == ("__debug__":Str))=false:=by decide):PE X (.Name x pos) (TAe PK (aC (.int n))):=ae_c (pe_gint hg h hd) fun _=>.int n

noncomputable def VOp2 (r:R2) (f:PyData→PyData→Option PyData):Prop:=∀ (PK:Pk) (pa:Addr) (m:Nat) (G H:Hp) (x y:V) (dx dy dz:PyData) (Q:VK),Wd PK pa m G H→Dn G x dx→Dn G y dy→f dx dy=some dz→Kn PK pa m G H dz Q→r x y H Q
noncomputable def aBin (f:PyData→PyData→Option PyData) (i j:List Sl→Tr PyData):List Sl→Tr PyData:=fun ρ=>(i ρ).bind fun x=>(j ρ).bind fun y=>Tr.of (f x y)
theorem aBin_read {r:R2} {f:PyData→PyData→Option PyData} (hv:VOp2 r f):∀ σ H Q,TAe PK (aBin f i j) σ H Q→tOp r (TAe PK i) (TAe PK j) σ H Q:=by
  rintro σ H Q ⟨pa,G₀,H₀,m,ρ,G,R,q⟩
  refine TAe.then R q fun m1 x v G1 H1 s1 w1 R1 d1 q1=>?_
  refine TAe.then R1 q1 fun m2 y u G2 H2 s2 w2 R2 d2 q2=>?_
  obtain ⟨z,hz,k⟩:=Tr.ok_of q2
  exact hv PK pa m2 G2 H2 v u x y z Q w2 (d1.mono s2.gs) d2 hz (Kn.later k (s1.trans s2 w1.some) w2.some)
theorem ae_op {op:Operator} {r:R2} {f:PyData→PyData→Option PyData} (ho:OpR X (binaryOp op) r) (hv:VOp2 r f) (ha:PE X a (TAe PK i)) (hb:PE X b (TAe PK j)):PE X (.BinOp a op b pos) (TAe PK (aBin f i j)) :=
  (pe_op ho ha hb).imp (aBin_read hv)
theorem ae_cmp {op:CmpOp} {r:R2} {f:PyData→PyData→Option PyData} (ho:OpR X (compareOp op) r) (hv:VOp2 r f) (ha:PE X a (TAe PK i)) (hb:PE X b (TAe PK j)) (hm:behindInMarks op b=false):PE X (.Compare a [op] [b] pos) (TAe PK (aBin f i j)) :=
  (pe_cmpR ho ha hb hm).imp (aBin_read hv)
theorem ae_ix {r:R2} {f:PyData→PyData→Option PyData} (hr:IxR X r) (hv:VOp2 r f) (ha:PE X a (TAe PK i)) (hb:PE X b (TAe PK j)) (hs:PlainIx b):PE X (.Subscript a b pos) (TAe PK (aBin f i j)) :=
  (pe_ix hr ha hb hs).imp (aBin_read hv)
noncomputable def toB:PyData→Option Bool
  | .bool b=>some b
  | _=>none
@[simp] theorem toB_bool (b:Bool):toB (.bool b)=some b:=rfl
noncomputable def aTest (i:List Sl→Tr PyData):List Sl→Tr Bool:=fun ρ=>(i ρ).bind fun x=>Tr.of (toB x)
theorem aTest_read:∀ σ H Q,TAt PK (aTest i) σ H Q→tTest (TAe PK i) σ H Q:=by
  rintro σ H Q ⟨pa,G₀,H₀,m,ρ,G,R,q⟩
  refine TAe.then R q fun m1 x v G1 H1 s1 w1 R1 d1 q1=>?_
  obtain ⟨b,hb,k⟩:=Tr.ok_of q1
  cases d1 <;> simp only [toB] at hb <;> cases hb
  exact ⟨_,rfl,k G1 H1 s1 w1⟩
theorem tTest_mono {t t':TE} (h:∀ σ H Q,t' σ H Q→t σ H Q):∀ σ H Q,tTest t' σ H Q→tTest t σ H Q:=fun σ H Q z=>h σ H _ z
theorem at_cmp {op:CmpOp} {r:R2} {f:PyData→PyData→Option PyData} (ho:OpR X (compareOp op) r) (hv:VOp2 r f) (ha:PE X a (TAe PK i)) (hb:PE X b (TAe PK j)) (hm:behindInMarks op b=false):PT X (.Compare a [op] [b] pos) (TAt PK (aTest (aBin f i j))) :=
  (pt_cmpR ho ha hb hm).imp fun σ H Q z=>tTest_mono (aBin_read hv) σ H Q (aTest_read σ H Q z)
noncomputable def truD:PyData→Option Bool
  | .bool b=>some b
  | .int n=>some (n != 0)
  | .none=>some false
  | .list xs=>some (!xs.isEmpty)
  | .tuple xs=>some (!xs.isEmpty)
  | _=>none
noncomputable def aTru (i:List Sl→Tr PyData):List Sl→Tr Bool:=fun ρ=>(i ρ).bind fun x=>Tr.of (truD x)
theorem DnAll.isEmpty {H:Hp} {vs:List V} {ds:List PyData} (h:DnAll H vs ds):vs.isEmpty=ds.isEmpty:=by
  cases h <;> rfl
theorem at_tru (h:PE X e (TAe PK i)) (he:∀ whole,isTrue e X.env whole=(do let v ← whole; standAt e.pos; holding [v] (truthy v)):=by intro _; rfl):PT X e (TAt PK (aTru i)):=(pt_truth h he).imp fun σ H Q hz0=>by
  obtain ⟨pa,G₀,H₀,m,ρ,G,R,q⟩:=hz0
  refine TAe.then R q fun m1 x v G1 H1 s1 w1 R1 d1 q1=>?_
  obtain ⟨b,hb,k⟩:=Tr.ok_of q1
  have fin:=k G1 H1 s1 w1
  cases d1 with
  | non=>cases hb; exact ⟨_,rfl,fin⟩
  | bl b=>cases hb; exact ⟨_,rfl,fin⟩
  | int n=>cases hb; exact ⟨_,rfl,fin⟩
  | str _=>cases hb
  | tup h1 h2=>cases hb; exact ⟨_,.inr (.inl ⟨_,SqT.of (w1.sub _ _ h1),rfl⟩),by rw [h2.isEmpty]; exact fin⟩
  | lst h1 h2=>cases hb; exact ⟨_,.inl ⟨_,SqL.of (w1.sub _ _ h1),rfl⟩,by rw [h2.isEmpty]; exact fin⟩
  | dct _ _=>cases hb

noncomputable def aOr (i j:List Sl→Tr Bool):List Sl→Tr Bool:=fun ρ=>(i ρ).bind fun x=>if x=true then .ret true else j ρ
noncomputable def aNot (i:List Sl→Tr Bool):List Sl→Tr Bool:=fun ρ=>(i ρ).bind fun x=>.ret (!x)
variable {p q:List Sl→Tr Bool} {rest:List Expr}
theorem TAt.then {σ:St} {H:Hp} {β:Type} {k:Bool→Tr β} {Z:Nat→β→Prop} {Q:Bool→Hp→Prop} {pa:Addr} {G₀ H₀ G:Hp} {m:Nat} {ρ:List Sl} (R:Rl PK pa G₀ H₀ m σ ρ G H) (h:((p ρ).bind k).ok m Z)
    (hq:∀ m1 x G1 H1,Stp pa G H G1 H1→Wd PK pa m1 G1 H1→Rl PK pa G₀ H₀ m1 σ ρ G1 H1→(k x).ok m1 Z→Q x H1):TAt PK p σ H Q:=by
  refine ⟨pa,G₀,H₀,m,ρ,G,R,Tr.ok_mono (Tr.ok_bind.mp h) fun m1 x hx G1 H1 s1 w1=>?_⟩
  exact hq m1 x G1 H1 s1 w1 (R.step s1 w1) hx
theorem at_later {G₀ H₀ G H G1 H1:Hp} {m:Nat} {σ:St} {ρ:List Sl} {pa:Addr} {Q:Bool→Hp→Prop} (R1:Rl PK pa G₀ H₀ m σ ρ G1 H1) (s1:Stp pa G H G1 H1) (h:(q ρ).ok m fun m' b=>∀ G' H',Stp pa G H G' H'→Wd PK pa m' G' H'→Q b H'):TAt PK q σ H1 Q :=
  ⟨pa,G₀,H₀,m,ρ,G1,R1,Tr.ok_mono h fun m2 b k G2 H2 s2 w2=>k G2 H2 (s1.trans s2 R1.wd.some) w2⟩
theorem ae_later {G₀ H₀ G H G1 H1:Hp} {m:Nat} {σ:St} {ρ:List Sl} {pa:Addr} {Q:VK} (R1:Rl PK pa G₀ H₀ m σ ρ G1 H1) (s1:Stp pa G H G1 H1) (h:(i ρ).ok m fun m' x=>Kn PK pa m' G H x Q):TAe PK i σ H1 Q :=
  ⟨pa,G₀,H₀,m,ρ,G1,R1,Tr.ok_mono h fun m2 b k=>Kn.later k s1 R1.wd.some⟩
theorem aw_or1 (ha:PT X a (TAt PK p)):PW X (.BoolOp .Or [a] pos) (TAt PK p):=pw_or1 ha
theorem aw_or (ha:PT X a (TAt PK p)) (hb:PW X (.BoolOp .Or (b::rest) pos) (TAt PK q)):PW X (.BoolOp .Or (a::b::rest) pos) (TAt PK (aOr p q)):=(pw_or ha hb).imp fun σ H Q hz0=>by
  obtain ⟨pa,G₀,H₀,m,ρ,G,R,z⟩:=hz0
  refine TAt.then R z fun m1 x G1 H1 s1 w1 R1 q1=>?_
  cases x with
  | true=>rw [if_pos rfl] at q1 ⊢; exact q1 G1 H1 s1 w1
  | false=>rw [if_neg Bool.false_ne_true] at q1 ⊢; exact at_later R1 s1 q1
theorem at_w (h:PW X e (TAt PK p)):PT X e (TAt PK p):=h.pt
theorem at_not (ha:PT X a (TAt PK p)):PT X (.UnaryOp .Not a pos) (TAt PK (aNot p)):=(pt_not ha).imp fun σ H Q hz0=>by
  obtain ⟨pa,G₀,H₀,m,ρ,G,R,z⟩:=hz0
  refine TAt.then R z fun m1 x G1 H1 s1 w1 R1 q1=>?_
  exact q1 G1 H1 s1 w1
noncomputable def aAndV (i j:List Sl→Tr PyData):List Sl→Tr PyData:=fun ρ=>(aTest i ρ).bind fun x=>if x=true then j ρ else .ret (.bool false)
noncomputable def aNotV (i:List Sl→Tr PyData):List Sl→Tr PyData:=fun ρ=>(aTest i ρ).bind fun x=>.ret (.bool (!x))
theorem TAe.thenB {σ:St} {H:Hp} {β:Type} {k:Bool→Tr β} {Z:Nat→β→Prop} {Q:VK} {pa:Addr} {G₀ H₀ G:Hp} {m:Nat} {ρ:List Sl} (R:Rl PK pa G₀ H₀ m σ ρ G H) (h:((aTest i ρ).bind k).ok m Z)
    (hq:∀ m1 c G1 H1,Stp pa G H G1 H1→Wd PK pa m1 G1 H1→Rl PK pa G₀ H₀ m1 σ ρ G1 H1→(k c).ok m1 Z→Q (.bl c) H1):TAe PK i σ H Q:=by
  unfold aTest at h
  rw [Tr.bind_assoc] at h
  refine TAe.then R h fun m1 x v G1 H1 s1 w1 R1 d1 q1=>?_
  rw [Tr.ok_bind] at q1
  obtain ⟨c,hb,q1⟩:=Tr.ok_of q1
  cases d1 <;> simp only [toB] at hb <;> cases hb
  exact hq m1 _ G1 H1 s1 w1 R1 q1
theorem ae_one {op} (h:PE X a (TAe PK i)):PE X (.BoolOp op [a] pos) (TAe PK i):=pe_one h
theorem ae_and (ha:PE X a (TAe PK i)) (hb:PE X (.BoolOp .And (b::rest) pos) (TAe PK j)):PE X (.BoolOp .And (a::b::rest) pos) (TAe PK (aAndV i j)):=(pe_and ha hb).imp fun σ H Q hz0=>by
  obtain ⟨pa,G₀,H₀,m,ρ,G,R,z⟩:=hz0
  refine TAe.thenB R z fun m1 x G1 H1 s1 w1 R1 q1=>⟨x,rfl,?_⟩
  cases x with
  | true=>rw [if_pos rfl] at q1 ⊢; exact ae_later R1 s1 q1
  | false=>rw [if_neg Bool.false_ne_true] at q1 ⊢; exact (Kn.later q1 s1 w1.some).here w1 (.bl false)
theorem ae_not (ha:PE X a (TAe PK i)):PE X (.UnaryOp .Not a pos) (TAe PK (aNotV i)):=(pe_not ha).imp fun σ H Q hz0=>by
  obtain ⟨pa,G₀,H₀,m,ρ,G,R,z⟩:=hz0
  refine TAe.thenB R z fun m1 x G1 H1 s1 w1 R1 q1=>⟨x,rfl,?_⟩
  exact (Kn.later q1 s1 w1.some).here w1 (.bl _)
noncomputable def aIf (p:List Sl→Tr Bool) (i j:List Sl→Tr PyData):List Sl→Tr PyData:=fun ρ=>(p ρ).bind fun x=>if x=true then i ρ else j ρ
theorem ae_if (hc:PT X c (TAt PK p)) (ha:PE X a (TAe PK i)) (hb:PE X b (TAe PK j)):PE X (.IfExp c a b pos) (TAe PK (aIf p i j)):=(pe_ifExp hc ha hb).imp fun σ H Q hz0=>by
  obtain ⟨pa,G₀,H₀,m,ρ,G,R,z⟩:=hz0
  refine TAt.then R z fun m1 x G1 H1 s1 w1 R1 q1=>?_
  cases x with
  | true=>rw [if_pos rfl] at q1 ⊢; exact ae_later R1 s1 q1
  | false=>rw [if_neg Bool.false_ne_true] at q1 ⊢; exact ae_later R1 s1 q1

variable {is:List Sl→Tr (List PyData)}
noncomputable def aNil:List Sl→Tr (List PyData):=fun _=>.ret []
noncomputable def aCons (i:List Sl→Tr PyData) (is:List Sl→Tr (List PyData)):List Sl→Tr (List PyData):=fun ρ=>(i ρ).bind fun x=>(is ρ).bind fun xs=>.ret (x::xs)
theorem ad_nil:PA X [] (TAd PK aNil):=pa_nil.imp fun σ H Q hz0=>by
  obtain ⟨pa,G₀,H₀,m,ρ,G,R,z⟩:=hz0
  exact z [] G H .refl R.wd .nil
theorem TAd.then {σ:St} {H:Hp} {β:Type} {k:List PyData→Tr β} {Z:Nat→β→Prop} {Q:List V→Hp→Prop} {pa:Addr} {G₀ H₀ G:Hp} {m:Nat} {ρ:List Sl} (R:Rl PK pa G₀ H₀ m σ ρ G H) (h:((is ρ).bind k).ok m Z)
    (hq:∀ m1 xs vs G1 H1,Stp pa G H G1 H1→Wd PK pa m1 G1 H1→Rl PK pa G₀ H₀ m1 σ ρ G1 H1→DnAll G1 vs xs→(k xs).ok m1 Z→Q vs H1):TAd PK is σ H Q:=by
  refine ⟨pa,G₀,H₀,m,ρ,G,R,Tr.ok_mono (Tr.ok_bind.mp h) fun m1 x hx v G1 H1 s1 w1 d1=>?_⟩
  exact hq m1 x v G1 H1 s1 w1 (R.step s1 w1) d1 hx
theorem ad_cons (ha:PE X e (TAe PK i)) (hr:PA X es (TAd PK is)) (hs:starEach (e::es) X.env=(false,eval e X.env)::starEach es X.env:=by rfl):PA X (e::es) (TAd PK (aCons i is)):=(pa_cons ha hr hs).imp fun σ H Q hz0=>by
  obtain ⟨pa,G₀,H₀,m,ρ,G,R,z⟩:=hz0
  refine TAe.then R z fun m1 x v G1 H1 s1 w1 R1 d1 q1=>?_
  refine TAd.then R1 q1 fun m2 xs vs G2 H2 s2 w2 R2 d2 q2=>?_
  exact q2 _ _ _ (s1.trans s2 w1.some) w2 (.cons (d1.mono s2.gs) d2)
noncomputable def small (n:Nat):Bool:=decide (n≤sizeLine)
noncomputable def aTup (is:List Sl→Tr (List PyData)):List Sl→Tr PyData:=fun ρ=>(is ρ).bind fun xs=>if small xs.length=true then .ret (.tuple xs) else .fail
noncomputable def aLst (is:List Sl→Tr (List PyData)):List Sl→Tr PyData:=fun ρ=>(is ρ).bind fun xs=>.ret (.list xs)
noncomputable def aLo (is:List Sl→Tr (List PyData)):List Sl→Tr (List PyData):=fun ρ=>(is ρ).bind fun xs=>if small xs.length=true then .ret xs else .fail
theorem ok_if {α:Type} {c:Bool} {t:Tr α} {m:Nat} {Q:Nat→α→Prop} (h:(if c=true then t else .fail).ok m Q):c=true∧t.ok m Q:=by
  cases c with
  | true=>exact ⟨rfl,h⟩
  | false=>exact h.elim
theorem ae_tup {x1} (h:PA X es (TAd PK is)):PE X (.Tuple es x1 pos) (TAe PK (aTup is)):=(pe_tup h).imp fun σ H Q hz0=>by
  obtain ⟨pa,G₀,H₀,m,ρ,G,R,z⟩:=hz0
  refine TAd.then R z fun m1 xs vs G1 H1 s1 w1 R1 d1 q1=>?_
  obtain ⟨hs,k⟩:=ok_if q1
  exact ⟨by rw [d1.length]; exact of_decide_eq_true hs,fun p hp=>(Kn.later k s1 w1.some).tup w1 d1 hp⟩
theorem Ko1.new {pa:Addr} {m:Nat} {G H:Hp} {xs:List PyData} {vs:List V} {Q:VK} {p:Addr} (k:Ko1 PK pa m G H xs Q) (w:Wd PK pa m G H) (d:DnAll G vs xs) (hp:H p=none):Q (.ref p) (upd H p (.lst vs)):=by
  obtain ⟨w1,s1⟩:=w.own (o:=.lst vs) hp
  exact k p vs G _ s1 w1 hp (w.gnone hp) upd_same d
theorem Ko1.later {pa:Addr} {m:Nat} {G H G1 H1:Hp} {xs:List PyData} {Q:VK} (k:Ko1 PK pa m G H xs Q) (s:Stp pa G H G1 H1) (hp:∃ o,H1 pa=some o):Ko1 PK pa m G1 H1 xs Q:=fun p vs G' H' s' w' h1 h2 h3 h4=>by
  refine k p vs G' H' (s.trans s' hp) w' ?_ h2 h3 h4
  cases e:H p with
  | none=>rfl
  | some u =>
    by_cases hc:p=pa
    · subst hc
      obtain ⟨o,z⟩:=hp
      rw [h1] at z; cases z
    · rw [s.hk p u e hc] at h1; cases h1
theorem ao_lst (h:PA X es (TAd PK is)):PE X (.List es pos) (TAo PK (aLo is)):=(pe_lst h).imp fun σ H Q hz0=>by
  obtain ⟨pa,G₀,H₀,m,ρ,G,R,z⟩:=hz0
  refine TAd.then R z fun m1 xs vs G1 H1 s1 w1 R1 d1 q1=>?_
  obtain ⟨hs,k⟩:=ok_if q1
  exact ⟨by rw [d1.length]; exact of_decide_eq_true hs,fun p hp=>(Ko1.later k s1 w1.some).new w1 d1 hp⟩
theorem Ko1.of {pa:Addr} {m:Nat} {G H:Hp} {xs:List PyData} {Q:VK} (k:Kn PK pa m G H (.list xs) Q) (hp:∃ o,H pa=some o):Ko1 PK pa m G H xs Q:=fun p vs G' H' s w h1 h2 h3 h4=>by
  have hne:pa≠p:=fun e=>by
    obtain ⟨o,z⟩:=hp
    rw [e,h1] at z; cases z
  have sb:Sub G' (upd G' p (.lst vs)):=Sub.new h2
  refine k _ (upd G' p (.lst vs)) H' ⟨fun b o h=>sb b o (s.gs b o h),fun b o h=>?_,s.hk⟩ (w.freeze h3 h2 hne) (.lst upd_same (DnAll.mono sb h4))
  by_cases e:b=p
  · subst e; exact .inr h1
  · rw [upd_ne e] at h; exact s.gn b o h
theorem ae_o (h:PE X e (TAo PK is)):PE X e (TAe PK (aLst is)):=h.imp fun σ H Q hz0=>by
  obtain ⟨pa,G₀,H₀,m,ρ,G,R,z⟩:=hz0
  refine ⟨pa,G₀,H₀,m,ρ,G,R,Tr.ok_mono (Tr.ok_bind.mp z) fun m1 xs k=>Ko1.of k R.wd.some⟩

noncomputable def VCl (r:List V→Hp→VK→Prop) (f:List PyData→Option PyData):Prop:=∀ (PK:Pk) (pa:Addr) (m:Nat) (G H:Hp) (vs:List V) (ds:List PyData) (d:PyData) (Q:VK),Wd PK pa m G H→DnAll G vs ds→f ds=some d→Kn PK pa m G H d Q→r vs H Q
noncomputable def VClo (r:List V→Hp→VK→Prop) (f:List PyData→Option (List PyData)):Prop:=∀ (PK:Pk) (pa:Addr) (m:Nat) (G H:Hp) (vs:List V) (ds:List PyData) (d:List PyData) (Q:VK),Wd PK pa m G H→DnAll G vs ds→f ds=some d→Ko1 PK pa m G H d Q→r vs H Q
noncomputable def aCB (f:List PyData→Option PyData) (is:List Sl→Tr (List PyData)):List Sl→Tr PyData:=fun ρ=>(is ρ).bind fun xs=>Tr.of (f xs)
noncomputable def aCBo (f:List PyData→Option (List PyData)) (is:List Sl→Tr (List PyData)):List Sl→Tr (List PyData):=fun ρ=>(is ρ).bind fun xs=>Tr.of (f xs)
theorem aCB_read {r:List V→Hp→VK→Prop} {f:List PyData→Option PyData} (hv:VCl r f):∀ σ H Q,TAe PK (aCB f is) σ H Q→tCB r (TAd PK is) σ H Q:=by
  rintro σ H Q ⟨pa,G₀,H₀,m,ρ,G,R,z⟩
  refine TAd.then R z fun m1 xs vs G1 H1 s1 w1 R1 d1 q1=>?_
  obtain ⟨d,hd,k⟩:=Tr.ok_of q1
  exact hv PK pa m1 G1 H1 vs xs d Q w1 d1 hd (Kn.later k s1 w1.some)
theorem aCBo_read {r:List V→Hp→VK→Prop} {f:List PyData→Option (List PyData)} (hv:VClo r f):∀ σ H Q,TAo PK (aCBo f is) σ H Q→tCB r (TAd PK is) σ H Q:=by
  rintro σ H Q ⟨pa,G₀,H₀,m,ρ,G,R,z⟩
  refine TAd.then R z fun m1 xs vs G1 H1 s1 w1 R1 d1 q1=>?_
  obtain ⟨d,hd,k⟩:=Tr.ok_of q1
  exact hv PK pa m1 G1 H1 vs xs d Q w1 d1 hd (Ko1.later k s1 w1.some)
theorem ae_cb {t:TA} {r:List V→Hp→VK→Prop} {f:List PyData→Option PyData} (h:PE X e (tCB r (TAd PK is))) (hv:VCl r f):PE X e (TAe PK (aCB f is)):=h.imp (aCB_read hv)
theorem ao_cb {t:TA} {r:List V→Hp→VK→Prop} {f:List PyData→Option (List PyData)} (h:PE X e (tCB r (TAd PK is))) (hv:VClo r f):PE X e (TAo PK (aCBo f is)):=h.imp (aCBo_read hv)

variable {as:List Sl→Tr (List Sl)}
noncomputable def aaNil:List Sl→Tr (List Sl):=fun _=>.ret []
noncomputable def aaCons (i:List Sl→Tr PyData) (as:List Sl→Tr (List Sl)):List Sl→Tr (List Sl):=fun ρ=>(i ρ).bind fun x=>(as ρ).bind fun xs=>.ret (.d x::xs)
noncomputable def aaPen (k:Nat) (as:List Sl→Tr (List Sl)):List Sl→Tr (List Sl):=fun ρ=>match ρ[k]? with
  | some .pen=>(as ρ).bind fun xs=>.ret (.pen::xs)
  | _=>.fail
theorem aa_nil:PA X [] (TAa PK aaNil):=pa_nil.imp fun σ H Q hz0=>by
  obtain ⟨pa,G₀,H₀,m,ρ,G,R,z⟩:=hz0
  exact z [] G H .refl R.wd .nil
theorem TAa.then {σ:St} {H:Hp} {β:Type} {k:List Sl→Tr β} {Z:Nat→β→Prop} {Q:List V→Hp→Prop} {pa:Addr} {G₀ H₀ G:Hp} {m:Nat} {ρ:List Sl} (R:Rl PK pa G₀ H₀ m σ ρ G H) (h:((as ρ).bind k).ok m Z)
    (hq:∀ m1 xs vs G1 H1,Stp pa G H G1 H1→Wd PK pa m1 G1 H1→Rl PK pa G₀ H₀ m1 σ ρ G1 H1→ArsOk pa G1 vs xs→(k xs).ok m1 Z→Q vs H1):TAa PK as σ H Q:=by
  refine ⟨pa,G₀,H₀,m,ρ,G,R,Tr.ok_mono (Tr.ok_bind.mp h) fun m1 x hx v G1 H1 s1 w1 d1=>?_⟩
  exact hq m1 x v G1 H1 s1 w1 (R.step s1 w1) d1 hx
theorem aa_cons (ha:PE X e (TAe PK i)) (hr:PA X es (TAa PK as)) (hs:starEach (e::es) X.env=(false,eval e X.env)::starEach es X.env:=by rfl):PA X (e::es) (TAa PK (aaCons i as)):=(pa_cons ha hr hs).imp fun σ H Q hz0=>by
  obtain ⟨pa,G₀,H₀,m,ρ,G,R,z⟩:=hz0
  refine TAe.then R z fun m1 x v G1 H1 s1 w1 R1 d1 q1=>?_
  refine TAa.then R1 q1 fun m2 xs vs G2 H2 s2 w2 R2 d2 q2=>?_
  exact q2 _ _ _ (s1.trans s2 w1.some) w2 (.cons (.d (d1.mono s2.gs)) d2)
theorem aa_pen {k:Nat} (ha:PE X e (tVar k)) (hr:PA X es (TAa PK as)) (hs:starEach (e::es) X.env=(false,eval e X.env)::starEach es X.env:=by rfl):PA X (e::es) (TAa PK (aaPen k as)):=(pa_cons ha hr hs).imp fun σ H Q hz0=>by
  obtain ⟨pa,G₀,H₀,m,ρ,G,R,z⟩:=hz0
  unfold aaPen at z
  split at z
  · rename_i hk
    obtain ⟨o,h1,h2⟩:=R.sl k _ hk
    cases h2
    refine ⟨_,h1,?_⟩
    refine TAa.then R z fun m2 xs vs G2 H2 s2 w2 R2 d2 q2=>?_
    exact q2 _ _ _ s2 w2 (.cons .pen d2)
  · exact z.elim
noncomputable def aSp (PK:Pk) (n:Nat) (f:List Sl→Tr Re):Sp:=fun vs H Q _=>vs.length=n∧∃ pa m G as,Wd PK pa m G H∧ArsOk pa G vs as∧(f as).ok m fun m' r=>Kr PK pa m' G H r Q
noncomputable def aCall (f:List Sl→Tr Re) (as:List Sl→Tr (List Sl)):List Sl→Tr Re:=fun ρ=>(as ρ).bind f
noncomputable def aRe (f:List Sl→Tr Re):List Sl→Tr PyData:=fun ρ=>(f ρ).bind fun r=>.ret r.val
noncomputable def TAr (PK:Pk) (i:List Sl→Tr Re):TE:=fun σ H Q=>∃ pa G₀ H₀ m ρ G,Rl PK pa G₀ H₀ m σ ρ G H∧(i ρ).ok m fun m' r=>Kr PK pa m' G H r Q
theorem Kr.later {pa:Addr} {m:Nat} {G H G1 H1:Hp} {r:Re} {Q:VK} (k:Kr PK pa m G H r Q) (s:Stp pa G H G1 H1) (hp:∃ o,H1 pa=some o):Kr PK pa m G1 H1 r Q:=fun v G' H' s' w' d=>by
  refine k v G' H' (s.trans s' hp) w' ?_
  cases r with
  | d x=>exact d
  | own xs =>
    obtain ⟨p,vs,e,h1,h2,h3,h4⟩:=d
    refine ⟨p,vs,e,h1,h2,?_,h4⟩
    cases e:H p with
    | none=>rfl
    | some u =>
      by_cases hc:p=pa
      · subst hc
        obtain ⟨o,z⟩:=hp
        rw [h3] at z; cases z
      · rw [s.hk p u e hc] at h3; cases h3
theorem Kr.of {pa:Addr} {m:Nat} {G H:Hp} {r:Re} {Q:VK} (k:Kn PK pa m G H r.val Q) (hp:∃ o,H pa=some o):Kr PK pa m G H r Q:=fun v G' H' s w d=>by
  cases r with
  | d x=>exact k v G' H' s w d
  | own xs =>
    obtain ⟨p,vs,rfl,h1,h2,h3,h4⟩:=d
    exact Ko1.of k hp p vs G' H' s w h3 h2 h1 h4
theorem ae_r {f:List Sl→Tr Re} (h:PE X e (TAr PK f)):PE X e (TAe PK (aRe f)):=h.imp (by
  intro σ H Q z
  obtain ⟨pa,G₀,H₀,m,ρ,G,R,z⟩:=z
  exact ⟨pa,G₀,H₀,m,ρ,G,R,Tr.ok_mono (Tr.ok_bind.mp z) fun m1 r k=>Kr.of k R.wd.some⟩)
structure ACal (PK:Pk) (P:Program) (w:World) (K:PySem.W.Frag) (mg:Str→Option Value) (base:Heap) (x:Str) (k:Nat) (ps:List Str) (f:List Sl→Tr Re):Prop where
  cal:Callee P w K mg base x k ps (aSp PK ps.length f)
  len:∀ as m Z,(f as).ok m Z→as.length=ps.length
theorem ar_call {x:Str} {k:Nat} {ps:List Str} {f:List Sl→Tr Re} {pp:Pos} (C:ACal PK X.prog X.w X.K X.mg X.base x k ps f) (hr:Room k X.A) (hg:Gl X x) (ha:PA X (e::es) (TAa PK as))
    (hdb:(x == ("__debug__":Str))=false:=by decide)
    (he:starEach (e::es) X.env=(false,eval e X.env)::starEach es X.env:=by rfl) (hpl:(backTo pos (starEach es X.env)).any (·.1)=false:=by rfl):PE X (.Call (.Name x pp) (e::es) [] pos) (TAr PK (aCall f as)) :=
  (pe_callC C.cal hr hg ha hdb he hpl).imp fun σ H Q hz0=>by
    obtain ⟨pa,G₀,H₀,m,ρ,G,R,z⟩:=hz0
    refine TAa.then R z fun m1 xs vs G1 H1 s1 w1 R1 d1 q1=>?_
    show aSp PK ps.length f (vs++[]) H1 Q E0
    rw [List.append_nil]
    exact ⟨by rw [d1.length]; exact C.len _ _ _ q1,pa,m1,G1,xs,w1,d1,Tr.ok_mono q1 fun m2 r k=>Kr.later k s1 w1.some⟩
end L2
set_option Elab.async false
set_option linter.all false
set_option maxRecDepth 100000
namespace L2
open PySem PySem.Spec PyProof.Rows
variable {PK:Pk} {X:Cx} {a b c e:Expr} {es:List Expr} {pos:Pos} {i j l:List Sl→Tr PyData} {is:List Sl→Tr (List PyData)} {as:List Sl→Tr (List Sl)} {f:List Sl→Tr Re} {p q:List Sl→Tr Bool} {st:Stmt} {sts:List Stmt} {s t u:List Sl→Tr Ou}
noncomputable def aSeq (s t:List Sl→Tr Ou):List Sl→Tr Ou:=fun ρ=>(s ρ).bind fun o=>match o with
  | .next ρ'=>t ρ'
  | o=>.ret o
noncomputable def aSkip:List Sl→Tr Ou:=fun ρ=>.ret (.next ρ)
theorem Ko.later {pa:Addr} {G₀ H₀ Gs G:Hp} {D:Ends} {m:Nat} {o:Ou} (k:Ko PK pa G₀ H₀ Gs D m o) (sb:Sub Gs G):Ko PK pa G₀ H₀ G D m o:=by
  cases o with
  | next ρ=>exact fun σ G' H s R=>k σ G' H (fun b o h=>s b o (sb b o h)) R
  | ret r=>exact k
  | brk ρ=>exact fun σ G' H s R=>k σ G' H (fun b o h=>s b o (sb b o h)) R
  | cont ρ=>exact fun σ G' H s R=>k σ G' H (fun b o h=>s b o (sb b o h)) R
theorem Sub.refl {G:Hp}:Sub G G:=fun _ _ h=>h
theorem Sub.trans {G G1 G2:Hp} (a:Sub G G1) (b:Sub G1 G2):Sub G G2:=fun c o h=>b c o (a c o h)
theorem ass_nil:PSs X [] (TAs PK aSkip):=pss_nil.imp fun D σ H hz0=>by
  obtain ⟨pa,G₀,H₀,m,ρ,G,R,z⟩:=hz0
  exact z σ G H .refl R
theorem aSeq_read:∀ D σ H,TAs PK (aSeq s t) D σ H→tSeq (TAs PK s) (TAs PK t) D σ H:=by
  rintro D σ H ⟨pa,G₀,H₀,m,ρ,G,R,z⟩
  refine ⟨pa,G₀,H₀,m,ρ,G,R,Tr.ok_mono (Tr.ok_bind.mp z) fun m1 o k=>?_⟩
  cases o with
  | next ρ'=>exact fun σ' G' H' sb R'=>⟨pa,G₀,H₀,m1,ρ',G',R',Tr.ok_mono k fun _ _ k'=>Ko.later k' sb⟩
  | ret r=>exact k
  | brk ρ'=>exact k
  | cont ρ'=>exact k
theorem ass_cons (h1:PS X st (TAs PK s)) (h2:PSs X sts (TAs PK t)):PSs X (st::sts) (TAs PK (aSeq s t)):=(pss_cons h1 h2).imp aSeq_read
theorem ass_one (h1:PS X st (TAs PK s)):PSs X [st] (TAs PK s):=pss_one h1
noncomputable def aNever:List Sl→Tr Ou:=fun _=>.fail
theorem as_never:PS X st (TAs PK aNever):=fun _ _ _ _ _ _ h=>by
  obtain ⟨pa,G₀,H₀,m,ρ,G,R,z⟩:=h
  exact z.elim
noncomputable def aRet (i:List Sl→Tr PyData):List Sl→Tr Ou:=fun ρ=>(i ρ).bind fun x=>.ret (.ret (.d x))
theorem as_ret (he:PE X e (TAe PK i)):PS X (.Return (some e) pos) (TAs PK (aRet i)):=(ps_ret he).imp fun D σ H hz0=>by
  obtain ⟨pa,G₀,H₀,m,ρ,G,R,z⟩:=hz0
  refine TAe.then R z fun m1 x v G1 H1 s1 w1 R1 d1 q1=>?_
  exact q1 v G1 H1 R1.st w1 d1
noncomputable def aRetO (is:List Sl→Tr (List PyData)):List Sl→Tr Ou:=fun ρ=>(is ρ).bind fun x=>.ret (.ret (.own x))
theorem as_retO (he:PE X e (TAo PK is)):PS X (.Return (some e) pos) (TAs PK (aRetO is)):=(ps_ret he).imp fun D σ H hz0=>by
  obtain ⟨pa,G₀,H₀,m,ρ,G,R,z⟩:=hz0
  refine ⟨pa,G₀,H₀,m,ρ,G,R,Tr.ok_mono (Tr.ok_bind.mp z) fun m1 xs k p vs G1 H1 s1 w1 h1 h2 h3 h4=>?_⟩
  exact k (.ref p) G1 H1 (R.st.trans s1 R.wd.some) w1 ⟨p,vs,rfl,h3,h2,R.h0 h1,h4⟩
noncomputable def aRetR (f:List Sl→Tr Re):List Sl→Tr Ou:=fun ρ=>(f ρ).bind fun r=>.ret (.ret r)
theorem as_retR (he:PE X e (TAr PK f)):PS X (.Return (some e) pos) (TAs PK (aRetR f)):=(ps_ret he).imp (by
  intro D σ H z
  obtain ⟨pa,G₀,H₀,m,ρ,G,R,z⟩:=z
  exact ⟨pa,G₀,H₀,m,ρ,G,R,Tr.ok_mono (Tr.ok_bind.mp z) fun m1 r k=>Kr.later k R.st R.wd.some⟩)
noncomputable def aRetV (k:Nat):List Sl→Tr Ou:=fun ρ=>match ρ[k]? with
  | some (.d x)=>.ret (.ret (.d x))
  | some (.own xs)=>.ret (.ret (.own xs))
  | _=>.fail
theorem as_retV {k:Nat} (he:PE X e (tVar k)):PS X (.Return (some e) pos) (TAs PK (aRetV k)):=(ps_ret he).imp fun D σ H hz0=>by
  obtain ⟨pa,G₀,H₀,m,ρ,G,R,z⟩:=hz0
  unfold aRetV at z
  split at z
  · rename_i x hx
    obtain ⟨o,h1,h2⟩:=R.sl k _ hx
    cases h2 with
    | d d1=>exact ⟨_,h1,z _ G H R.st R.wd d1⟩
  · rename_i xs hx
    obtain ⟨o,h1,h2⟩:=R.sl k _ hx
    cases h2 with
    | own a1 a2 a3 a4=>exact ⟨_,h1,z _ G H R.st R.wd ⟨_,_,rfl,a1,a2,a3,a4⟩⟩
  · exact z.elim
noncomputable def aIfS (p:List Sl→Tr Bool) (s t:List Sl→Tr Ou):List Sl→Tr Ou:=fun ρ=>(p ρ).bind fun x=>if x=true then s ρ else t ρ
theorem as_if {xs ys:List Stmt} (hc:PT X c (TAt PK p)) (ha:PSs X xs (TAs PK s)) (hb:PSs X ys (TAs PK t)):PS X (.If c xs ys pos) (TAs PK (aIfS p s t)):=(ps_if hc ha hb).imp fun D σ H hz0=>by
  obtain ⟨pa,G₀,H₀,m,ρ,G,R,z⟩:=hz0
  refine TAt.then R z fun m1 x G1 H1 s1 w1 R1 q1=>?_
  cases x with
  | true=>rw [if_pos rfl] at q1 ⊢; exact ⟨pa,G₀,H₀,m1,ρ,G1,R1,Tr.ok_mono q1 fun _ _ k'=>Ko.later k' s1.gs⟩
  | false=>rw [if_neg Bool.false_ne_true] at q1 ⊢; exact ⟨pa,G₀,H₀,m1,ρ,G1,R1,Tr.ok_mono q1 fun _ _ k'=>Ko.later k' s1.gs⟩

noncomputable def aSet (k:Nat) (i:List Sl→Tr PyData):List Sl→Tr Ou:=fun ρ=>(i ρ).bind fun x=>.ret (.next (ρ.set k (.d x)))
theorem as_set {k:Nat} (h:PS X st (tAsg (TAe PK i) (gName k))):PS X st (TAs PK (aSet k i)):=h.imp fun D σ H hz0=>by
  obtain ⟨pa,G₀,H₀,m,ρ,G,R,z⟩:=hz0
  refine TAe.then R z fun m1 x v G1 H1 s1 w1 R1 d1 q1=>?_
  exact q1 _ G1 H1 s1.gs (R1.set d1 k)
noncomputable def aSetO (k:Nat) (is:List Sl→Tr (List PyData)):List Sl→Tr Ou:=fun ρ=>(is ρ).bind fun x=>.ret (.next (ρ.set k (.own x)))
theorem as_setO {k:Nat} (h:PS X st (tAsg (TAo PK is) (gName k))):PS X st (TAs PK (aSetO k is)):=h.imp fun D σ H hz0=>by
  obtain ⟨pa,G₀,H₀,m,ρ,G,R,z⟩:=hz0
  refine ⟨pa,G₀,H₀,m,ρ,G,R,Tr.ok_mono (Tr.ok_bind.mp z) fun m1 xs k' p vs G1 H1 s1 w1 h1 h2 h3 h4=>?_⟩
  exact k' _ G1 H1 s1.gs ((R.step s1 w1).setO h3 h2 (R.h0 h1) h4 (fun n ys e=>R.apart h1 n ys e) k)
noncomputable def aAug (f:PyData→PyData→Option PyData) (k:Nat) (i:List Sl→Tr PyData):List Sl→Tr Ou:=fun ρ=>(aVar k ρ).bind fun x=>(i ρ).bind fun y=>(Tr.of (f x y)).bind fun z=>.ret (.next (ρ.set k (.d z)))
theorem as_aug {k:Nat} {r:R2} {g:PyData→PyData→Option PyData} (hv:VOp2 r g) (h:PS X st (tAug k (TAe PK i) r)):PS X st (TAs PK (aAug g k i)):=h.imp fun D σ H hz0=>by
  obtain ⟨pa,G₀,H₀,m,ρ,G,R,z⟩:=hz0
  unfold aAug aVar at z
  split at z
  · rename_i x hx
    obtain ⟨o,h1,h2⟩:=R.sl k _ hx
    cases h2 with
    | d d0 =>
      refine ⟨_,h1,?_⟩
      refine TAe.then R z fun m1 y v G1 H1 s1 w1 R1 d1 q1=>?_
      rw [Tr.ok_bind] at q1
      obtain ⟨w,hw,q1⟩:=Tr.ok_of q1
      refine hv PK pa m1 G1 H1 _ v x y w _ w1 (d0.mono s1.gs) d1 hw fun u G2 H2 s2 w2 d2=>?_
      exact q1 _ G2 H2 (s1.gs.trans s2.gs) ((R1.step s2 w2).set d2 k)
  · exact z.elim
noncomputable def aApp (k:Nat) (i:List Sl→Tr PyData):List Sl→Tr Ou:=fun ρ=>match ρ[k]? with
  | some (.own xs)=>(i ρ).bind fun x=>if small (xs.length+1)=true then .ret (.next (ρ.set k (.own (xs++[x])))) else .fail
  | _=>.fail
theorem DnAll.snoc {H:Hp} {vs:List V} {ds:List PyData} {v:V} {d:PyData} (h:DnAll H vs ds) (h1:Dn H v d):DnAll H (vs++[v]) (ds++[d]):=h.append (.cons h1 .nil)
theorem as_app {k:Nat} {K:PySem.W.Frag} {st:Stmt} (h:PS X st (tDrop (tBM K "list" rAppend (tVar k) (tCons (TAe PK i) tNil)))):PS X st (TAs PK (aApp k i)):=h.imp fun D σ H hz0=>by
  obtain ⟨pa,G₀,H₀,m,ρ,G,R,z⟩:=hz0
  unfold aApp at z
  split at z
  · rename_i xs hx
    obtain ⟨o,h1,h2⟩:=R.sl k _ hx
    cases h2 with
    | @own p vs _ a1 a2 a3 a4 =>
      refine ⟨_,h1,.inl ⟨rfl,_,SqL.of a1⟩,?_⟩
      refine TAe.then R z fun m1 x v G1 H1 s1 w1 R1 d1 q1=>?_
      obtain ⟨hs,q1⟩:=ok_if q1
      obtain ⟨o,h1',h2⟩:=R1.sl k _ hx
      rw [h1] at h1'
      cases h1'
      cases h2 with
      | @own _ vs1 _ b1 b2 b3 b4 =>
        have hs':xs.length+1≤sizeLine:=of_decide_eq_true hs
        refine ⟨p,vs1,v,rfl,rfl,b1,by rw [b4.length]; omega,?_⟩
        exact q1 σ G1 _ s1.gs (R1.change hx h1 (b4.snoc d1))
  · exact z.elim
theorem DnAll.set {H:Hp}:∀ {vs:List V} {ds:List PyData} {v:V} {d:PyData} (n:Nat),DnAll H vs ds→Dn H v d→DnAll H (vs.set n v) (ds.set n d)
  | _,_,_,_,_,.nil,_=>.nil
  | _,_,_,_,0,.cons _ t,h=>.cons h t
  | _,_,_,_,n+1,.cons g t,h=>.cons g (DnAll.set n t h)
noncomputable def aSetIx (k:Nat) (n i:List Sl→Tr PyData):List Sl→Tr Ou:=fun ρ=>(i ρ).bind fun x=>match ρ[k]? with
  | some (.own xs)=>(n ρ).bind fun y=>match y with
    | .int y=>(Tr.of (ixN xs.length y)).bind fun t=>.ret (.next (ρ.set k (.own (xs.set t x))))
    | _=>.fail
  | _=>.fail
theorem as_setIx {k:Nat} {n:List Sl→Tr PyData} (h:PS X st (tAsg (TAe PK i) (gSub (tVar k) (TAe PK n) rSetL))):PS X st (TAs PK (aSetIx k n i)):=h.imp fun D σ H hz0=>by
  obtain ⟨pa,G₀,H₀,m,ρ,G,R,z⟩:=hz0
  refine TAe.then R z fun m1 x v G1 H1 s1 w1 R1 d1 q1=>?_
  split at q1
  · rename_i xs hx
    obtain ⟨o,h1,h2⟩:=R1.sl k _ hx
    cases h2 with
    | @own p vs _ a1 a2 a3 a4 =>
      refine ⟨_,h1,?_⟩
      refine TAe.then R1 q1 fun m2 y u G2 H2 s2 w2 R2 d2 q2=>?_
      obtain ⟨o,h1',h2⟩:=R2.sl k _ hx
      rw [h1] at h1'
      cases h1'
      cases h2 with
      | @own _ vs2 _ b1 b2 b3 b4 =>
        cases d2 with
        | int y =>
          rw [Tr.ok_bind] at q2
          obtain ⟨n',hn,q2⟩:=Tr.ok_of q2
          refine ⟨p,vs2,y,n',rfl,rfl,b1,by rw [b4.length]; exact hn,?_⟩
          exact q2 σ G2 _ (s1.gs.trans s2.gs) (R2.change hx h1 (b4.set n' (d1.mono s2.gs)))
        | _=>exact q2.elim
  · exact q1.elim
theorem DnAll.reverse {H:Hp} {vs:List V} {ds:List PyData} (h:DnAll H vs ds):DnAll H vs.reverse ds.reverse:=by
  induction vs generalizing ds with
  | nil=>cases h; exact .nil
  | cons v vs ih=>cases h with | cons r t=>rw [List.reverse_cons,List.reverse_cons]; exact DnAll.append (ih t) (.cons r .nil)
noncomputable def aFz (k:Nat) (s:List Sl→Tr Ou):List Sl→Tr Ou:=fun ρ=>s (fz k ρ)
theorem as_fz {k:Nat} (h:PS X st (TAs PK s)):PS X st (TAs PK (aFz k s)):=h.imp fun D σ H hz0=>by
  obtain ⟨pa,G₀,H₀,m,ρ,G,R,z⟩:=hz0
  obtain ⟨G',sb,R'⟩:=R.freeze k
  exact ⟨pa,G₀,H₀,m,_,G',R',Tr.ok_mono z fun _ _ k'=>Ko.later k' sb⟩

noncomputable def TAg (PK:Pk) (g:PyData→List Sl→Option (List Sl)):TG:=fun v σ H Q=>∃ pa G₀ H₀ m ρ G x ρ',Rl PK pa G₀ H₀ m σ ρ G H∧Dn G v x∧g x ρ=some ρ'∧∀ σ',Rl PK pa G₀ H₀ m σ' ρ' G H→Q σ' H
noncomputable def TAgs (PK:Pk) (g:List PyData→List Sl→Option (List Sl)):TGs:=fun vs σ H Q=>∃ pa G₀ H₀ m ρ G xs ρ',Rl PK pa G₀ H₀ m σ ρ G H∧DnAll G vs xs∧g xs ρ=some ρ'∧∀ σ',Rl PK pa G₀ H₀ m σ' ρ' G H→Q σ' H
theorem PG.imp {tg:Expr} {t t':TG} (h:PG X tg t) (q:∀ v σ H Q,t' v σ H Q→t v σ H Q):PG X tg t':=fun pins s σ H v u Q I r z=>h pins s σ H v u Q I r (q v σ H Q z)
theorem PGs.imp {tg:List Expr} {t t':TGs} (h:PGs X tg t) (q:∀ v σ H Q,t' v σ H Q→t v σ H Q):PGs X tg t':=fun pins s σ H v u Q I r z=>h pins s σ H v u Q I r (q v σ H Q z)
noncomputable def gSet (k:Nat):PyData→List Sl→Option (List Sl):=fun x ρ=>some (ρ.set k (.d x))
theorem ag_name {k:Nat} (h:PG X e (gName k)):PG X e (TAg PK (gSet k)):=h.imp fun v σ H Q hz0=>by
  obtain ⟨pa,G₀,H₀,m,ρ,G,x,ρ',R,d,e,q⟩:=hz0
  cases e
  exact q _ (R.set d k)
noncomputable def gsNil:List PyData→List Sl→Option (List Sl):=fun xs ρ=>match xs with
  | []=>some ρ
  | _=>none
noncomputable def gsCons (g:PyData→List Sl→Option (List Sl)) (gs:List PyData→List Sl→Option (List Sl)):List PyData→List Sl→Option (List Sl):=fun xs ρ=>match xs with
  | x::xs=>(g x ρ).bind fun ρ'=>gs xs ρ'
  | []=>none
theorem ags_nil:PGs X [] (TAgs PK gsNil):=pgs_nil.imp fun vs σ H Q hz0=>by
  obtain ⟨pa,G₀,H₀,m,ρ,G,xs,ρ',R,d,e,q⟩:=hz0
  cases d with
  | nil=>cases e; exact ⟨rfl,q _ R⟩
  | cons _ _=>cases e
theorem ags_cons {g:PyData→List Sl→Option (List Sl)} {gs:List PyData→List Sl→Option (List Sl)} (h1:PG X e (TAg PK g)) (h2:PGs X es (TAgs PK gs))
    (hs:(assignEach (e::es) X.env).map (·.2)=assign e X.env::(assignEach es X.env).map (·.2):=by rfl):PGs X (e::es) (TAgs PK (gsCons g gs)):=(pgs_cons h1 h2 hs).imp fun vs σ H Q hz0=>by
  obtain ⟨pa,G₀,H₀,m,ρ,G,xs,ρ',R,d,e,q⟩:=hz0
  cases d with
  | nil=>cases e
  | cons d1 d2 =>
    have e':(g _ ρ).bind (fun ρ'=>gs _ ρ')=some ρ':=e
    cases h:g _ ρ with
    | none=>rw [h] at e'; cases e'
    | some ρ1 =>
      rw [h] at e'
      exact ⟨_,_,rfl,pa,G₀,H₀,m,ρ,G,_,ρ1,R,d1,h,fun σ1 R1=>⟨pa,G₀,H₀,m,ρ1,G,_,ρ',R1,d2,e',q⟩⟩
noncomputable def gTupD (gs:List PyData→List Sl→Option (List Sl)):PyData→List Sl→Option (List Sl):=fun x ρ=>match x with
  | .tuple xs=>gs xs ρ
  | _=>none
noncomputable def gsLen (n:Nat) (gs:List PyData→List Sl→Option (List Sl)):Prop:=∀ xs ρ ρ',gs xs ρ=some ρ'→xs.length=n
theorem gsLen_nil:gsLen 0 gsNil:=fun xs ρ ρ' h=>by cases xs with | nil=>rfl | cons _ _=>cases h
theorem gsLen_cons {n:Nat} {g:PyData→List Sl→Option (List Sl)} {gs:List PyData→List Sl→Option (List Sl)} (h:gsLen n gs):gsLen (n+1) (gsCons g gs):=fun xs ρ ρ' e=>by
  cases xs with
  | nil=>cases e
  | cons x xs =>
    have e':(g x ρ).bind (fun ρ'=>gs xs ρ')=some ρ':=e
    cases h1:g x ρ with
    | none=>rw [h1] at e'; cases e'
    | some ρ1 =>
      rw [h1] at e'
      exact congrArg (·+1) (h xs ρ1 ρ' e')
theorem ag_tup {k:Nat} {gs:List PyData→List Sl→Option (List Sl)} {n:Nat} (hc:X.calm=true) (h:PGs X es (TAgs PK gs)) (hl:gsLen n gs)
    (hn:(assignEach es X.env).length=n:=by rfl) (hst:(assignEach es X.env).findIdx? (·.1)=none:=by rfl):PG X (.Tuple es k pos) (TAg PK (gTupD gs)):=(pg_tup hc h hn hst).imp fun v σ H Q hz0=>by
  obtain ⟨pa,G₀,H₀,m,ρ,G,x,ρ',R,d,e,q⟩:=hz0
  cases d with
  | tup h1 h2=>exact ⟨_,_,rfl,SqT.of (R.wd.sub _ _ h1),by rw [h2.length]; exact hl _ _ _ e,pa,G₀,H₀,m,ρ,G,_,ρ',R,h2,e,q⟩
  | _=>cases e
noncomputable def aAsg (g:PyData→List Sl→Option (List Sl)) (i:List Sl→Tr PyData):List Sl→Tr Ou:=fun ρ=>(i ρ).bind fun x=>(Tr.of (g x ρ)).bind fun ρ'=>.ret (.next ρ')
theorem as_asg {g:PyData→List Sl→Option (List Sl)} (h:PS X st (tAsg (TAe PK i) (TAg PK g))):PS X st (TAs PK (aAsg g i)):=h.imp fun D σ H hz0=>by
  obtain ⟨pa,G₀,H₀,m,ρ,G,R,z⟩:=hz0
  refine TAe.then R z fun m1 x v G1 H1 s1 w1 R1 d1 q1=>?_
  rw [Tr.ok_bind] at q1
  obtain ⟨ρ',hg,q1⟩:=Tr.ok_of q1
  exact ⟨pa,G₀,H₀,m1,ρ,G1,x,ρ',R1,d1,hg,fun σ' R'=>q1 σ' G1 H1 s1.gs R'⟩
noncomputable def aPar (k n:Nat) (is:List Sl→Tr (List PyData)):List Sl→Tr Ou:=fun ρ=>(is ρ).bind fun xs=>match xs with
  | [x,y]=>.ret (.next ((ρ.set k (.d x)).set n (.d y)))
  | _=>.fail
theorem as_par {k n:Nat} (h:PS X st (tPar k n (TAd PK is))):PS X st (TAs PK (aPar k n is)):=h.imp fun D σ H hz0=>by
  obtain ⟨pa,G₀,H₀,m,ρ,G,R,z⟩:=hz0
  refine TAd.then R z fun m1 xs vs G1 H1 s1 w1 R1 d1 q1=>?_
  split at q1
  · cases d1 with
    | cons e1 d1 =>
      cases d1 with
      | cons e2 d1 =>
        cases d1
        exact ⟨_,_,rfl,q1 _ G1 H1 s1.gs ((R1.set e1 k).set e2 n)⟩
  · exact q1.elim

noncomputable def JOk (PK:Pk) (pa:Addr) (J:It) (G:Hp) (xs:List PyData):Prop:=∀ m G2 H2,Sub G G2→Wd PK pa m G2 H2 →
  (∀ (n:Nat) (d:PyData),xs[n]?=some d→J.go n H2∧∀ x H3,J.yld n H2 x H3→∃ G3,Stp pa G2 H2 G3 H3∧Wd PK pa m G3 H3∧Dn G3 x d)∧J.stop xs.length H2
noncomputable def TAi (PK:Pk) (is:List Sl→Tr (List PyData)):TI:=fun σ H R=>∃ pa G₀ H₀ m ρ G,Rl PK pa G₀ H₀ m σ ρ G H∧(is ρ).ok m fun m' xs=>∀ J G' H',Stp pa G H G' H'→Wd PK pa m' G' H'→JOk PK pa J G' xs→R J H'
theorem PI.imp {tg iter:Expr} {t t':TI} (h:PI X tg iter t) (q:∀ σ H R,t' σ H R→t σ H R):PI X tg iter t':=fun pins s σ H R I z=>h pins s σ H R I (q σ H R z)
noncomputable def forL (g:PyData→List Sl→Option (List Sl)) (s:List Sl→Tr Ou):List PyData→List Sl→Tr Ou
  | [],ρ=>.ret (.next ρ)
  | x::xs,ρ=>(Tr.of (g x ρ)).bind fun ρ1=>(s ρ1).bind fun o=>match o with
    | .next ρ2=>forL g s xs ρ2
    | .cont ρ2=>forL g s xs ρ2
    | .brk ρ2=>.ret (.next ρ2)
    | .ret r=>.ret (.ret r)
noncomputable def aFor (is:List Sl→Tr (List PyData)) (g:PyData→List Sl→Option (List Sl)) (s:List Sl→Tr Ou):List Sl→Tr Ou:=fun ρ=>(is ρ).bind fun xs=>forL g s xs ρ
theorem as_for {tg iter:Expr} {body:List Stmt} {g:PyData→List Sl→Option (List Sl)} (hp:PassesOwn (model X.prog X.w) X.A X.env X.xe) (hc:X.calm=true) (hi:PI X tg iter (TAi PK is)) (hg:PG X tg (TAg PK g)) (hb:PSs X body (TAs PK s))
    (hs:∀ x,foldedSetIterable iter X.env x=pure x:=by intro _; rfl):PS X (.For tg iter body [] pos) (TAs PK (aFor is g s)):=(ps_for hp hc hi hg hb hs).imp fun D σ H hz0=>by
  obtain ⟨pa,G₀,H₀,m,ρ,G,R,z⟩:=hz0
  refine ⟨pa,G₀,H₀,m,ρ,G,R,Tr.ok_mono (Tr.ok_bind.mp z) fun m1 xs k J G1 H1 s1 w1 jo=>?_⟩
  let W:Nat→Nat→St→Hp→Prop:=fun n mm σ H=>mm=xs.length - n∧n≤xs.length∧∃ m ρ G,Sub G1 G∧Rl PK pa G₀ H₀ m σ ρ G H∧(forL g s (xs.drop n) ρ).ok m (Ko PK pa G₀ H₀ G1 D)
  refine ⟨W,⟨xs.length,rfl,Nat.zero_le _,m1,ρ,G1,fun _ _ h=>h,R.step s1 w1,Tr.ok_mono k fun _ _ k'=>Ko.later k' s1.gs⟩,?_⟩
  rintro n mm σ2 H2 ⟨rfl,hn,m2,ρ2,G2,sb,R2,k2⟩
  obtain ⟨j1,j2⟩:=jo m2 G2 H2 sb R2.wd
  by_cases hlt:n < xs.length
  · have hx:xs[n]?=some xs[n]:=by simp [hlt]
    obtain ⟨jg,jy⟩:=j1 n _ hx
    refine .inr ⟨jg,W (n+1) (xs.length - (n+1)),fun σ' H' h'=>⟨_,by omega,h'⟩,fun x H3 y=>?_⟩
    obtain ⟨G3,s3,w3,d3⟩:=jy x H3 y
    rw [List.drop_eq_getElem_cons hlt] at k2
    unfold forL at k2
    rw [Tr.ok_bind] at k2
    obtain ⟨ρ3,hg3,k3⟩:=Tr.ok_of k2
    refine ⟨pa,G₀,H₀,m2,ρ2,G3,_,ρ3,R2.step s3 w3,d3,hg3,fun σ4 R4=>?_⟩
    refine ⟨pa,G₀,H₀,m2,ρ3,G3,R4,Tr.ok_mono (Tr.ok_bind.mp k3) fun m5 o ko=>?_⟩
    have again:∀ ρ5,(forL g s (xs.drop (n+1)) ρ5).ok m5 (Ko PK pa G₀ H₀ G1 D)→∀ σ5 G5 H5,Sub G3 G5→Rl PK pa G₀ H₀ m5 σ5 ρ5 G5 H5→W (n+1) (xs.length - (n+1)) σ5 H5:=fun ρ5 k5 σ5 G5 H5 sb5 R5 =>
      ⟨rfl,hlt,m5,ρ5,G5,(sb.trans s3.gs).trans sb5,R5,k5⟩
    cases o with
    | next ρ5=>exact again ρ5 ko
    | cont ρ5=>exact again ρ5 ko
    | brk ρ5=>exact fun σ5 G5 H5 sb5 R5=>ko σ5 G5 H5 ((sb.trans s3.gs).trans sb5) R5
    | ret r=>exact ko
  · have e:n=xs.length:=by omega
    subst e
    refine .inl ⟨j2,?_⟩
    rw [List.drop_length] at k2
    exact k2 σ2 G2 H2 sb R2
end L2
set_option Elab.async false
set_option linter.all false
set_option maxRecDepth 100000
namespace L2
open PySem PySem.Spec PyProof.Rows
variable {PK:Pk} {X:Cx} {a b c e:Expr} {es:List Expr} {pos:Pos} {i j l:List Sl→Tr PyData} {is:List Sl→Tr (List PyData)} {as:List Sl→Tr (List Sl)} {f:List Sl→Tr Re} {p q:List Sl→Tr Bool} {st:Stmt} {sts:List Stmt} {s t u:List Sl→Tr Ou}
noncomputable def whL (p:List Sl→Tr Bool) (s:List Sl→Tr Ou):Nat→List Sl→Tr Ou
  | 0,_=>.fail
  | n+1,ρ=>(p ρ).bind fun b=>if b=true then (s ρ).bind fun o=>match o with
      | .next ρ2=>whL p s n ρ2
      | .cont ρ2=>whL p s n ρ2
      | .brk ρ2=>.ret (.next ρ2)
      | .ret r=>.ret (.ret r)
    else .ret (.next ρ)
theorem as_while {body:List Stmt} (n:Nat) (hp:PassesOwn (model X.prog X.w) X.A X.env X.xe) (hc:PT X c (TAt PK p)) (hb:PSs X body (TAs PK s)):PS X (.While c body [] pos) (TAs PK (whL p s n)):=(ps_while hp hc hb).imp fun D σ H hz0=>by
  obtain ⟨pa,G₀,H₀,m,ρ,G,R,z⟩:=hz0
  let W:Nat→St→Hp→Prop:=fun n σ H=>∃ m ρ G1,Sub G G1∧Rl PK pa G₀ H₀ m σ ρ G1 H∧(whL p s n ρ).ok m (Ko PK pa G₀ H₀ G D)
  refine ⟨W,⟨n,m,ρ,G,.refl,R,z⟩,?_⟩
  rintro n σ2 H2 ⟨m2,ρ2,G2,sb,R2,k2⟩
  cases n with
  | zero=>exact k2.elim
  | succ n =>
    unfold whL at k2
    refine TAt.then R2 k2 fun m3 x G3 H3 s3 w3 R3 k3=>?_
    cases x with
    | false =>
      rw [if_neg Bool.false_ne_true] at k3 ⊢
      exact k3 σ2 G3 H3 (sb.trans s3.gs) R3
    | true =>
      rw [if_pos rfl] at k3 ⊢
      refine ⟨W n,fun σ' H' h=>⟨n,by omega,h⟩,pa,G₀,H₀,m3,ρ2,G3,R3,Tr.ok_mono (Tr.ok_bind.mp k3) fun m4 o ko=>?_⟩
      have again:∀ ρ5,(whL p s n ρ5).ok m4 (Ko PK pa G₀ H₀ G D)→∀ σ5 G5 H5,Sub G3 G5→Rl PK pa G₀ H₀ m4 σ5 ρ5 G5 H5→W n σ5 H5:=fun ρ5 k5 σ5 G5 H5 sb5 R5 =>
        ⟨m4,ρ5,G5,(sb.trans s3.gs).trans sb5,R5,k5⟩
      cases o with
      | next ρ5=>exact again ρ5 ko
      | cont ρ5=>exact again ρ5 ko
      | brk ρ5=>exact fun σ5 G5 H5 sb5 R5=>ko σ5 G5 H5 ((sb.trans s3.gs).trans sb5) R5
      | ret r=>exact ko

noncomputable def blS:Sl→Sl
  | .own _=>.un
  | s=>s
noncomputable def blk (n:Nat) (ix:List Nat) (ρ:List Sl):List Sl:=List.replicate n .un++ix.map fun j=>blS ((ρ[j]?).getD .un)
theorem Rl.blk {pa:Addr} {G₀ H₀ G H:Hp} {m:Nat} {σ:St} {ρ:List Sl} (R:Rl PK pa G₀ H₀ m σ ρ G H) (n:Nat) (ix:List Nat):Rl PK pa G₀ H₀ m (bSt n ix σ) (blk n ix ρ) G H:=by
  have key:∀ (k:Nat) (s:Sl),(L2.blk n ix ρ)[k]?=some s→(∃ o,(bSt n ix σ)[k]?=some o∧SlOk pa H₀ G H o s)∧∀ xs,s≠.own xs:=fun k s h=>by
    unfold L2.blk at h
    unfold bSt
    by_cases hk:k < n
    · rw [List.getElem?_append_left (by simpa using hk),List.getElem?_replicate,if_pos hk] at h
      rw [List.getElem?_append_left (by simpa using hk),List.getElem?_replicate,if_pos hk]
      cases h
      exact ⟨⟨_,rfl,.un⟩,fun xs h=>by cases h⟩
    · rw [List.getElem?_append_right (by simpa using Nat.le_of_not_lt hk),List.length_replicate,List.getElem?_map] at h
      rw [List.getElem?_append_right (by simpa using Nat.le_of_not_lt hk),List.length_replicate,List.getElem?_map]
      cases hj:ix[k - n]? with
      | none=>rw [hj] at h; cases h
      | some j =>
        rw [hj] at h
        have h':blS ((ρ[j]?).getD .un)=s:=Option.some.inj h
        subst h'
        show (∃ o,some ((σ[j]?).getD none)=some o∧_)∧_
        cases hr:ρ[j]? with
        | none=>exact ⟨⟨_,rfl,.un⟩,fun xs h=>by cases h⟩
        | some s' =>
          obtain ⟨o,h1,h2⟩:=R.sl j s' hr
          rw [h1]
          cases h2 with
          | un=>exact ⟨⟨_,rfl,.un⟩,fun xs h=>by cases h⟩
          | d z=>exact ⟨⟨_,rfl,.d z⟩,fun xs h=>by cases h⟩
          | own _ _ _ _=>exact ⟨⟨_,rfl,.un⟩,fun xs h=>by cases h⟩
          | pen=>exact ⟨⟨_,rfl,.pen⟩,fun xs h=>by cases h⟩
  refine ⟨R.wd,R.st,R.p0,fun k s h=>(key k s h).1,?_,fun k n' xs ys _ h1 _=>absurd rfl ((key k _ h1).2 xs)⟩
  unfold L2.blk bSt
  simp
noncomputable def PresN (n:Nat) (g:PyData→List Sl→Option (List Sl)):Prop:=∀ x ρ ρ',g x ρ=some ρ'→ρ'.length=ρ.length∧∀ k,n≤k→ρ'[k]?=ρ[k]?
noncomputable def PresNs (n:Nat) (g:List PyData→List Sl→Option (List Sl)):Prop:=∀ x ρ ρ',g x ρ=some ρ'→ρ'.length=ρ.length∧∀ k,n≤k→ρ'[k]?=ρ[k]?
theorem pres_set {n k:Nat} (h:k < n):PresN n (gSet k):=fun x ρ ρ' e=>by
  cases e
  exact ⟨List.length_set,fun j hj=>List.getElem?_set_ne (by omega)⟩
theorem pres_nil {n:Nat}:PresNs n gsNil:=fun x ρ ρ' e=>by
  cases x with
  | nil=>cases e; exact ⟨rfl,fun _ _=>rfl⟩
  | cons _ _=>cases e
theorem pres_cons {n:Nat} {g:PyData→List Sl→Option (List Sl)} {gs:List PyData→List Sl→Option (List Sl)} (h1:PresN n g) (h2:PresNs n gs):PresNs n (gsCons g gs):=fun x ρ ρ' e=>by
  cases x with
  | nil=>cases e
  | cons x xs =>
    have e':(g x ρ).bind (fun ρ'=>gs xs ρ')=some ρ':=e
    cases h:g x ρ with
    | none=>rw [h] at e'; cases e'
    | some ρ1 =>
      rw [h] at e'
      obtain ⟨a1,a2⟩:=h1 x ρ ρ1 h
      obtain ⟨b1,b2⟩:=h2 xs ρ1 ρ' e'
      exact ⟨b1.trans a1,fun k hk=>(b2 k hk).trans (a2 k hk)⟩
theorem pres_tup {n:Nat} {gs:List PyData→List Sl→Option (List Sl)} (h2:PresNs n gs):PresN n (gTupD gs):=fun x ρ ρ' e=>by
  cases x with
  | tuple xs=>exact h2 xs ρ ρ' e
  | _=>cases e
noncomputable def mapT (h:PyData→Tr PyData):List PyData→Tr (List PyData)
  | []=>.ret []
  | x::xs=>(h x).bind fun y=>(mapT h xs).bind fun ys=>.ret (y::ys)
noncomputable def aLc (is:List Sl→Tr (List PyData)) (n:Nat) (ix:List Nat) (g:PyData→List Sl→Option (List Sl)) (el:List Sl→Tr PyData):List Sl→Tr (List PyData):=fun ρ =>
  (is ρ).bind fun xs=>if small xs.length=true then mapT (fun x=>(Tr.of (g x (blk n ix ρ))).bind el) xs else .fail
theorem Rl.weak {pa:Addr} {G₀ H₀ G H:Hp} {m:Nat} {σ:St} {ρ ρ':List Sl} (R:Rl PK pa G₀ H₀ m σ ρ' G H) (hl:ρ'.length=ρ.length) (h:∀ (k:Nat) (s:Sl),ρ[k]?=some s→s=.un∨ρ'[k]?=some s):Rl PK pa G₀ H₀ m σ ρ G H:=by
  refine ⟨R.wd,R.st,R.p0,fun k s hk=>?_,hl.symm.trans R.len,fun k n xs ys hkn h1 h2=>?_⟩
  · rcases h k s hk with e | e
    · subst e
      have hlt:k < σ.length:=by
        rw [← R.len,hl]
        exact (List.getElem?_eq_some_iff.mp hk).1
      exact ⟨σ[k],by simp [hlt],.un⟩
    · exact R.sl k s e
  · rcases h k _ h1 with e | e
    · cases e
    · rcases h n _ h2 with e' | e'
      · cases e'
      · exact R.dj k n xs ys hkn e e'
theorem lc_read {n:Nat} {ix:List Nat} {g:PyData→List Sl→Option (List Sl)} (hn:PresN n g):∀ σ H Q,TAo PK (aLc is n ix g i) σ H Q→tLc (TAi PK is) n ix (fun _=>TAg PK g) (fun _=>TAe PK i) σ H Q:=by
  rintro σ H Q ⟨pa,G₀,H₀,m,ρ,G,R,z⟩
  refine ⟨pa,G₀,H₀,m,ρ,G,R,Tr.ok_mono (Tr.ok_bind.mp z) fun m1 xs k J G1 H1 s1 w1 jo=>fun B=>?_⟩
  obtain ⟨hs,k⟩:=ok_if k
  have hs:xs.length≤sizeLine:=of_decide_eq_true hs
  let el:PyData→Tr PyData:=fun x=>(Tr.of (g x (blk n ix ρ))).bind i
  let W:Nat→Nat→St→List V→Hp→Prop:=fun k mm τ ys H2=>mm=xs.length - k∧k≤xs.length∧ys.length=k∧∃ m G2 ds,Sub G1 G2∧Stp pa G H G2 H2∧Rl PK pa G₀ H₀ m τ (blk n ix ρ) G2 H2 ∧
    DnAll G2 ys ds∧(mapT el (xs.drop k)).ok m fun m' zs=>Ko1 PK pa m' G H (ds++zs) Q
  refine ⟨W,⟨xs.length,rfl,Nat.zero_le _,rfl,m1,G1,[],.refl,s1,(R.step s1 w1).blk n ix,.nil,k⟩,?_⟩
  rintro k mm τ ys H2 ⟨rfl,hk,hy,m2,G2,ds,sb,st2,R2,dn,k2⟩
  obtain ⟨j1,j2⟩:=jo m2 G2 H2 sb R2.wd
  by_cases hlt:k < xs.length
  · have hx:xs[k]?=some xs[k]:=by simp [hlt]
    obtain ⟨jg,jy⟩:=j1 k _ hx
    refine .inr ⟨jg,by omega,fun x H3 y=>?_⟩
    obtain ⟨G3,s3,w3,d3⟩:=jy x H3 y
    rw [List.drop_eq_getElem_cons hlt] at k2
    unfold mapT at k2
    rw [Tr.ok_bind,Tr.ok_bind] at k2
    obtain ⟨ρ3,hg3,k3⟩:=Tr.ok_of k2
    refine ⟨pa,G₀,H₀,m2,_,G3,_,ρ3,R2.step s3 w3,d3,hg3,fun τ4 R4=>?_⟩
    refine ⟨pa,G₀,H₀,m2,ρ3,G3,R4,Tr.ok_mono k3 fun m5 yd k5=>?_⟩
    intro v G5 H5 s5 w5 d5
    have s35:=s3.trans s5 w3.some
    obtain ⟨pl,pk⟩:=hn _ _ _ hg3
    refine ⟨xs.length - (k+1),by omega,rfl,hlt,by rw [List.length_append,hy]; rfl,m5,G5,ds++[yd],sb.trans s35.gs,st2.trans s35 R2.wd.some,?_,(DnAll.mono s35.gs dn).snoc d5,?_⟩
    · refine (R4.step s5 w5).weak pl fun q sl hq=>?_
      by_cases hqn:q < n
      · left
        unfold blk at hq
        rw [List.getElem?_append_left (by simpa using hqn),List.getElem?_replicate,if_pos hqn] at hq
        cases hq
        rfl
      · right
        rw [pk q (Nat.le_of_not_lt hqn)]
        exact hq
    · refine Tr.ok_mono (Tr.ok_bind.mp k5) fun m6 zs k6=>?_
      rw [List.append_assoc]
      exact k6
  · have e:k=xs.length:=by omega
    subst e
    refine .inl ⟨j2,fun p v H' hp ev eH=>?_⟩
    subst ev eH
    rw [List.drop_length] at k2
    have k2':Ko1 PK pa m2 G H (ds++[]) Q:=k2
    rw [List.append_nil] at k2'
    exact (Ko1.later k2' st2 R2.wd.some).new R2.wd dn hp
theorem ao_lc {n:Nat} {ix:List Nat} {g:PyData→List Sl→Option (List Sl)} (h:PE X e (tLc (TAi PK is) n ix (fun _=>TAg PK g) (fun _=>TAe PK i))) (hn:PresN n g):PE X e (TAo PK (aLc is n ix g i)):=h.imp (lc_read hn)
theorem tAsg_mono {te te':TE} {g:TG} (h:∀ σ H Q,te' σ H Q→te σ H Q):∀ D σ H,tAsg te' g D σ H→tAsg te g D σ H:=fun D σ H z=>h σ H _ z
noncomputable def finR:Ou→Tr Re
  | .next _=>.ret (.d .none)
  | .ret r=>.ret r
  | _=>.fail
noncomputable def aDef (n k:Nat) (s:List Sl→Tr Ou):List Sl→Tr Re:=fun as=>if decide (as.length=n)=true then (s (as++List.replicate k .un)).bind finR else .fail
theorem Rl.start {pa:Addr} {G H:Hp} {m:Nat} {N:List Str} {vs:List V} {as:List Sl} {k:Nat} (w:Wd PK pa m G H) (ar:ArsOk pa G vs as) (hk:N.length - vs.length=k):Rl PK pa G H m (L2.start N vs) (as++List.replicate k .un) G H:=by
  have key:∀ {vs:List V} {as:List Sl},ArsOk pa G vs as→∀ (q:Nat) (s:Sl),as[q]?=some s→(∃ o,(vs.map some)[q]?=some o∧SlOk pa H G H o s)∧∀ xs,s≠.own xs:=by
    intro vs as h
    induction h with
    | nil=>intro q s h; simp at h
    | cons h1 h2 ih =>
      intro q s h
      cases q with
      | zero =>
        simp at h
        subst h
        cases h1 with
        | d z=>exact ⟨⟨_,rfl,.d z⟩,fun xs h=>by cases h⟩
        | pen=>exact ⟨⟨_,rfl,.pen⟩,fun xs h=>by cases h⟩
      | succ q =>
        obtain ⟨⟨o,p1,p2⟩,p3⟩:=ih q s (by simpa using h)
        exact ⟨⟨o,by simpa using p1,p2⟩,p3⟩
  have hl:=ar.length
  have key2:∀ (q:Nat) (s:Sl),(as++List.replicate k .un)[q]?=some s→(∃ o,(L2.start N vs)[q]?=some o∧SlOk pa H G H o s)∧∀ xs,s≠.own xs:=fun q s h=>by
    unfold L2.start
    by_cases hq:q < as.length
    · rw [List.getElem?_append_left hq] at h
      rw [List.getElem?_append_left (by rw [List.length_map,hl]; exact hq)]
      exact key ar q s h
    · rw [List.getElem?_append_right (by omega),List.getElem?_replicate] at h
      rw [List.getElem?_append_right (by rw [List.length_map]; omega),List.getElem?_replicate,List.length_map,hl]
      split at h
      · rename_i hq2
        cases h
        rw [if_pos (by omega)]
        exact ⟨⟨_,rfl,.un⟩,fun xs h=>by cases h⟩
      · cases h
  refine ⟨w,.refl,w.some,fun q s h=>(key2 q s h).1,?_,fun q n xs ys _ h1 _=>absurd rfl ((key2 q _ h1).2 xs)⟩
  unfold L2.start
  simp [hl,hk]
  omega
theorem acal_of {P:Program} {w:World} {K:PySem.W.Frag} {mg:Str→Option Value} {base:Heap} {x:Str} {N ps:List Str} {kk k:Nat} (D:Def K mg x st ps) (S:FnScope N ps (defScope st)) (hk:N.length - ps.length=k)
    (hbody:∀ (f:Addr) (cdv:Value) (A:Around) (outer:List Env) (sh:Shared) (H:Hp) (E:XK),Room kk (A.deeper (envOfC x (defScope st) sh.heap.objs.size f cdv)) →
      PSs (cxOf CX0 P w K mg base N x (defScope st) f cdv A outer sh H E).nox (defBody st) (TAs PK s)):ACal PK P w K mg base x (kk+1) ps (aDef ps.length k s):=by
  have len:∀ as m Z,(aDef ps.length k s as).ok m Z→as.length=ps.length:=fun as m Z h=>by
    unfold aDef at h
    exact of_decide_eq_true (ok_if h).1
  refine ⟨D.ok S (fun vs H Q E h=>h.1) fun f cdv A outer sh H vs Q E hr hsp=>?_,len⟩
  obtain ⟨hv,pa,m,G,as,wd,ar,z⟩:=hsp
  refine ⟨_,hbody f cdv A outer sh H E hr,?_⟩
  unfold aDef at z
  obtain ⟨_,z⟩:=ok_if z
  refine ⟨pa,G,H,m,_,G,Rl.start wd ar (by rw [hv]; exact hk),Tr.ok_mono (Tr.ok_bind.mp z) fun m1 o ko=>?_⟩
  cases o with
  | next ρ=>exact fun σ G1 H1 sb R1=>ko .non G1 H1 R1.st R1.wd .non
  | ret r=>exact ko
  | brk ρ=>exact ko.elim
  | cont ρ=>exact ko.elim

theorem pi_seq {tg l:Expr} {tl:TE} (hl:PE X l tl):PI X tg l (fun σ H R=>tl σ H fun x H1=>∃ a,x=.ref a∧((∃ xs,SqL X.K H1 a xs∧R (Itl X.K a) H1)∨(∃ xs,SqT X.K H1 a xs∧R (Itt X.K a) H1))):=by
  intro pins s σ H R I h
  refine thn (hl pins s σ H _ I h) fun v s1 hz0=>?_
  obtain ⟨x,H1,I1,r1,q1⟩:=hz0
  obtain ⟨a,e,q⟩:=q1
  subst e
  cases r1
  rcases q with ⟨xs,hq,q⟩ | ⟨xs,hq,q⟩
  · obtain ⟨its,rv,p,hz⟩:=I1.list hq
    refine wpAny_pyIter_list p.isList ?_
    refine ⟨s1.heap.objs.size,[s1.heap.objs.size],_,_,H1,rfl,I1.kept (t':=s1.toks) fun b o e=>Heap.get?_push_of_some _ e,turn_list a _,⟨_,Heap.get?_push_size _ rfl,rfl,rfl⟩,fun b hb=>?_,q⟩
    have e:b=s1.heap.objs.size:=by simpa using hb
    subst e
    exact I1.fpOk (Nat.le_refl _) (I1.hok.fresh (Nat.le_refl _))
  · obtain ⟨its,rv,p,hz⟩:=I1.tuple hq
    refine wpAny_pyIter_tuple (show s1.heap.IsTuple a its.toArray from p) ?_
    refine ⟨s1.heap.objs.size,[s1.heap.objs.size],_,_,H1,rfl,I1.kept (t':=s1.toks) fun b o e=>Heap.get?_push_of_some _ e,turn_tuple a _,⟨_,Heap.get?_push_size _ rfl,rfl,rfl⟩,fun b hb=>?_,q⟩
    have e:b=s1.heap.objs.size:=by simpa using hb
    subst e
    exact I1.fpOk (Nat.le_refl _) (I1.hok.fresh (Nat.le_refl _))
theorem DnAll.get {H:Hp}:∀ {vs:List V} {ds:List PyData} (n:Nat) {d:PyData},DnAll H vs ds→ds[n]?=some d→∃ v,vs[n]?=some v∧Dn H v d
  | _,_,_,_,.nil,e=>by simp at e
  | _,_,0,_,.cons g t,e=>by simp at e; subst e; exact ⟨_,rfl,g⟩
  | _,_,n+1,_,.cons g t,e=>by
    obtain ⟨v,h1,h2⟩:=DnAll.get n t (by simpa using e)
    exact ⟨v,by simpa using h1,h2⟩
theorem jok_list {K:PySem.W.Frag} {pa a:Addr} {G:Hp} {vs:List V} {xs:List PyData} (h:G a=some (.lst vs)) (d:DnAll G vs xs):JOk PK pa (Itl K a) G xs:=fun m G2 H2 sb w=>by
  have hq:SqL K H2 a vs:=SqL.of (w.sub _ _ (sb _ _ h))
  refine ⟨fun n x hx=>?_,vs,hq,by rw [d.length]; exact Nat.le_refl _⟩
  obtain ⟨v,hv,dv⟩:=d.get n hx
  refine ⟨⟨vs,v,hq,hv⟩,fun y H3 hz0=>?_⟩
  obtain ⟨e,hy⟩:=hz0
  subst e
  have:=hy vs hq
  rw [hv] at this
  cases this
  exact ⟨G2,.refl,w,dv.mono sb⟩
theorem jok_tup {K:PySem.W.Frag} {pa a:Addr} {G:Hp} {vs:List V} {xs:List PyData} (h:G a=some (.tup vs)) (d:DnAll G vs xs):JOk PK pa (Itt K a) G xs:=fun m G2 H2 sb w=>by
  have hq:SqT K H2 a vs:=SqT.of (w.sub _ _ (sb _ _ h))
  refine ⟨fun n x hx=>?_,vs,hq,by rw [d.length]; exact Nat.le_refl _⟩
  obtain ⟨v,hv,dv⟩:=d.get n hx
  refine ⟨⟨vs,v,hq,hv⟩,fun y H3 hz0=>?_⟩
  obtain ⟨e,hy⟩:=hz0
  subst e
  have:=hy vs hq
  rw [hv] at this
  cases this
  exact ⟨G2,.refl,w,dv.mono sb⟩
noncomputable def itD:PyData→Option (List PyData)
  | .list xs=>some xs
  | .tuple xs=>some xs
  | _=>none
@[simp] theorem itD_list (xs:List PyData):itD (.list xs)=some xs:=rfl
@[simp] theorem itD_tuple (xs:List PyData):itD (.tuple xs)=some xs:=rfl
noncomputable def aIt (i:List Sl→Tr PyData):List Sl→Tr (List PyData):=fun ρ=>(i ρ).bind fun x=>Tr.of (itD x)
theorem ai_seq {tg l:Expr} (hl:PE X l (TAe PK i)):PI X tg l (TAi PK (aIt i)):=(pi_seq hl).imp fun σ H R0 hz0=>by
  obtain ⟨pa,G₀,H₀,m,ρ,G,R,z⟩:=hz0
  refine TAe.then R z fun m1 x v G1 H1 s1 w1 R1 d1 q1=>?_
  obtain ⟨xs,hx,q1⟩:=Tr.ok_of q1
  cases d1 with
  | lst h1 h2=>cases hx; exact ⟨_,rfl,.inl ⟨_,SqL.of (w1.sub _ _ h1),q1 _ G1 H1 s1 w1 (jok_list h1 h2)⟩⟩
  | tup h1 h2=>cases hx; exact ⟨_,rfl,.inr ⟨_,SqT.of (w1.sub _ _ h1),q1 _ G1 H1 s1 w1 (jok_tup h1 h2)⟩⟩
  | _=>cases hx
noncomputable def rngL (lo hi:Int):List PyData:=(rangeI lo (hi - lo).toNat).map PyData.int
theorem jok_rng {pa:Addr} {G:Hp} {lo:Int} {n:Nat}:JOk PK pa (Itr lo n) G ((rangeI lo n).map PyData.int):=fun m G2 H2 sb w=>by
  refine ⟨fun k x hx=>?_,by show n≤_; rw [List.length_map,rangeI_length]; exact Nat.le_refl _⟩
  have hk:k < n:=by
    have:=(List.getElem?_eq_some_iff.mp hx).1
    rwa [List.length_map,rangeI_length] at this
  refine ⟨hk,fun y H3 hz0=>?_⟩
  obtain ⟨e1,e2⟩:=hz0
  subst e1 e2
  have:x=.int (lo+k):=by
    unfold rangeI at hx
    simp [hk] at hx
    exact hx.symm
  subst this
  exact ⟨G2,.refl,w,.int _⟩
noncomputable def inR (n:Int):Bool:=decide (-(2 ^ 62)≤n∧n < 2 ^ 62)
noncomputable def rngD1:List PyData→Option (List PyData)
  | [.int n]=>if inR n=true then some (rngL 0 n) else none
  | _=>none
noncomputable def rngD2:List PyData→Option (List PyData)
  | [.int k,.int n]=>if (inR k && inR n)=true then some (rngL k n) else none
  | _=>none
noncomputable def aRng1 (is:List Sl→Tr (List PyData)):List Sl→Tr (List PyData):=fun ρ=>(is ρ).bind fun xs=>Tr.of (rngD1 xs)
noncomputable def aRng2 (is:List Sl→Tr (List PyData)):List Sl→Tr (List PyData):=fun ρ=>(is ρ).bind fun xs=>Tr.of (rngD2 xs)
theorem rngD1_inv {G:Hp} {vs:List V} {xs ys:List PyData} (d:DnAll G vs xs) (h:rngD1 xs=some ys):∃ n:Int,vs=[.int n]∧-(2 ^ 62)≤n∧n < 2 ^ 62∧ys=rngL 0 n:=by
  unfold rngD1 at h
  split at h
  · rename_i n
    split at h
    · rename_i hn
      cases h
      cases d with
      | cons d1 d2 =>
        cases d2
        cases d1
        have:=of_decide_eq_true hn
        exact ⟨n,rfl,this.1,this.2,rfl⟩
    · cases h
  · cases h
theorem rngD2_inv {G:Hp} {vs:List V} {xs ys:List PyData} (d:DnAll G vs xs) (h:rngD2 xs=some ys):∃ k n:Int,vs=[.int k,.int n]∧(-(2 ^ 62)≤k∧k < 2 ^ 62∧-(2 ^ 62)≤n∧n < 2 ^ 62)∧ys=rngL k n:=by
  unfold rngD2 at h
  split at h
  · rename_i k n
    split at h
    · rename_i hn
      cases h
      cases d with
      | cons d1 d2 =>
        cases d2 with
        | cons d2 d3 =>
          cases d3
          cases d1
          cases d2
          rw [Bool.and_eq_true] at hn
          have h1:=of_decide_eq_true hn.1
          have h2:=of_decide_eq_true hn.2
          exact ⟨k,n,rfl,⟨h1.1,h1.2,h2.1,h2.2⟩,rfl⟩
    · cases h
  · cases h
theorem ai_rng1 {tg e:Expr} (h:PI X tg e (iRng1 (TAd PK is))):PI X tg e (TAi PK (aRng1 is)):=h.imp fun σ H R0 hz0=>by
  obtain ⟨pa,G₀,H₀,m,ρ,G,R,z⟩:=hz0
  refine TAd.then R z fun m1 xs vs G1 H1 s1 w1 R1 d1 q1=>?_
  obtain ⟨ys,hy,q1⟩:=Tr.ok_of q1
  obtain ⟨n,e,h1,h2,rfl⟩:=rngD1_inv d1 hy
  refine ⟨n,e,h1,h2,?_⟩
  have q:=q1 (Itr 0 n.toNat) G1 H1 s1 w1
  unfold rngL at q
  rw [Int.sub_zero] at q
  exact q jok_rng
theorem ai_rng2 {tg e:Expr} (h:PI X tg e (iRng2 (TAd PK is))):PI X tg e (TAi PK (aRng2 is)):=h.imp fun σ H R0 hz0=>by
  obtain ⟨pa,G₀,H₀,m,ρ,G,R,z⟩:=hz0
  refine TAd.then R z fun m1 xs vs G1 H1 s1 w1 R1 d1 q1=>?_
  obtain ⟨ys,hy,q1⟩:=Tr.ok_of q1
  obtain ⟨k,n,e,h1,rfl⟩:=rngD2_inv d1 hy
  exact ⟨k,n,e,h1,q1 (Itr k (n - k).toNat) G1 H1 s1 w1 jok_rng⟩
end L2
set_option Elab.async false
set_option linter.all false
set_option maxRecDepth 100000
namespace L2
open PySem PySem.Spec PyProof.Rows
variable {PK:Pk} {X:Cx} {a b c e:Expr} {es:List Expr} {pos:Pos} {i j l:List Sl→Tr PyData} {is:List Sl→Tr (List PyData)}
noncomputable def fit (n:Int):Bool:=decide (n.natAbs < 2 ^ 8000)
noncomputable def addD:PyData→PyData→Option PyData
  | .int m,.int n=>some (.int (m+n))
  | .tuple xs,.tuple ys=>if (!xs.isEmpty && small (xs.length+ys.length))=true then some (.tuple (xs++ys)) else none
  | .list xs,.list ys=>if small (xs.length+ys.length)=true then some (.list (xs++ys)) else none
  | _,_=>none
noncomputable def rAddD (K:PySem.W.Frag):R2:=fun x y H Q=>rI0 (fun i j=>.int (i+j)) x y H Q∨rCatT K x y H Q∨rCat x y H Q
theorem op_addD:OpR X (binaryOp .Add) (rAddD X.K):=op_add.or (op_catT.or op_cat)
theorem vo_add {K:PySem.W.Frag}:VOp2 (rAddD K) addD:=fun PK pa m G H x y dx dy dz Q w hx hy hz k=>by
  unfold addD at hz
  split at hz
  · cases hz; cases hx; cases hy
    exact .inl ⟨_,_,rfl,rfl,k.here w (.int _)⟩
  · rename_i xs ys
    split at hz
    · rename_i hc
      rw [Bool.and_eq_true] at hc
      have h1:xs.isEmpty=false:=by simpa using hc.1
      have h2:xs.length+ys.length≤sizeLine:=of_decide_eq_true hc.2
      cases hz
      cases hx with
      | tup a1 a2 =>
        cases hy with
        | tup b1 b2 =>
          refine .inr (.inl ⟨_,_,_,_,rfl,rfl,SqT.of (w.sub _ _ a1),SqT.of (w.sub _ _ b1),?_,by rw [a2.length,b2.length]; exact h2,fun e=>?_,fun e p hp=>k.tup w (a2.append b2) hp⟩)
          · intro e
            rw [← a2.isEmpty,e] at h1
            cases h1
          · subst e
            cases b2
            refine k.here w ?_
            rw [List.append_nil]
            exact .tup a1 a2
    · cases hz
  · rename_i xs ys
    split at hz
    · rename_i hc
      have h2:xs.length+ys.length≤sizeLine:=of_decide_eq_true hc
      cases hz
      cases hx with
      | lst a1 a2 =>
        cases hy with
        | lst b1 b2=>exact .inr (.inr ⟨_,_,_,_,rfl,rfl,w.sub _ _ a1,w.sub _ _ b1,by rw [a2.length,b2.length]; exact h2,fun p hp=>k.lst w (a2.append b2) hp⟩)
    · cases hz
  · cases hz
noncomputable def subD:PyData→PyData→Option PyData
  | .int m,.int n=>some (.int (m - n))
  | _,_=>none
theorem vo_sub:VOp2 (rI0 fun i j=>.int (i - j)) subD:=fun PK pa m G H x y dx dy dz Q w hx hy hz k=>by
  unfold subD at hz
  split at hz
  · cases hz; cases hx; cases hy
    exact ⟨_,_,rfl,rfl,k.here w (.int _)⟩
  · cases hz
theorem DnAll.rep {H:Hp} {vs:List V} {ds:List PyData} (h:DnAll H vs ds):∀ k:Nat,DnAll H (List.replicate k vs).flatten (List.replicate k ds).flatten
  | 0=>.nil
  | k+1=>by
    rw [List.replicate_succ,List.replicate_succ,List.flatten_cons,List.flatten_cons]
    exact h.append (h.rep k)
noncomputable def rMulD (K:PySem.W.Frag):R2:=fun x y H Q=>rI CMulG (fun i j=>.int (i * j)) x y H Q∨rRepT K x y H Q∨rRep x y H Q
theorem op_mulD:OpR X (binaryOp .Mult) (rMulD X.K):=op_mulG.or (op_repT.or op_rep)
noncomputable def mulD':PyData→PyData→Option PyData
  | .int m,.int n=>if (fit m && fit n)=true then some (.int (m * n)) else none
  | .tuple xs,.int n=>if (decide (1 < n) && decide (n≤1000) && !xs.isEmpty && decide (xs.length≤1000))=true then some (.tuple (List.replicate n.toNat xs).flatten) else none
  | .list xs,.int n=>if (decide (-(2 ^ 63)≤n) && decide (n < 2 ^ 63) && small (xs.length * n.toNat))=true then some (.list (List.replicate n.toNat xs).flatten) else none
  | _,_=>none
theorem vo_mul {K:PySem.W.Frag}:VOp2 (rMulD K) mulD':=fun PK pa m G H x y dx dy dz Q w hx hy hz k=>by
  unfold mulD' at hz
  split at hz
  · split at hz
    · rename_i hc
      rw [Bool.and_eq_true] at hc
      cases hz; cases hx; cases hy
      exact .inl ⟨_,_,rfl,rfl,⟨of_decide_eq_true hc.1,of_decide_eq_true hc.2⟩,k.here w (.int _)⟩
    · cases hz
  · split at hz
    · rename_i hc
      simp only [Bool.and_eq_true,decide_eq_true_eq,Bool.not_eq_true'] at hc
      cases hz; cases hy
      cases hx with
      | tup a1 a2 =>
        refine .inr (.inl ⟨_,_,_,rfl,rfl,SqT.of (w.sub _ _ a1),hc.1.1.1,hc.1.1.2,?_,by rw [a2.length]; exact hc.2,fun p hp=>k.tup w (a2.rep _) hp⟩)
        intro e
        have:=hc.1.2
        rw [← a2.isEmpty,e] at this
        cases this
    · cases hz
  · split at hz
    · rename_i hc
      simp only [Bool.and_eq_true,decide_eq_true_eq] at hc
      cases hz; cases hy
      cases hx with
      | lst a1 a2=>exact .inr (.inr ⟨_,_,_,rfl,rfl,w.sub _ _ a1,hc.1.1,hc.1.2,by rw [a2.length]; exact of_decide_eq_true hc.2,fun p hp=>k.lst w (a2.rep _) hp⟩)
    · cases hz
  · cases hz
noncomputable def fdivD:PyData→PyData→Option PyData
  | .int m,.int n=>if (decide (n≠0) && fit n)=true then some (.int (m.fdiv n)) else none
  | _,_=>none
theorem vo_fdiv:VOp2 (rI CDivG fun i j=>.int (i.fdiv j)) fdivD:=fun PK pa m G H x y dx dy dz Q w hx hy hz k=>by
  unfold fdivD at hz
  split at hz
  · split at hz
    · rename_i hc
      rw [Bool.and_eq_true] at hc
      cases hz; cases hx; cases hy
      exact ⟨_,_,rfl,rfl,⟨of_decide_eq_true hc.1,of_decide_eq_true hc.2⟩,k.here w (.int _)⟩
    · cases hz
  · cases hz
noncomputable def modD:PyData→PyData→Option PyData
  | .int m,.int n=>if decide (n≠0)=true then some (.int (m.fmod n)) else none
  | _,_=>none
theorem vo_mod:VOp2 (rI (fun _ j=>j≠0) fun i j=>.int (i.fmod j)) modD:=fun PK pa m G H x y dx dy dz Q w hx hy hz k=>by
  unfold modD at hz
  split at hz
  · split at hz
    · rename_i hc
      cases hz; cases hx; cases hy
      exact ⟨_,_,rfl,rfl,of_decide_eq_true hc,k.here w (.int _)⟩
    · cases hz
  · cases hz
noncomputable def powD:PyData→PyData→Option PyData
  | .int m,.int n=>if (decide (0≤n) && decide (n≤1000000) && decide (m.natAbs < 2 ^ 64))=true then some (.int (m ^ n.toNat)) else none
  | _,_=>none
theorem vo_pow:VOp2 (rI CPow fun i j=>.int (i ^ j.toNat)) powD:=fun PK pa m G H x y dx dy dz Q w hx hy hz k=>by
  unfold powD at hz
  split at hz
  · split at hz
    · rename_i hc
      simp only [Bool.and_eq_true,decide_eq_true_eq] at hc
      cases hz; cases hx; cases hy
      exact ⟨_,_,rfl,rfl,⟨hc.1.1,hc.1.2,hc.2⟩,k.here w (.int _)⟩
    · cases hz
  · cases hz
noncomputable def aNeg (i:List Sl→Tr PyData):List Sl→Tr PyData:=fun ρ=>(i ρ).bind fun x=>match x with
  | .int n=>.ret (.int (-n))
  | _=>.fail
theorem ae_neg (ha:PE X a (TAe PK i)):PE X (.UnaryOp .USub a pos) (TAe PK (aNeg i)):=(pe_un un_neg ha).imp fun σ H Q hz0=>by
  obtain ⟨pa,G₀,H₀,m,ρ,G,R,z⟩:=hz0
  refine TAe.then R z fun m1 x v G1 H1 s1 w1 R1 d1 q1=>?_
  cases d1 with
  | int n=>exact ⟨n,rfl,(Kn.later q1 s1 w1.some).here w1 (.int _)⟩
  | _=>exact q1.elim
noncomputable def cmpD (f:Int→Int→Bool):PyData→PyData→Option PyData
  | .int m,.int n=>some (.bool (f m n))
  | _,_=>none
theorem vo_cmp {f:Int→Int→Bool}:VOp2 (rI0 fun i j=>.bl (f i j)) (cmpD f):=fun PK pa m G H x y dx dy dz Q w hx hy hz k=>by
  unfold cmpD at hz
  split at hz
  · cases hz; cases hx; cases hy
    exact ⟨_,_,rfl,rfl,k.here w (.bl _)⟩
  · cases hz
noncomputable def eqD:PyData→PyData→Option PyData
  | .str m,.str n=>some (.bool (m == n))
  | x,y=>if (SeqAt.shaped x && SeqAt.shaped y)=true then some (.bool (PyData.eqv x y)) else none
noncomputable def neD:PyData→PyData→Option PyData
  | .str m,.str n=>some (.bool (!(m == n)))
  | x,y=>if (SeqAt.shaped x && SeqAt.shaped y)=true then some (.bool (!PyData.eqv x y)) else none
noncomputable def rEqD:R2:=fun x y H Q=>rEq x y H Q∨∃ d e,Dn H x d∧Dn H y e∧SeqAt.shaped d=true∧SeqAt.shaped e=true∧Q (.bl (PyData.eqv d e)) H
noncomputable def rNeD:R2:=fun x y H Q=>rNe x y H Q∨∃ d e,Dn H x d∧Dn H y e∧SeqAt.shaped d=true∧SeqAt.shaped e=true∧Q (.bl (!PyData.eqv d e)) H
theorem op_eqA {k:Nat} (hr:Room k X.A):OpR X (compareOp .Eq) rEqD:=op_eq.or (op_eqD hr)
theorem op_neA {k:Nat} (hr:Room k X.A):OpR X (compareOp .NotEq) rNeD:=op_ne.or (op_neD hr)
theorem vo_eq:VOp2 rEqD eqD:=fun PK pa m G H x y dx dy dz Q w hx hy hz k=>by
  unfold eqD at hz
  split at hz
  · cases hz; cases hx; cases hy
    exact .inl ⟨rfl,by rw [dec_str]; exact k.here w (.bl _)⟩
  · split at hz
    · rename_i hc
      rw [Bool.and_eq_true] at hc
      cases hz
      exact .inr ⟨_,_,hx.mono w.sub,hy.mono w.sub,hc.1,hc.2,k.here w (.bl _)⟩
    · cases hz
theorem vo_ne:VOp2 rNeD neD:=fun PK pa m G H x y dx dy dz Q w hx hy hz k=>by
  unfold neD at hz
  split at hz
  · cases hz; cases hx; cases hy
    exact .inl ⟨rfl,by rw [dec_str]; exact k.here w (.bl _)⟩
  · split at hz
    · rename_i hc
      rw [Bool.and_eq_true] at hc
      cases hz
      exact .inr ⟨_,_,hx.mono w.sub,hy.mono w.sub,hc.1,hc.2,k.here w (.bl _)⟩
    · cases hz
noncomputable def isBD:PyData→PyData→Option PyData
  | .bool m,.bool n=>some (.bool (m == n))
  | _,_=>none
theorem vo_isB:VOp2 (fun x y H Q=>∃ a b,x=.bl a∧y=.bl b∧Q (.bl (a == b)) H) isBD:=fun PK pa m G H x y dx dy dz Q w hx hy hz k=>by
  unfold isBD at hz
  split at hz
  · cases hz; cases hx; cases hy
    exact ⟨_,_,rfl,rfl,k.here w (.bl _)⟩
  · cases hz
noncomputable def isNo:PyData→Bool
  | .none=>true
  | _=>false
noncomputable def isND:PyData→PyData→Option PyData:=fun x y=>if isNo y=true then some (.bool (isNo x)) else none
theorem Dn.no {G:Hp} {v:V} {x:PyData} (h:Dn G v x):decide (v=.non)=isNo x:=by
  cases h <;> simp [isNo]
theorem vo_isN:VOp2 (fun x y H Q=>y=.non∧Q (.bl (decide (x=.non))) H) isND:=fun PK pa m G H x y dx dy dz Q w hx hy hz k=>by
  unfold isND at hz
  split at hz
  · rename_i hc
    cases hz
    refine ⟨?_,by rw [hx.no]; exact k.here w (.bl _)⟩
    rw [← hy.no] at hc
    exact of_decide_eq_true hc
  · cases hz
noncomputable def ixD:PyData→PyData→Option PyData
  | .list xs,.int n=>atI xs n
  | .tuple xs,.int n=>atI xs n
  | _,_=>none
theorem DnAll.at {H:Hp} {vs:List V} {ds:List PyData} {n:Int} {d:PyData} (h:DnAll H vs ds) (e:atI ds n=some d):∃ v,atI vs n=some v∧Dn H v d:=by
  unfold atI at e ⊢
  rw [← h.length] at e
  cases hn:ixN vs.length n with
  | none=>rw [hn] at e; cases e
  | some j =>
    rw [hn] at e
    exact h.get j e
theorem vo_ix {K:PySem.W.Frag}:VOp2 (rIx K) ixD:=fun PK pa m G H x y dx dy dz Q w hx hy hz k=>by
  unfold ixD at hz
  split at hz
  · cases hy
    cases hx with
    | lst a1 a2 =>
      obtain ⟨v,h1,h2⟩:=a2.at hz
      exact .inl ⟨_,_,_,v,rfl,rfl,SqL.of (w.sub _ _ a1),h1,k.here w h2⟩
  · cases hy
    cases hx with
    | tup a1 a2 =>
      obtain ⟨v,h1,h2⟩:=a2.at hz
      exact .inr (.inl ⟨_,_,_,v,rfl,rfl,SqT.of (w.sub _ _ a1),h1,k.here w h2⟩)
  · cases hz

noncomputable def lenD:List PyData→Option PyData
  | [.list xs]=>some (.int xs.length)
  | [.tuple xs]=>some (.int xs.length)
  | _=>none
theorem vc_len {K:PySem.W.Frag}:VCl (fun xs H Q=>∃ p ys,xs=[.ref p]∧(SqL K H p ys∨SqT K H p ys)∧Q (.int ys.length) H) lenD:=fun PK pa m G H vs ds d Q w hv hd k=>by
  unfold lenD at hd
  split at hd
  · cases hd
    cases hv with
    | cons h1 h2 =>
      cases h2
      cases h1 with
      | lst a1 a2=>exact ⟨_,_,rfl,.inl (SqL.of (w.sub _ _ a1)),by rw [a2.length]; exact k.here w (.int _)⟩
  · cases hd
    cases hv with
    | cons h1 h2 =>
      cases h2
      cases h1 with
      | tup a1 a2=>exact ⟨_,_,rfl,.inr (SqT.of (w.sub _ _ a1)),by rw [a2.length]; exact k.here w (.int _)⟩
  · cases hd
noncomputable def absI (n:Int):Int:=if n < 0 then -n else n
noncomputable def absD:List PyData→Option PyData
  | [.int n]=>some (.int (absI n))
  | _=>none
theorem vc_abs:VCl (fun xs H Q=>∃ i,xs=[.int i]∧Q (.int (if i < 0 then -i else i)) H) absD:=fun PK pa m G H vs ds d Q w hv hd k=>by
  unfold absD at hd
  split at hd
  · cases hd
    cases hv with
    | cons h1 h2=>cases h2; cases h1; exact ⟨_,rfl,k.here w (.int _)⟩
  · cases hd
noncomputable def maxI (m n:Int):Int:=if n > m then n else m
noncomputable def max2D:List PyData→Option PyData
  | [.int m,.int n]=>some (.int (maxI m n))
  | _=>none
theorem vc_max2:VCl (fun xs H Q=>∃ i j,xs=[.int i,.int j]∧Q (.int (if j > i then j else i)) H) max2D:=fun PK pa m G H vs ds d Q w hv hd k=>by
  unfold max2D at hd
  split at hd
  · cases hd
    cases hv with
    | cons h1 h2=>cases h2 with | cons h2 h3=>cases h3; cases h1; cases h2; exact ⟨_,_,rfl,k.here w (.int _)⟩
  · cases hd
noncomputable def intD:List PyData→Option PyData
  | [.int n]=>some (.int n)
  | [.bool n]=>some (.int (if n then 1 else 0))
  | _=>none
theorem vc_int:VCl (fun xs H Q=>(∃ i,xs=[.int i]∧Q (.int i) H)∨∃ k,xs=[.bl k]∧Q (.int (if k then 1 else 0)) H) intD:=fun PK pa m G H vs ds d Q w hv hd k=>by
  unfold intD at hd
  split at hd
  · cases hd
    cases hv with
    | cons h1 h2=>cases h2; cases h1; exact .inl ⟨_,rfl,k.here w (.int _)⟩
  · cases hd
    cases hv with
    | cons h1 h2=>cases h2; cases h1; exact .inr ⟨_,rfl,k.here w (.int _)⟩
  · cases hd
noncomputable def tupD:List PyData→Option PyData
  | [.list xs]=>some (.tuple xs)
  | [.tuple xs]=>some (.tuple xs)
  | _=>none
theorem vc_tup {K:PySem.W.Frag}:VCl (fun xs H Q=>∃ p ys,xs=[.ref p]∧((SqL K H p ys∧∀ l,H l=none→Q (.ref l) (upd H l (.tup ys)))∨(SqT K H p ys∧Q (.ref p) H))) tupD:=fun PK pa m G H vs ds d Q w hv hd k=>by
  unfold tupD at hd
  split at hd
  · cases hd
    cases hv with
    | cons h1 h2 =>
      cases h2
      cases h1 with
      | lst a1 a2=>exact ⟨_,_,rfl,.inl ⟨SqL.of (w.sub _ _ a1),fun p hp=>k.tup w a2 hp⟩⟩
  · cases hd
    cases hv with
    | cons h1 h2 =>
      cases h2
      cases h1 with
      | tup a1 a2=>exact ⟨_,_,rfl,.inr ⟨SqT.of (w.sub _ _ a1),k.here w (.tup a1 a2)⟩⟩
  · cases hd
noncomputable def lstD:List PyData→Option (List PyData)
  | [.list xs]=>some xs
  | [.tuple xs]=>some xs
  | _=>none
theorem vc_lst {K:PySem.W.Frag}:VClo (fun xs H Q=>∃ p ys,xs=[.ref p]∧(SqL K H p ys∨SqT K H p ys)∧∀ l,H l=none→Q (.ref l) (upd H l (.lst ys))) lstD:=fun PK pa m G H vs ds d Q w hv hd k=>by
  unfold lstD at hd
  split at hd
  · cases hd
    cases hv with
    | cons h1 h2 =>
      cases h2
      cases h1 with
      | lst a1 a2=>exact ⟨_,_,rfl,.inl (SqL.of (w.sub _ _ a1)),fun p hp=>k.new w a2 hp⟩
  · cases hd
    cases hv with
    | cons h1 h2 =>
      cases h2
      cases h1 with
      | tup a1 a2=>exact ⟨_,_,rfl,.inr (SqT.of (w.sub _ _ a1)),fun p hp=>k.new w a2 hp⟩
  · cases hd
noncomputable def reprOk (d:PyData):Bool:=!d.hasDict && d.showable && decide (d.depth≤32) && decide (d.shown.length≤sizeLine)
noncomputable def reprD:List PyData→Option PyData
  | [d]=>if reprOk d=true then some (.str d.shown) else none
  | _=>none
theorem vc_repr:VCl (fun xs H Q=>∃ v d,xs=[v]∧Dn H v d∧d.hasDict=false∧d.showable=true∧d.depth≤32∧d.shown.length≤sizeLine∧Q (.str d.shown) H) reprD:=fun PK pa m G H vs ds d Q w hv hd k=>by
  unfold reprD at hd
  split at hd
  · split at hd
    · rename_i hc
      unfold reprOk at hc
      simp only [Bool.and_eq_true,decide_eq_true_eq,Bool.not_eq_true'] at hc
      cases hd
      cases hv with
      | cons h1 h2=>cases h2; exact ⟨_,_,rfl,h1.mono w.sub,hc.1.1.1,hc.1.1.2,hc.1.2,hc.2,k.here w (.str _)⟩
    · cases hd
  · cases hd
noncomputable def tyD:PyData→String
  | .none=>"NoneType"
  | .bool _=>"bool"
  | .int _=>"int"
  | .str _=>"str"
  | .list _=>"list"
  | .tuple _=>"tuple"
  | .dict _=>"dict"
theorem Dn.ty {K:PySem.W.Frag} {G H:Hp} (sb:Sub G H) {v:V} {d:PyData} (h:Dn G v d):TyOf K H v (.type (tyD d)):=by
  cases h with
  | non=>exact .non
  | bl b=>exact .bl b
  | int i=>exact .int i
  | str x=>exact .str x
  | tup h _=>exact .tup (sb _ _ h)
  | lst h _=>exact .lst (sb _ _ h)
  | dct h _=>exact .dK (sb _ _ h)
noncomputable def isiB (T:String) (t:String):Bool:=decide (t=T) || (decide (T="int") && decide (t="bool"))
noncomputable def aIsi (T:String) (i:List Sl→Tr PyData):List Sl→Tr PyData:=fun ρ=>(i ρ).bind fun x=>.ret (.bool (isiB T (tyD x)))
noncomputable def isiT (T:String):Prop:=T="int"∨T="bool"∨T="str"∨T="list"∨T="tuple"∨T="dict"
theorem kit_all {K:PySem.W.Frag} {T:String} (h:isiT T) (d:PyData):PySem.W.kitOne K (.type (tyD d)) (.type T)=some (isiB T (tyD d)):=by
  rcases h with rfl | rfl | rfl | rfl | rfl | rfl <;> cases d <;> rfl
theorem ae_isi {T:String} {tc:TE} (hT:isiT T) (htc:tc=tC (.ty T)) (h:PE X e (tCB (fun xs H Q=>∃ x T t b,xs=[x,.ty T]∧TyOf X.K H x t∧PySem.W.kitOne X.K t (.type T)=some b∧Q (.bl b) H) (tCons (TAe PK i) (tCons tc tNil)))):PE X e (TAe PK (aIsi T i)):=h.imp fun σ H Q hz0=>by
  obtain ⟨pa,G₀,H₀,m,ρ,G,R,z⟩:=hz0
  subst htc
  refine TAe.then R z fun m1 x v G1 H1 s1 w1 R1 d1 q1=>?_
  exact ⟨v,T,_,_,rfl,d1.ty w1.sub,kit_all hT x,(Kn.later q1 s1 w1.some).here w1 (.bl _)⟩
noncomputable def cutD (xs:List PyData) (lo hi:Option Int):List PyData:=(xs.drop (HT.sIx xs.length 0 lo)).take (HT.sIx xs.length xs.length hi - HT.sIx xs.length 0 lo)
theorem DnAll.take {H:Hp}:∀ {vs:List V} {ds:List PyData} (n:Nat),DnAll H vs ds→DnAll H (vs.take n) (ds.take n)
  | _,_,0,_=>.nil
  | _,_,_+1,.nil=>.nil
  | _,_,n+1,.cons r t=>.cons r (DnAll.take n t)
theorem DnAll.drop {H:Hp}:∀ {vs:List V} {ds:List PyData} (n:Nat),DnAll H vs ds→DnAll H (vs.drop n) (ds.drop n)
  | _,_,0,r=>r
  | _,_,_+1,.nil=>.nil
  | _,_,n+1,.cons r t=>DnAll.drop n t
theorem DnAll.cut {H:Hp} {vs:List V} {ds:List PyData} (h:DnAll H vs ds) (lo hi:Option Int):DnAll H (cutV vs lo hi) (cutD ds lo hi):=by
  unfold cutV cutD
  rw [h.length]
  exact (h.drop _).take _
noncomputable abbrev aPart:=List Sl→Tr (Option Int)
noncomputable def aP0:aPart:=fun _=>.ret none
noncomputable def aP1 (i:List Sl→Tr PyData):aPart:=fun ρ=>(i ρ).bind fun x=>match x with
  | .int n=>.ret (some n)
  | _=>.fail
noncomputable def TAp (PK:Pk) (i:aPart):TO:=fun σ H Q=>∃ pa G₀ H₀ m ρ G,Rl PK pa G₀ H₀ m σ ρ G H∧(i ρ).ok m fun m' x=>∀ G' H',Stp pa G H G' H'→Wd PK pa m' G' H'→Q x H'
theorem PO.imp {e:Option Expr} {t t':TO} (h:PO X e t) (q:∀ σ H Q,t' σ H Q→t σ H Q):PO X e t':=fun pins s σ H Q I z=>h pins s σ H Q I (q σ H Q z)
theorem ap_none:PO X none (TAp PK aP0):=po_none.imp fun σ H Q hz0=>by
  obtain ⟨pa,G₀,H₀,m,ρ,G,R,z⟩:=hz0
  exact z G H .refl R.wd
theorem ap_some (h:PE X e (TAe PK i)):PO X (some e) (TAp PK (aP1 i)):=(po_some h).imp fun σ H Q hz0=>by
  obtain ⟨pa,G₀,H₀,m,ρ,G,R,z⟩:=hz0
  refine TAe.then R z fun m1 x v G1 H1 s1 w1 R1 d1 q1=>?_
  cases d1 with
  | int n=>exact ⟨n,rfl,q1 G1 H1 s1 w1⟩
  | _=>exact q1.elim
theorem getItem_tuple_whole {prog:Program} {w:World} {A:Around} {E:Value→Shared→Prop} {s:Shared} {t sl:Addr} {items:Array Value} {vl vu:Value} {lo hi:Option Int} {Q:Value→Shared→Prop} (ht:IsTup s.heap t items) (hs:s.heap.IsSliceOf sl vl vu .none) (pl:IsPart vl lo) (pu:IsPart vu hi)
    (hw:HT.sIx items.size 0 lo=0∧HT.sIx items.size items.size hi=items.size) (h:Q (.ref t) s):wpAny (model prog w) A (getItem (.ref t) (.ref sl)) Q E s:=by
  obtain ⟨os,hos,hcs,hds⟩:=id hs
  have hTs:s.TypeIs (.ref sl) "slice":=⟨os,hos,hcs⟩
  unfold getItem
  try with_reducible refine wpAny_holding ?_
  first | refine wpAny_bind (wpAny_pure ?_) | skip
  refine wpAny_bind (wpAny_sequenceKey ht.typeIs (by decide) ?_)
  refine wpAny_bind (wpAny_callSpecial?_slot (name:=Str.ofString "__getitem__") ht.typeIs PyProof.Rows.slot_tuple_getitem
    (wpAny_call_entry PyProof.Rows.slot_tuple_getitem ht.typeIs entry_tuple_getitem ?_ (args_tuple_getitem _ _)))
  show wpAny _ _ (Builtin.Tuple.tupleItemsOf (.ref t) >>= _) _ _ s
  refine wpAny_bind (tupleItemsOf_ ht ?_)
  refine wpAny_bind (wpAny_typeOf hTs ?_)
  rw [if_pos (by decide)]
  refine wpAny_bind (HT.sliceApplied_gen hs pl pu ?_)
  have hyes:(((HT.sIx items.size 0 lo:Nat):Int) == 0 && (1:Int) == 1 && (HT.sIx items.size items.size hi - HT.sIx items.size 0 lo) == items.size)=true:=by
    rw [hw.1,hw.2]
    simp
  show wpAny _ _ (if (((HT.sIx items.size 0 lo:Nat):Int) == 0 && (1:Int) == 1 && (HT.sIx items.size items.size hi - HT.sIx items.size 0 lo) == items.size)=true then _ else _) _ _ s
  rw [if_pos hyes]
  refine wpAny_bind (m:=Builtin.Tuple.tupleIsExact (.ref t)) ?_
  unfold Builtin.Tuple.tupleIsExact
  refine wpAny_bind (wpAny_typeOf ht.typeIs ?_)
  refine wpAny_pure ?_
  rw [if_pos (by decide)]
  refine wpAny_bind (wpAny_rule ?_)
  exact wpAny_pure ⟨_,rfl,wpAny_pure h⟩
noncomputable def rSlTw (K:PySem.W.Frag):V→Option Int→Option Int→Hp→VK→Prop:=fun x lo hi H Q=>∃ a xs,x=.ref a∧SqT K H a xs∧(HT.sIx xs.length 0 lo=0∧HT.sIx xs.length xs.length hi=xs.length)∧Q (.ref a) H
theorem sl_tupW:SlR X (rSlTw X.K):=by
  intro pins s σ H x v vl vu lo hi sl Q I rx hs pl pu h
  obtain ⟨a,xs,rfl,hx,hw,q⟩:=h
  cases rx
  obtain ⟨its,r,ht,hz⟩:=I.tuple hx
  have hlen:its.toArray.size=xs.length:=by rw [List.size_toArray]; exact r.length.symm
  refine ⟨"tuple",_,PyProof.Rows.slot_tuple_getitem.lookup,ht.typeIs,?_⟩
  exact getItem_tuple_whole ht hs pl pu (by rw [hlen]; exact hw) ⟨.ref a,H,I,rfl,q⟩
noncomputable def rSlD (K:PySem.W.Frag):V→Option Int→Option Int→Hp→VK→Prop:=fun x lo hi H Q=>rSlL K x lo hi H Q∨rSlT K x lo hi H Q∨rSlTw K x lo hi H Q
theorem sl_all:SlR X (rSlD X.K):=sl_list.or (sl_tup.or sl_tupW)
noncomputable def sliceD (x:PyData) (lo hi:Option Int):Option PyData:=match x with
  | .list xs=>some (.list (cutD xs lo hi))
  | .tuple xs=>some (.tuple (cutD xs lo hi))
  | _=>none
noncomputable def aSl (i:List Sl→Tr PyData) (p q:aPart):List Sl→Tr PyData:=fun ρ=>(i ρ).bind fun x=>(p ρ).bind fun lo=>(q ρ).bind fun hi=>Tr.of (sliceD x lo hi)
theorem TAp.then {p:aPart} {σ:St} {H:Hp} {β:Type} {k:Option Int→Tr β} {Z:Nat→β→Prop} {Q:Option Int→Hp→Prop} {pa:Addr} {G₀ H₀ G:Hp} {m:Nat} {ρ:List Sl} (R:Rl PK pa G₀ H₀ m σ ρ G H) (h:((p ρ).bind k).ok m Z)
    (hq:∀ m1 x G1 H1,Stp pa G H G1 H1→Wd PK pa m1 G1 H1→Rl PK pa G₀ H₀ m1 σ ρ G1 H1→(k x).ok m1 Z→Q x H1):TAp PK p σ H Q:=by
  refine ⟨pa,G₀,H₀,m,ρ,G,R,Tr.ok_mono (Tr.ok_bind.mp h) fun m1 x hx G1 H1 s1 w1=>?_⟩
  exact hq m1 x G1 H1 s1 w1 (R.step s1 w1) hx
theorem ae_sl {p q:aPart} {lo hi:Option Expr} {p2:Pos} (he:PE X e (TAe PK i)) (hl:PO X lo (TAp PK p)) (hu:PO X hi (TAp PK q)):PE X (.Subscript e (.Slice lo hi none p2) pos) (TAe PK (aSl i p q)):=(pe_slice sl_all he hl hu).imp fun σ H Q hz0=>by
  obtain ⟨pa,G₀,H₀,m,ρ,G,R,z⟩:=hz0
  refine TAe.then R z fun m1 x v G1 H1 s1 w1 R1 d1 q1=>?_
  refine TAp.then R1 q1 fun m2 lo G2 H2 s2 w2 R2 q2=>?_
  refine TAp.then R2 q2 fun m3 hi G3 H3 s3 w3 R3 q3=>?_
  obtain ⟨d,hd,k⟩:=Tr.ok_of q3
  have s13:=(s1.trans s2 w1.some).trans s3 w2.some
  have k':=Kn.later k s13 w3.some
  have d3:=d1.mono (s2.gs.trans s3.gs)
  cases d3 with
  | lst a1 a2=>cases hd; exact .inl ⟨_,_,rfl,SqL.of (w3.sub _ _ a1),fun p hp=>k'.lst w3 (a2.cut lo hi) hp⟩
  | @tup a xs ds a1 a2 =>
    cases hd
    by_cases hw:HT.sIx xs.length 0 lo=0∧HT.sIx xs.length xs.length hi=xs.length
    · refine .inr (.inr ⟨_,_,rfl,SqT.of (w3.sub _ _ a1),hw,k'.here w3 ?_⟩)
      have e:cutD ds lo hi=ds:=by
        unfold cutD
        rw [← a2.length,hw.1,hw.2]
        simp
        rw [a2.length]
        exact List.take_length
      rw [e]
      exact .tup a1 a2
    · exact .inr (.inl ⟨_,_,rfl,SqT.of (w3.sub _ _ a1),hw,fun p hp=>k'.tup w3 (a2.cut lo hi) hp⟩)
  | _=>cases hd
theorem DnAll.range {H:Hp} (lo:Int) (n:Nat):DnAll H (rangeV lo n) ((rangeI lo n).map PyData.int):=by
  rw [rangeV_eq]
  exact DnAll.ints _
noncomputable def rngOk (lo hi:Int):Bool:=inR lo && inR hi && decide ((hi - lo).toNat≤1000)
noncomputable def rngV2:List PyData→Option (List PyData)
  | [.int lo,.int hi]=>if rngOk lo hi=true then some (rngL lo hi) else none
  | _=>none
theorem rngV2_inv {G:Hp} {vs:List V} {xs ys:List PyData} (d:DnAll G vs xs) (h:rngV2 xs=some ys):∃ k n:Int,vs=[.int k,.int n]∧(-(2 ^ 62)≤k∧k < 2 ^ 62∧-(2 ^ 62)≤n∧n < 2 ^ 62∧(n - k).toNat≤1000)∧ys=rngL k n:=by
  unfold rngV2 at h
  split at h
  · split at h
    · rename_i hn
      cases h
      cases d with
      | cons d1 d2 =>
        cases d2 with
        | cons d2 d3 =>
          cases d3
          cases d1
          cases d2
          unfold rngOk at hn
          rw [Bool.and_eq_true,Bool.and_eq_true] at hn
          have h1:=of_decide_eq_true hn.1.1
          have h2:=of_decide_eq_true hn.1.2
          exact ⟨_,_,rfl,⟨h1.1,h1.2,h2.1,h2.2,of_decide_eq_true hn.2⟩,rfl⟩
    · cases h
  · cases h
noncomputable def tRngT (t:TA):TE:=tCB (fun xs H Q=>∃ a lo hi,xs=[.ref a]∧H a=some (.rng lo hi)∧-(2 ^ 62)≤lo∧lo < 2 ^ 62∧-(2 ^ 62)≤hi∧hi < 2 ^ 62∧(hi - lo).toNat≤1000∧∀ p,H p=none→Q (.ref p) (upd H p (.tup (rangeV lo (hi - lo).toNat))))
  (tCons (tCB (fun xs H Q=>∃ i j:Int,xs=[.int i,.int j]∧∀ p,H p=none→Q (.ref p) (upd H p (.rng i j))) t) tNil)
noncomputable def tRngL (t:TA):TE:=tCB (fun xs H Q=>∃ a lo hi,xs=[.ref a]∧H a=some (.rng lo hi)∧-(2 ^ 62)≤lo∧lo < 2 ^ 62∧-(2 ^ 62)≤hi∧hi < 2 ^ 62∧(hi - lo).toNat≤1000∧∀ p,H p=none→Q (.ref p) (upd H p (.lst (rangeV lo (hi - lo).toNat))))
  (tCons (tCB (fun xs H Q=>∃ i j:Int,xs=[.int i,.int j]∧∀ p,H p=none→Q (.ref p) (upd H p (.rng i j))) t) tNil)
noncomputable def aTupR (is:List Sl→Tr (List PyData)):List Sl→Tr PyData:=fun ρ=>(is ρ).bind fun xs=>(Tr.of (rngV2 xs)).bind fun ys=>.ret (.tuple ys)
noncomputable def aLstR (is:List Sl→Tr (List PyData)):List Sl→Tr (List PyData):=fun ρ=>(is ρ).bind fun xs=>Tr.of (rngV2 xs)
theorem ae_tupR (h:PE X e (tRngT (TAd PK is))):PE X e (TAe PK (aTupR is)):=h.imp fun σ H Q hz0=>by
  obtain ⟨pa,G₀,H₀,m,ρ,G,R,z⟩:=hz0
  refine TAd.then R z fun m1 xs vs G1 H1 s1 w1 R1 d1 q1=>?_
  rw [Tr.ok_bind] at q1
  obtain ⟨ys,hy,k⟩:=Tr.ok_of q1
  obtain ⟨lo,hi,rfl,⟨b1,b2,b3,b4,b5⟩,rfl⟩:=rngV2_inv d1 hy
  refine ⟨lo,hi,rfl,fun p hp=>?_⟩
  obtain ⟨w2,s2⟩:=w1.own (o:=.rng lo hi) hp
  refine ⟨p,lo,hi,rfl,upd_same,b1,b2,b3,b4,b5,fun q hq=>?_⟩
  exact (Kn.later k (s1.trans s2 w1.some) w2.some).tup w2 (DnAll.range _ _) hq
theorem ao_lstR (h:PE X e (tRngL (TAd PK is))):PE X e (TAo PK (aLstR is)):=h.imp fun σ H Q hz0=>by
  obtain ⟨pa,G₀,H₀,m,ρ,G,R,z⟩:=hz0
  refine TAd.then R z fun m1 xs vs G1 H1 s1 w1 R1 d1 q1=>?_
  obtain ⟨ys,hy,k⟩:=Tr.ok_of q1
  obtain ⟨lo,hi,rfl,⟨b1,b2,b3,b4,b5⟩,rfl⟩:=rngV2_inv d1 hy
  refine ⟨lo,hi,rfl,fun p hp=>?_⟩
  obtain ⟨w2,s2⟩:=w1.own (o:=.rng lo hi) hp
  refine ⟨p,lo,hi,rfl,upd_same,b1,b2,b3,b4,b5,fun q hq=>?_⟩
  exact (Ko1.later k (s1.trans s2 w1.some) w2.some).new w2 (DnAll.range _ _) hq
noncomputable def ints?:List PyData→Option (List Int)
  | []=>some []
  | .int n::xs=>(ints? xs).bind fun ns=>some (n::ns)
  | _=>none
@[simp] theorem ints?_map:∀ ns:List Int,ints? (ns.map PyData.int)=some ns
  | []=>rfl
  | n::ns=>by rw [List.map_cons,ints?,ints?_map ns]; rfl
theorem DnAll.ints_inv {H:Hp} {vs:List V} {ds:List PyData} {ns:List Int} (a:DnAll H vs ds) (h:ints? ds=some ns):vs=ns.map V.int∧ds=ns.map PyData.int:=by
  induction vs generalizing ds ns with
  | nil=>cases a; cases h; exact ⟨rfl,rfl⟩
  | cons v vs ih =>
    cases a with
    | cons g t =>
      cases g with
      | int n =>
        unfold ints? at h
        rename_i ds
        cases e:ints? ds with
        | none=>rw [e] at h; cases h
        | some ms =>
          rw [e] at h
          cases h
          obtain ⟨h1,h2⟩:=ih t e
          exact ⟨by rw [h1]; rfl,by rw [h2]; rfl⟩
      | _=>unfold ints? at h; cases h
end L2
set_option Elab.async false
set_option linter.all false
set_option maxRecDepth 100000
namespace L2
open PySem PySem.Spec PyProof.Rows
section
variable {prog:Program} {w:World} {A:Around} {E:Value→Shared→Prop} {s:Shared}
noncomputable def ItAt (b:Bool) (h:Heap) (it a:Addr) (k:Nat):Prop:=match b with
  | true=>h.IsListIter it a k
  | false=>h.IsTupleIter it a k
noncomputable def SqAt (b:Bool) (h:Heap) (a:Addr) (items:Array Value):Prop:=match b with
  | true=>h.IsList a items
  | false=>h.IsTuple a items
theorem ItAt.at {b:Bool} {h h':Heap} {it a:Addr} {k:Nat} (x:ItAt b h it a k) (e:∀ o,h.get? it=some o→h'.get? it=some o):ItAt b h' it a k:=by
  cases b with
  | true=>exact Heap.IsListIter.at x e
  | false=>obtain ⟨o,ho,r⟩:=(show h.IsTupleIter it a k from x); exact ⟨o,e o ho,r⟩
theorem SqAt.at {b:Bool} {h h':Heap} {a:Addr} {items:Array Value} (x:SqAt b h a items) (e:∀ o,h.get? a=some o→h'.get? a=some o):SqAt b h' a items:=by
  cases b with
  | true=>exact Heap.IsList.at x e
  | false=>exact Heap.IsTuple.at x e
theorem ItAt.there {b:Bool} {h:Heap} {it a:Addr} {k:Nat} (x:ItAt b h it a k):∃ o,h.get? it=some o∧∀ v,o.data≠.cell v:=by
  cases b with
  | true=>obtain ⟨o,ho,_,hd⟩:=(show h.IsListIter it a k from x); exact ⟨o,ho,fun v z=>by rw [hd] at z; cases z⟩
  | false=>obtain ⟨o,ho,_,hd⟩:=(show h.IsTupleIter it a k from x); exact ⟨o,ho,fun v z=>by rw [hd] at z; cases z⟩

theorem nextOf_tup_item {it l:Addr} {i:Nat} {items:Array Value} {x:Value} {Q:Value→Shared→Prop} (hit:s.heap.IsTupleIter it l i) (hl:s.heap.IsTuple l items) (hx:items[i]?=some x)
    (hQ:∀ h',h'.IsTupleIter it l (i+1)→Heap.SameBut it s.heap h'→Q x { s with heap:=h' }):wpAny (model prog w) A (Builtin.SmallTypes.nextOf (.ref it)) Q E s:=by
  obtain ⟨o,ho,hc,hd⟩:=id hit; obtain ⟨ol,hol,_,nl,hdl⟩:=hl
  unfold Builtin.SmallTypes.nextOf
  refine wpAny_bind (wpAny_callSpecial?_slot (name:=Str.ofString "__next__") hit.typeIs F.slot_tuple_iterator_next (wpAny_call_entry F.slot_tuple_iterator_next hit.typeIs F.entry_tuple_iterator_next ?_ (F.args_tuple_iterator_next_1 _)))
  show wpAny _ _ (field (.ref it) 0 >>= _) _ _ s; refine wpAny_bind (wpAny_field ho hd (x:=.ref l) rfl ?_)
  show wpAny _ _ (if (Value.ref l == Value.none)=true then _ else _) _ _ s; rw [if_neg (show ¬ ((Value.ref l == Value.none)=true) from Bool.false_ne_true)]
  show wpAny _ _ (field (.ref it) 1 >>= _) _ _ s; refine wpAny_bind (wpAny_field ho hd (x:=.int i 0) rfl ?_)
  show wpAny _ _ (seqItems? (.ref l) >>= _) _ _ s; refine wpAny_bind (wpAny_seqItems hol hdl ?_); simp only [Int.toNat_natCast,hx]
  refine wpAny_bind (wpAny_setField ho hd (by simp) (wpAny_pure ⟨x,rfl,wpAny_pure (hQ _ ⟨_,Heap.get?_update_self _ ho (Obj.isFreed_of_fields (Obj.data_mapFields hd _)),(Obj.cls_mapFields ..).trans hc,?_⟩ (Heap.SameBut.update ..))⟩))
  rw [Obj.data_mapFields hd]; simp [rawInt]
theorem nextOf_tup_end {it l:Addr} {i:Nat} {items:Array Value} {Q:Value→Shared→Prop} (hh:A.handled=none) (hit:s.heap.IsTupleIter it l i) (hl:s.heap.IsTuple l items) (hx:items[i]?=none)
    (hE:∀ h' e,Heap.ExtBut it s.heap h'→(∃ o,h'.get? e=some o∧o.cls=.type "StopIteration")→E (.ref e) { s with heap:=h' }):wpAny (model prog w) A (Builtin.SmallTypes.nextOf (.ref it)) Q E s:=by
  obtain ⟨o,ho,hc,hd⟩:=id hit; obtain ⟨ol,hol,_,nl,hdl⟩:=hl
  unfold Builtin.SmallTypes.nextOf
  refine wpAny_bind (wpAny_callSpecial?_slot (name:=Str.ofString "__next__") hit.typeIs F.slot_tuple_iterator_next (wpAny_call_entry F.slot_tuple_iterator_next hit.typeIs F.entry_tuple_iterator_next ?_ (F.args_tuple_iterator_next_1 _)))
  show wpAny _ _ (field (.ref it) 0 >>= _) _ _ s; refine wpAny_bind (wpAny_field ho hd (x:=.ref l) rfl ?_)
  show wpAny _ _ (if (Value.ref l == Value.none)=true then _ else _) _ _ s; rw [if_neg (show ¬ ((Value.ref l == Value.none)=true) from Bool.false_ne_true)]
  show wpAny _ _ (field (.ref it) 1 >>= _) _ _ s; refine wpAny_bind (wpAny_field ho hd (x:=.int i 0) rfl ?_)
  show wpAny _ _ (seqItems? (.ref l) >>= _) _ _ s; refine wpAny_bind (wpAny_seqItems hol hdl ?_); simp only [Int.toNat_natCast,hx]
  refine wpAny_bind (wpAny_rule (wpAny_bind (wpAny_setField ho hd (by simp) ?_))); show wpAny _ _ (newExc (.type "StopIteration") [] >>= _) _ _ _
  refine wpAny_bind ?_; simp only [newExc,newTuple]; refine wpAny_bind (wpAny_newObj_type ?_ (by size_fits))
  refine wpAny_bind (m:=firstArgMember _ _) (wpAny_of_eq (a:=Value.none) (by first | rfl | (simp only [firstArgMember]; rfl)) ?_); refine wpAny_newObj_type ?_ (by size_fits); simp only [raiseNew]
  refine wpAny_bind (wpAny_handled ?_); first | rw [show A.in1.handled=none from hh] | rw [hh]
  refine wpAny_bind (wpAny_pure (wpAny_throw (hE _ _ (((Heap.SameBut.update ..).extBut.push _).push _) ⟨_,Heap.get?_push_size _ rfl,rfl⟩)))
theorem nextOf_item {b:Bool} {it l:Addr} {i:Nat} {items:Array Value} {x:Value} {Q:Value→Shared→Prop} (hit:ItAt b s.heap it l i) (hl:SqAt b s.heap l items) (hx:items[i]?=some x)
    (hQ:∀ h',ItAt b h' it l (i+1)→Heap.SameBut it s.heap h'→Q x { s with heap:=h' }):wpAny (model prog w) A (Builtin.SmallTypes.nextOf (.ref it)) Q E s:=by
  cases b with
  | true=>exact wpAny_nextOf_list_item hit hl hx hQ
  | false=>exact nextOf_tup_item hit hl hx hQ
theorem nextOf_end {b:Bool} {it l:Addr} {i:Nat} {items:Array Value} {Q:Value→Shared→Prop} (hh:A.handled=none) (hit:ItAt b s.heap it l i) (hl:SqAt b s.heap l items) (hx:items[i]?=none)
    (hE:∀ h' e,Heap.ExtBut it s.heap h'→(∃ o,h'.get? e=some o∧o.cls=.type "StopIteration")→E (.ref e) { s with heap:=h' }):wpAny (model prog w) A (Builtin.SmallTypes.nextOf (.ref it)) Q E s:=by
  cases b with
  | true=>exact wpAny_nextOf_list_end hh hit hl hx hE
  | false=>exact nextOf_tup_end hh hit hl hx hE

theorem ItAt.bt {b:Bool} {h h':Heap} {it a c:Addr} {k:Nat} (x:ItAt b h it a k) (e:Heap.ExtBut c h h') (n:it≠c):ItAt b h' it a k:=x.at fun o q=>e it o n q
theorem SqAt.bt {b:Bool} {h h':Heap} {a c:Addr} {items:Array Value} (x:SqAt b h a items) (e:Heap.ExtBut c h h') (n:a≠c):SqAt b h' a items:=x.at fun o q=>e a o n q
theorem zip_item {b1 b2:Bool} {z TI TO i1 i2 l1 l2:Addr} {k1 k2:Nat} {xs ys:Array Value} {x y a b:Value} {Q:Value→Shared→Prop} (D:ZipApart z TI TO i1 i2 l1 l2)
    (hz:IsZip s.heap z TI TO .none) (hTI:IsPair s.heap TI (.ref i1) (.ref i2)) (hTO:IsPair s.heap TO a b) (h1:ItAt b1 s.heap i1 l1 k1) (h2:ItAt b2 s.heap i2 l2 k2) (hl1:SqAt b1 s.heap l1 xs) (hl2:SqAt b2 s.heap l2 ys) (hx:xs[k1]?=some x) (hy:ys[k2]?=some y)
    (hQ:∀ h',IsZip h' z TI TO (rawInt s.heap.objs.size)→IsPair h' TO x y→ItAt b1 h' i1 l1 (k1+1)→ItAt b2 h' i2 l2 (k2+1)→IsPair h' s.heap.objs.size x y →
      (∀ c o,c≠z→c≠TO→c≠i1→c≠i2→s.heap.get? c=some o→h'.get? c=some o)→Q (.ref s.heap.objs.size) { s with heap:=h' }) :
    wpAny (model prog w) A (Builtin.«zip.__next__» ⟨[.ref z],[]⟩) (fun fin s'=>∃ v,fin=.done (.ret v)∧Q v s') E s:=by
  show wpAny _ _ (field (.ref z) 2 >>= _) _ _ _; refine wpAny_bind (wpAny_field hz rfl (x:=.bool false) rfl ?_)
  show wpAny _ _ (field (.ref z) 3 >>= _) _ _ _; refine wpAny_bind (wpAny_field hz rfl (x:=.ref TI) rfl ?_); refine wpAny_bind (wpAny_seqItems hTI rfl ?_)
  show wpAny _ _ (Builtin.SmallTypes.ownedTupleIsFree (.ref z) >>= _) _ _ _; refine wpAny_bind ?_; unfold Builtin.SmallTypes.ownedTupleIsFree
  refine wpAny_bind (wpAny_field hz rfl (x:=.none) rfl (wpAny_pure ?_)); simp only [if_true]; refine wpAny_bind (wpAny_rule ?_); refine wpAny_bind (wpAny_field hz rfl (x:=.ref TO) rfl ?_)
  refine wpAny_bind (wpAny_setField_rec hz (by simp) fun g1 hz1 e1=>?_); replace hz1:IsZip g1 z TI TO .ellipsis:=hz1
  refine wpAny_bind ?_; simp only [List.zipIdx_cons,List.zipIdx_nil,List.forIn_cons,List.forIn_nil]; refine wpAny_bind (wpAny_bind (wpAny_onRaise ?_))
  show wpAny _ _ (Builtin.SmallTypes.nextOf (.ref i1) >>= _) _ _ _; refine wpAny_bind (nextOf_item (h1.bt e1.extBut D.i1z) (hl1.bt e1.extBut D.l1z) hx fun g2 t1 e2=>wpAny_pure ?_)
  have p2:IsPair g2 TO a b:=e2.extBut _ _ D.TOi1 (e1.extBut _ _ D.TOz hTO)
  refine wpAny_bind (wpAny_seqItems p2 rfl ?_); refine wpAny_bind (wpAny_updateSeq_pair p2 fun g3 p3 e3=>?_); replace p3:IsPair g3 TO x b:=p3
  refine wpAny_bind (wpAny_letGo (wpAny_pure ?_)); refine wpAny_bind (wpAny_bind (wpAny_onRaise ?_))
  show wpAny _ _ (Builtin.SmallTypes.nextOf (.ref i2) >>= _) _ _ _
  refine wpAny_bind (nextOf_item (((h2.bt e1.extBut D.i2z).bt e2.extBut D.i12.symm).bt e3.extBut D.TOi2.symm) (((hl2.bt e1.extBut D.l2z).bt e2.extBut D.l2i1).bt e3.extBut D.l2TO) hy fun g4 t2 e4=>wpAny_pure ?_)
  have p4:IsPair g4 TO x b:=e4.extBut _ _ D.TOi2 p3
  refine wpAny_bind (wpAny_seqItems p4 rfl ?_); refine wpAny_bind (wpAny_updateSeq_pair p4 fun g5 p5 e5=>?_); replace p5:IsPair g5 TO x y:=p5
  refine wpAny_bind (wpAny_letGo (wpAny_pure (wpAny_pure ?_))); refine wpAny_bind (wpAny_seqItems p5 rfl ?_); refine wpAny_bind (wpAny_newTuple ?_)
  have hsz:g5.objs.size=s.heap.objs.size:=by rw [e5.1,e4.1,e3.1,e2.1,e1.1]
  have z5:IsZip g5 z TI TO .ellipsis:=e5.extBut _ _ D.TOz.symm (e4.extBut _ _ D.i2z.symm (e3.extBut _ _ D.TOz.symm (e2.extBut _ _ D.i1z.symm hz1)))
  have k5:∀ c o,c≠z→c≠TO→c≠i1→c≠i2→s.heap.get? c=some o→g5.get? c=some o:=fun c o c1 c2 c3 c4 q=>e5.extBut _ _ c2 (e4.extBut _ _ c4 (e3.extBut _ _ c2 (e2.extBut _ _ c3 (e1.extBut _ _ c1 q))))
  have u1:ItAt b1 g5 i1 l1 (k1+1):=((t1.bt e3.extBut D.TOi1.symm).bt e4.extBut D.i12).bt e5.extBut D.TOi1.symm
  have u2:ItAt b2 g5 i2 l2 (k2+1):=t2.bt e5.extBut D.TOi2.symm
  have zlt:z < g5.objs.size:=Heap.lt_size z5
  show wpAny _ _ (Builtin.SmallTypes.ownedTupleHandOut (.ref z) (.ref g5.objs.size) >>= _) _ _ _; refine wpAny_bind ?_; unfold Builtin.SmallTypes.ownedTupleHandOut
  have z6:IsZip (g5.push { cls:=.type "tuple",data:=.seq #[x,y] }) z TI TO .ellipsis:=Heap.get?_push_of_some _ z5
  refine wpAny_bind (wpAny_setField_rec z6 (by simp) fun g7 z7 e7=>?_); replace z7:IsZip g7 z TI TO (rawInt g5.objs.size):=z7
  refine wpAny_setField_rec z7 (by simp) fun g8 z8 e8=>?_; replace z8:IsZip g8 z TI TO (rawInt g5.objs.size):=z8
  have up:∀ c o,c≠z→g5.get? c=some o→g8.get? c=some o:=fun c o c1 q=>e8.extBut _ _ c1 (e7.extBut _ _ c1 (Heap.get?_push_of_some _ q))
  have t8:IsPair g8 g5.objs.size x y:=e8.extBut _ _ (Nat.ne_of_gt zlt) (e7.extBut _ _ (Nat.ne_of_gt zlt) (Heap.get?_push_size _ rfl))
  rw [hsz] at z8 t8
  refine wpAny_pure ⟨_,rfl,?_⟩; show Q (.ref g5.objs.size) _; rw [hsz]
  exact hQ g8 z8 (up _ _ D.TOz p5) (u1.at fun o q=>up _ o D.i1z q) (u2.at fun o q=>up _ o D.i2z q) t8 fun c o c1 c2 c3 c4 q=>up c o c1 (k5 c o c1 c2 c3 c4 q)
theorem zip_end {b1 b2:Bool} {z TI TO i1 i2 l1 l2:Addr} {k1 k2:Nat} {xs ys:Array Value} {a b:Value} {Q:Fin→Shared→Prop} (hh:A.handled=none) (D:ZipApart z TI TO i1 i2 l1 l2)
    (hz:IsZip s.heap z TI TO .none) (hTI:IsPair s.heap TI (.ref i1) (.ref i2)) (hTO:IsPair s.heap TO a b) (h1:ItAt b1 s.heap i1 l1 k1) (h2:ItAt b2 s.heap i2 l2 k2) (hl1:SqAt b1 s.heap l1 xs) (hl2:SqAt b2 s.heap l2 ys) (hend:xs[k1]?=none∨ys[k2]?=none)
    (hE:∀ h' e,(∀ c o,c≠z→c≠TO→c≠i1→c≠i2→s.heap.get? c=some o→h'.get? c=some o)→(∃ o,h'.get? e=some o∧o.cls=.type "StopIteration")→E (.ref e) { s with heap:=h' }) :
    wpAny (model prog w) A (Builtin.«zip.__next__» ⟨[.ref z],[]⟩) Q E s:=by
  show wpAny _ _ (field (.ref z) 2 >>= _) _ _ _; refine wpAny_bind (wpAny_field hz rfl (x:=.bool false) rfl ?_)
  show wpAny _ _ (field (.ref z) 3 >>= _) _ _ _; refine wpAny_bind (wpAny_field hz rfl (x:=.ref TI) rfl ?_); refine wpAny_bind (wpAny_seqItems hTI rfl ?_)
  show wpAny _ _ (Builtin.SmallTypes.ownedTupleIsFree (.ref z) >>= _) _ _ _; refine wpAny_bind ?_; unfold Builtin.SmallTypes.ownedTupleIsFree
  refine wpAny_bind (wpAny_field hz rfl (x:=.none) rfl (wpAny_pure ?_)); simp only [if_true]; refine wpAny_bind (wpAny_rule ?_); refine wpAny_bind (wpAny_field hz rfl (x:=.ref TO) rfl ?_)
  refine wpAny_bind (wpAny_setField_rec hz (by simp) fun g1 hz1 e1=>?_); replace hz1:IsZip g1 z TI TO .ellipsis:=hz1
  refine wpAny_bind ?_; simp only [List.zipIdx_cons,List.zipIdx_nil,List.forIn_cons,List.forIn_nil]; refine wpAny_bind (wpAny_bind (wpAny_onRaise ?_))
  show wpAny _ _ (Builtin.SmallTypes.nextOf (.ref i1) >>= _) _ _ _
  cases hx:xs[k1]? with
  | none =>
    refine wpAny_bind (nextOf_end hh (h1.bt e1.extBut D.i1z) (hl1.bt e1.extBut D.l1z) hx fun g2 e e2 he=>?_)
    obtain ⟨oe,hoe,hce⟩:=he
    have z2:IsZip g2 z TI TO .ellipsis:=e2 _ _ D.i1z.symm hz1
    have ne:e≠z:=fun q=>by subst q; rw [z2] at hoe; cases hoe; simp at hce
    exact wpAny_setField_rec z2 (by simp) fun g3 _ e3=>hE g3 e (fun c o c1 _ c3 _ q=>e3.extBut _ _ c1 (e2 _ _ c3 (e1.extBut _ _ c1 q))) ⟨oe,e3.extBut _ _ ne hoe,hce⟩
  | some x =>
    have hy:ys[k2]?=none:=by rcases hend with h | h; rw [hx] at h; cases h; exact h
    refine wpAny_bind (nextOf_item (h1.bt e1.extBut D.i1z) (hl1.bt e1.extBut D.l1z) hx fun g2 t1 e2=>wpAny_pure ?_)
    have p2:IsPair g2 TO a b:=e2.extBut _ _ D.TOi1 (e1.extBut _ _ D.TOz hTO)
    refine wpAny_bind (wpAny_seqItems p2 rfl ?_); refine wpAny_bind (wpAny_updateSeq_pair p2 fun g3 p3 e3=>?_)
    refine wpAny_bind (wpAny_letGo (wpAny_pure ?_)); refine wpAny_bind (wpAny_bind (wpAny_onRaise ?_))
    show wpAny _ _ (Builtin.SmallTypes.nextOf (.ref i2) >>= _) _ _ _
    refine wpAny_bind (nextOf_end hh (((h2.bt e1.extBut D.i2z).bt e2.extBut D.i12.symm).bt e3.extBut D.TOi2.symm) (((hl2.bt e1.extBut D.l2z).bt e2.extBut D.l2i1).bt e3.extBut D.l2TO) hy fun g4 e e4 he=>?_)
    obtain ⟨oe,hoe,hce⟩:=he
    have z4:IsZip g4 z TI TO .ellipsis:=e4 _ _ D.i2z.symm (e3.extBut _ _ D.TOz.symm (e2.extBut _ _ D.i1z.symm hz1))
    have ne:e≠z:=fun q=>by subst q; rw [z4] at hoe; cases hoe; simp at hce
    exact wpAny_setField_rec z4 (by simp) fun g5 _ e5=>hE g5 e (fun c o c1 c2 c3 c4 q=>e5.extBut _ _ c1 (e4 _ _ c4 (e3.extBut _ _ c2 (e2.extBut _ _ c3 (e1.extBut _ _ c1 q))))) ⟨oe,e5.extBut _ _ ne hoe,hce⟩
noncomputable def itObj (b:Bool) (l:Addr):Obj:=match b with
  | true=>{ cls:=.type "list_iterator",data:=.fields #[.ref l,.int 0 0] }
  | false=>{ cls:=.type "tuple_iterator",data:=.fields #[.ref l,.int 0 0] }
theorem pyIter_sq {b:Bool} {l:Addr} {items:Array Value} {Q:Value→Shared→Prop} (hl:SqAt b s.heap l items) (hQ:Q (.ref s.heap.objs.size) { s with heap:=s.heap.push (itObj b l) }):wpAny (model prog w) A (pyIter (.ref l)) Q E s:=by
  cases b with
  | true=>exact wpAny_pyIter_list hl hQ
  | false=>exact wpAny_pyIter_tuple hl hQ
theorem SqAt.push {b:Bool} {h:Heap} {l:Addr} {items:Array Value} (x:SqAt b h l items) (o:Obj):SqAt b (h.push o) l items:=x.at fun _ q=>Heap.get?_push_of_some _ q
theorem itObj_at {b:Bool} {h:Heap} {it l:Addr} (e:h.get? it=some (itObj b l)):ItAt b h it l 0:=by
  cases b with
  | true=>exact ⟨_,e,rfl,rfl⟩
  | false=>exact ⟨_,e,rfl,rfl⟩
noncomputable abbrev zA (b1:Bool) (h:Heap) (l1:Addr):Heap:=h.push (itObj b1 l1)
noncomputable abbrev zB (b1 b2:Bool) (h:Heap) (l1 l2:Addr):Heap:=(zA b1 h l1).push (itObj b2 l2)
noncomputable abbrev zC (b1 b2:Bool) (h:Heap) (l1 l2:Addr):Heap:=(zB b1 b2 h l1 l2).push { cls:=.type "tuple",data:=.seq #[.ref h.objs.size,.ref (zA b1 h l1).objs.size] }
noncomputable abbrev zD (b1 b2:Bool) (h:Heap) (l1 l2:Addr):Heap:=(zC b1 b2 h l1 l2).push { cls:=.type "tuple",data:=.seq #[.none,.none] }
noncomputable abbrev zH (b1 b2:Bool) (h:Heap) (l1 l2:Addr):Heap:=(zD b1 b2 h l1 l2).push { cls:=.type "zip",data:=.fields #[.none,.bool false,.bool false,.ref (zB b1 b2 h l1 l2).objs.size,.ref (zC b1 b2 h l1 l2).objs.size] }
theorem meets_zip (b1 b2:Bool) (l1 l2:Addr) (xs ys:Array Value) :
    Meets (Builtin.«zip.__new__» ⟨[.type "zip",.ref l1,.ref l2],[]⟩) (fun _ R s=>SqAt b1 s.heap l1 xs∧SqAt b2 s.heap l2 ys∧R (.ok (.ret (.ref (zD b1 b2 s.heap l1 l2).objs.size))) { s with heap:=zH b1 b2 s.heap l1 l2 }) :=
  .of_wp fun prog w A R s h=>by
    obtain ⟨hp,g,d,tk,os⟩:=s
    obtain ⟨hl1,hl2,h⟩:=h
    have hsub:=sub_zip
    have q1:SqAt b1 (Shared.heap ⟨hp,g,d,tk,os⟩) l1 xs:=hl1
    have q2:SqAt b2 (Shared.heap ⟨hp.push (itObj b1 l1),g,d,tk,os⟩) l2 ys:=hl2.push _
    wp_walk using pyIter_sq q1,pyIter_sq q2
    exact ⟨_,rfl,h⟩
theorem call_zip {b1 b2:Bool} {l1 l2:Addr} {xs ys:Array Value} {Q:Value→Shared→Prop} (hl1:SqAt b1 s.heap l1 xs) (hl2:SqAt b2 s.heap l2 ys)
    (h:∀ h',IsZip h' (s.heap.objs.size+4) (s.heap.objs.size+2) (s.heap.objs.size+3) .none→IsPair h' (s.heap.objs.size+2) (.ref s.heap.objs.size) (.ref (s.heap.objs.size+1))→IsPair h' (s.heap.objs.size+3) .none .none →
      ItAt b1 h' s.heap.objs.size l1 0→ItAt b2 h' (s.heap.objs.size+1) l2 0→(∀ c o,s.heap.get? c=some o→h'.get? c=some o)→Q (.ref (s.heap.objs.size+4)) { s with heap:=h' }) :
    wpAny (model prog w) A (call (.type "zip") [.ref l1,.ref l2]) Q E s:=by
  refine callType_new F.called_zip (by decide) (F.typeCall_zip_2 _ _) (F.newCall_zip_2 _ _) (fun obj=>F.args_object_init_3 obj _ _) F.entry_zip_new (meets_zip b1 b2 l1 l2 xs ys) ⟨hl1,hl2,?_⟩
  have n1:(zA b1 s.heap l1).objs.size=s.heap.objs.size+1:=Heap.size_push ..
  have n2:(zB b1 b2 s.heap l1 l2).objs.size=s.heap.objs.size+2:=(Heap.size_push ..).trans (by rw [n1])
  have n3:(zC b1 b2 s.heap l1 l2).objs.size=s.heap.objs.size+3:=(Heap.size_push ..).trans (by rw [n2])
  have n4:(zD b1 b2 s.heap l1 l2).objs.size=s.heap.objs.size+4:=(Heap.size_push ..).trans (by rw [n3])
  have a5:IsZip (zH b1 b2 s.heap l1 l2) (zD b1 b2 s.heap l1 l2).objs.size (zB b1 b2 s.heap l1 l2).objs.size (zC b1 b2 s.heap l1 l2).objs.size .none:=Heap.get?_push_size _ rfl
  have a4:IsPair (zH b1 b2 s.heap l1 l2) (zC b1 b2 s.heap l1 l2).objs.size .none .none:=Heap.get?_push_of_some _ (Heap.get?_push_size _ rfl)
  have a3:IsPair (zH b1 b2 s.heap l1 l2) (zB b1 b2 s.heap l1 l2).objs.size (.ref s.heap.objs.size) (.ref (zA b1 s.heap l1).objs.size):=Heap.get?_push_of_some _ (Heap.get?_push_of_some _ (Heap.get?_push_size _ rfl))
  have a2:(zH b1 b2 s.heap l1 l2).get? (zA b1 s.heap l1).objs.size=some (itObj b2 l2):=Heap.get?_push_of_some _ (Heap.get?_push_of_some _ (Heap.get?_push_of_some _ (Heap.get?_push_size _ (by cases b2 <;> rfl))))
  have a1:(zH b1 b2 s.heap l1 l2).get? s.heap.objs.size=some (itObj b1 l1):=Heap.get?_push_of_some _ (Heap.get?_push_of_some _ (Heap.get?_push_of_some _ (Heap.get?_push_of_some _ (Heap.get?_push_size _ (by cases b1 <;> rfl)))))
  rw [n2,n3,n4] at a5
  rw [n3] at a4
  rw [n1,n2] at a3
  rw [n1] at a2
  show _∧_
  rw [n4]
  exact ⟨⟨_,a5,rfl⟩,h _ a5 a3 a4 (itObj_at a1) (itObj_at a2) fun c o x=>Heap.get?_push_of_some _ (Heap.get?_push_of_some _ (Heap.get?_push_of_some _ (Heap.get?_push_of_some _ (Heap.get?_push_of_some _ x))))⟩
theorem pyNext_zip_item {b1 b2:Bool} {z TI TO i1 i2 l1 l2:Addr} {k1 k2:Nat} {xs ys:Array Value} {x y a b:Value} {Q:Option Value→Shared→Prop} (D:ZipApart z TI TO i1 i2 l1 l2)
    (hz:IsZip s.heap z TI TO .none) (hTI:IsPair s.heap TI (.ref i1) (.ref i2)) (hTO:IsPair s.heap TO a b) (h1:ItAt b1 s.heap i1 l1 k1) (h2:ItAt b2 s.heap i2 l2 k2) (hl1:SqAt b1 s.heap l1 xs) (hl2:SqAt b2 s.heap l2 ys) (hx:xs[k1]?=some x) (hy:ys[k2]?=some y)
    (hQ:∀ h',IsZip h' z TI TO (rawInt s.heap.objs.size)→IsPair h' TO x y→ItAt b1 h' i1 l1 (k1+1)→ItAt b2 h' i2 l2 (k2+1)→IsPair h' s.heap.objs.size x y →
      (∀ c o,c≠z→c≠TO→c≠i1→c≠i2→s.heap.get? c=some o→h'.get? c=some o)→Q (some (.ref s.heap.objs.size)) { s with heap:=h' }):wpAny (model prog w) A (pyNext (.ref z)) Q E s:=by
  have hT:s.TypeIs (.ref z) "zip":=⟨_,hz,rfl⟩
  unfold pyNext
  exact wpAny_bind (wpAny_attempt (wpAny_callSpecial?_slot (name:=Str.ofString "__next__") hT F.slot_zip_next (wpAny_call_entry F.slot_zip_next hT F.entry_zip_next (zip_item D hz hTI hTO h1 h2 hl1 hl2 hx hy fun h' a1 a2 a3 a4 a5 a6=>wpAny_pure (hQ h' a1 a2 a3 a4 a5 a6)) (F.args_zip_next_1 _))))
theorem pyNext_zip_end {b1 b2:Bool} {z TI TO i1 i2 l1 l2:Addr} {k1 k2:Nat} {xs ys:Array Value} {a b:Value} {Q:Option Value→Shared→Prop} (hh:A.handled=none) (D:ZipApart z TI TO i1 i2 l1 l2)
    (hz:IsZip s.heap z TI TO .none) (hTI:IsPair s.heap TI (.ref i1) (.ref i2)) (hTO:IsPair s.heap TO a b) (h1:ItAt b1 s.heap i1 l1 k1) (h2:ItAt b2 s.heap i2 l2 k2) (hl1:SqAt b1 s.heap l1 xs) (hl2:SqAt b2 s.heap l2 ys) (hend:xs[k1]?=none∨ys[k2]?=none)
    (hQ:∀ h',(∀ c o,c≠z→c≠TO→c≠i1→c≠i2→s.heap.get? c=some o→h'.get? c=some o)→Q none { s with heap:=h' }):wpAny (model prog w) A (pyNext (.ref z)) Q E s:=by
  have hT:s.TypeIs (.ref z) "zip":=⟨_,hz,rfl⟩
  unfold pyNext
  refine wpAny_bind (wpAny_attempt (wpAny_callSpecial?_slot (name:=Str.ofString "__next__") hT F.slot_zip_next (wpAny_call_entry F.slot_zip_next hT F.entry_zip_next (zip_end hh D hz hTI hTO h1 h2 hl1 hl2 hend fun h' e hk he=>?_) (F.args_zip_next_1 _))))
  obtain ⟨o,ho,hc⟩:=he
  exact wpAny_bind (wpAny_isInstance (T:="StopIteration") (b:=true) ⟨o,ho,hc⟩ isSubtype_stop (wpAny_pure (hQ _ hk)))
end
section
variable {X:Cx} {pins:List (Addr×Obj)} {σ:St} {H:Hp} {s:Shared} {h':Heap}
theorem Inv.turns {t':Nat} {ch:List Addr} (I:Inv X pins σ H s) (k:∀ b o,b ∉ ch→s.heap.get? b=some o→h'.get? b=some o) (hf:∀ b∈ch,FpOk X pins H b):Inv X pins σ H { s with heap:=h',toks:=t' }:=by
  have nit:∀ b u,H b=some u→b ∉ ch:=fun b u e z=>by rw [(hf b z).1] at e; cases e
  refine I.step (g':=s.gens) (d':=s.drawn) (ch:=ch) (fun b hb=>?_) (fun b o _ _ hc e _=>k b o hc e) (fun b o _ _ hc e _=>⟨o.slots,k b o hc e⟩) (fun _ _ _ _ n=>n)
    (fun b o hc e=>⟨o,k b o hc e⟩) (fun _ _ e=>e) (fun _ _ _ e=>e) (fun b ps e=>⟨#[],by rw [e]; simp⟩) (fun m hm=>?_) (fun b u e=>?_) I.bare
  · obtain ⟨_,f1,_,f3,f4,f5⟩:=hf b hb
    exact ⟨f3,f1,f4,f5⟩
  · obtain ⟨o,es,ep,ho,r⟩:=hm
    exact ⟨o,es,ep,k _ o (fun z=>(hf _ z).2.1 rfl) ho,r⟩
  · refine (I.hok b u e).stay (fun c v hc q=>k c v ?_ q) (fun _ q=>q) fun _ _ q=>q
    rcases hc with z | z
    · rw [z]; exact nit b u e
    · exact nit c _ z
theorem Inv.pair {T:Addr} {x y:V} {u v:Value} (I:Inv X pins σ H s) (hT:H T=none) (ho:IsPair s.heap T u v) (r1:RelV x u) (r2:RelV y v)
    (hL:T≠X.env.locals) (hs0:X.s₀.heap.objs.size≤T) (hc:∀ x c,X.env.cells.lookup x=some c→c≠T) (hp:∀ p∈X.pn++pins,p.1≠T):Inv X pins σ (upd H T (.tup [x,y])) s:=by
  have ne:∀ {b:Addr} {o:HO},H b=some o→b≠T:=fun e=>ne_of_none e hT
  refine I.step (g':=s.gens) (d':=s.drawn) (t':=s.toks) (h':=s.heap) (ch:=[T]) (fun b hb=>?_) (fun b o _ _ _ e _=>e) (fun b o _ _ _ e _=>⟨o.slots,e⟩) (fun b o hb e n=>?_) (fun b o _ e=>⟨o,e⟩)
    (fun b xs e=>by rw [upd_ne (ne e)]; exact e) (fun b o u e=>by rw [upd_ne (ne e)]; exact e) (fun b ps e=>⟨#[],by rw [upd_ne (ne e),e]; simp⟩) (fun m hm=>hm) (fun b u e=>?_) I.bare
  · have e:b=T:=by simpa using hb
    subst e
    exact ⟨.inr hs0,hL,hc,hp⟩
  · have hb':b≠T:=by simpa using hb
    rw [upd_ne hb']
    exact n
  · by_cases hb:b=T
    · subst hb
      rw [upd_same] at e
      cases e
      exact ⟨by show 2≤sizeLine; decide,[_,_],.cons r1 (.cons r2 .nil),⟨_,ho,rfl,_,rfl⟩⟩
    · rw [upd_ne hb] at e
      exact (I.hok b u e).stay (fun c v _ q=>q) (fun c q=>by rw [upd_ne (ne q)]; exact q) fun c xs q=>by rw [upd_ne (ne q)]; exact q
end
noncomputable def hoB (b:Bool) (xs:List V):HO:=match b with
  | true=>.lst xs
  | false=>.tup xs
theorem sqAt_of {P:Program} {w:World} {H:Hp} {h:Heap} (ok:HOk P w H h) {b:Bool} {a:Addr} {xs:List V} (e:H a=some (hoB b xs)):∃ its:List Value,Vals xs its∧SqAt b h a its.toArray:=by
  cases b with
  | true=>obtain ⟨_,its,n,r,q⟩:=ok a _ e; exact ⟨its,r,⟨_,q,rfl,n,rfl⟩⟩
  | false=>obtain ⟨_,its,r,q⟩:=ok a _ e; exact ⟨its,r,q⟩
noncomputable def Itz (b1 b2:Bool) (l1 l2:Addr):It :=
  ⟨fun i H=>∃ xs ys x y,H l1=some (hoB b1 xs)∧H l2=some (hoB b2 ys)∧xs[i]?=some x∧ys[i]?=some y,
   fun i H v H'=>∃ xs ys x y p,H l1=some (hoB b1 xs)∧H l2=some (hoB b2 ys)∧xs[i]?=some x∧ys[i]?=some y∧H p=none∧v=.ref p∧H'=upd H p (.tup [x,y]),
   fun i H=>∃ xs ys,H l1=some (hoB b1 xs)∧H l2=some (hoB b2 ys)∧(xs[i]?=none∨ys[i]?=none)⟩
noncomputable def ZSt (b1 b2:Bool) (z TI TO i1 i2 l1 l2:Addr) (i:Nat) (h:Heap):Prop :=
  IsZip h z TI TO .none∧IsPair h TI (.ref i1) (.ref i2)∧(∃ a b,IsPair h TO a b)∧ItAt b1 h i1 l1 i∧ItAt b2 h i2 l2 i
theorem turn_zip {P:Program} {w:World} {K:PySem.W.Frag} {elts:List Expr} {x1:Nat} {pos:Pos} {b1 b2:Bool} {l1 l2:Addr} (z TI TO i1 i2:Addr)
    (d:TI≠z∧TO≠z∧i1≠z∧i2≠z∧TI≠TO∧TI≠i1∧TI≠i2∧TO≠i1∧TO≠i2∧i1≠i2) :
    Turn P w K (.Tuple elts x1 pos) (Itz b1 b2 l1 l2) [z,TI,TO,i1,i2] z (ZSt b1 b2 z TI TO i1 i2 l1 l2) where
  mem:=by simp
  obj:=fun i h st b hb=>by
    obtain ⟨hz,hTI,⟨a,c,hTO⟩,h1,h2⟩:=st
    simp at hb
    rcases hb with rfl | rfl | rfl | rfl | rfl
    · exact ⟨_,hz,fun v q=>by cases q⟩
    · exact ⟨_,hTI,fun v q=>by cases q⟩
    · exact ⟨_,hTO,fun v q=>by cases q⟩
    · exact h1.there
    · exact h2.there
  keep:=fun i h h' st k=>by
    obtain ⟨hz,hTI,⟨a,c,hTO⟩,h1,h2⟩:=st
    exact ⟨k _ (by simp) _ hz,k _ (by simp) _ hTI,⟨a,c,k _ (by simp) _ hTO⟩,h1.at fun o e=>k _ (by simp) o e,h2.at fun o e=>k _ (by simp) o e⟩
  item:=by
    intro X hP hw hK hc i pins s σ H E I hf st hg
    subst hP hw hK
    obtain ⟨xs,ys,x,y,e1,e2,hx,hy⟩:=hg
    obtain ⟨hz,hTI,⟨a,c,hTO⟩,h1,h2⟩:=st
    obtain ⟨us,r1,q1⟩:=sqAt_of I.hok e1
    obtain ⟨vs,r2,q2⟩:=sqAt_of I.hok e2
    obtain ⟨u,hu,ru⟩:=r1.get hx
    obtain ⟨v,hv,rv⟩:=r2.get hy
    have n1:∀ b∈[z,TI,TO,i1,i2],l1≠b∧l2≠b:=fun b hb=>⟨ne_of_none e1 (hf b hb).1,ne_of_none e2 (hf b hb).1⟩
    obtain ⟨d1,d2,d3,d4,d5,d6,d7,d8,d9,d10⟩:=d
    have D:ZipApart z TI TO i1 i2 l1 l2:=⟨d1,d2,d3,d4,d5,d6,d7,d8,d9,d10,(n1 z (by simp)).1,(n1 TO (by simp)).1,(n1 i1 (by simp)).1,(n1 i2 (by simp)).1,(n1 z (by simp)).2,(n1 TO (by simp)).2,(n1 i1 (by simp)).2,(n1 i2 (by simp)).2⟩
    refine pyNext_zip_item D hz hTI hTO h1 h2 q1 q2 (by simpa using hu) (by simpa using hv) fun h' z' p' t1 t2 pr kk=>?_
    refine ⟨_,rfl,wpAny_letOwnedTupleGo_zip z' fun h2' z2 sb=>?_⟩
    have lt:∀ {b:Addr} {o:Obj},s.heap.get? b=some o→s.heap.objs.size≠b:=fun q=>Nat.ne_of_gt (Heap.lt_size q)
    have zlt:=lt hz
    have I1:Inv X pins σ H { s with heap:=h2' }:=I.turns (ch:=[z,TI,TO,i1,i2]) (t':=s.toks) (fun b o hb e=>by
      simp at hb
      exact sb.extBut _ _ hb.1 (kk b o hb.1 hb.2.2.1 hb.2.2.2.1 hb.2.2.2.2 e)) hf
    have hTn:H s.heap.objs.size=none:=I.hok.fresh (Nat.le_refl _)
    have I2:=I1.pair (T:=s.heap.objs.size) (x:=x) (y:=y) hTn (sb.extBut _ _ zlt pr) ru rv (Nat.ne_of_gt I.lt) I.sz
      (fun q cc e hq=>by obtain ⟨vv,zz⟩:=I.cell q cc e; exact absurd zz.lt (by rw [hq]; exact Nat.lt_irrefl _)) (fun p hp hq=>absurd (Heap.lt_size (I.pin p hp).1) (by rw [hq]; exact Nat.lt_irrefl _))
    refine ⟨.ref s.heap.objs.size,_,I2,rfl,⟨xs,ys,x,y,_,e1,e2,hx,hy,hTn,rfl,rfl⟩,⟨z2,sb.extBut _ _ d1 (kk _ _ d1 d5 d6 d7 hTI),⟨u,v,sb.extBut _ _ d2 p'⟩,t1.at fun o e=>sb.extBut _ _ d3 e,t2.at fun o e=>sb.extBut _ _ d4 e⟩,fun b hb=>?_⟩
    have hbn:b≠s.heap.objs.size:=by
      simp at hb
      obtain ⟨o1,g1,_⟩:=h1.there
      obtain ⟨o2,g2,_⟩:=h2.there
      rcases hb with rfl | rfl | rfl | rfl | rfl
      · exact (lt hz).symm
      · exact (lt hTI).symm
      · exact (lt hTO).symm
      · exact (lt g1).symm
      · exact (lt g2).symm
    rw [upd_ne hbn]
    exact (hf b hb).1
  done:=by
    intro X hP hw hK hc i pins s σ H E I hf st hg
    subst hP hw hK
    obtain ⟨xs,ys,e1,e2,hend⟩:=hg
    obtain ⟨hz,hTI,⟨a,c,hTO⟩,h1,h2⟩:=st
    obtain ⟨us,r1,q1⟩:=sqAt_of I.hok e1
    obtain ⟨vs,r2,q2⟩:=sqAt_of I.hok e2
    have n1:∀ b∈[z,TI,TO,i1,i2],l1≠b∧l2≠b:=fun b hb=>⟨ne_of_none e1 (hf b hb).1,ne_of_none e2 (hf b hb).1⟩
    obtain ⟨d1,d2,d3,d4,d5,d6,d7,d8,d9,d10⟩:=d
    have D:ZipApart z TI TO i1 i2 l1 l2:=⟨d1,d2,d3,d4,d5,d6,d7,d8,d9,d10,(n1 z (by simp)).1,(n1 TO (by simp)).1,(n1 i1 (by simp)).1,(n1 i2 (by simp)).1,(n1 z (by simp)).2,(n1 TO (by simp)).2,(n1 i1 (by simp)).2,(n1 i2 (by simp)).2⟩
    refine pyNext_zip_end (I.ok.hd hc) D hz hTI hTO h1 h2 q1 q2 (hend.imp (fun q=>by simpa using r1.none_of q) (fun q=>by simpa using r2.none_of q)) fun h' kk=>⟨rfl,?_⟩
    exact I.turns (ch:=[z,TI,TO,i1,i2]) (t':=s.toks) (fun b o hb e=>by
      simp at hb
      exact kk b o hb.1 hb.2.2.1 hb.2.2.2.1 hb.2.2.2.2 e) hf
  self:=fun _ _ _ _ _ st h=>wpAny_pyIter_zip st.1 h
end L2
set_option Elab.async false
set_option linter.all false
set_option maxRecDepth 100000
namespace L2
open PySem PySem.Spec PyProof.Rows
open AutoSeq1 (wpAny_loadPart')
section
variable {X:Cx} {tg:Expr} {PK:Pk} {a b:Expr} {i j:List Sl→Tr PyData} {p pos:Pos}
noncomputable def iZip (ta tb:TE):TI:=fun σ H R=>ta σ H fun x H1=>tb σ H1 fun y H2=>∃ b1 b2 l1 l2 xs ys,x=.ref l1∧y=.ref l2∧H2 l1=some (hoB b1 xs)∧H2 l2=some (hoB b2 ys)∧R (Itz b1 b2 l1 l2) H2
theorem pi_zip {elts:List Expr} {x1:Nat} {tpos:Pos} {ta tb:TE} (hc:X.calm=true) (hg:Gl X "zip") (hm:X.mg "zip"=none) (ha:PE X a ta) (hb:PE X b tb)
    (hs:starEach [a,b] X.env=[(false,eval a X.env),(false,eval b X.env)]:=by rfl) (hs2:starEach [b] X.env=[(false,eval b X.env)]:=by rfl):PI X (.Tuple elts x1 tpos) (.Call (.Name "zip" p) [a,b] [] pos) (iZip ta tb):=by
  intro pins s σ H R I h
  have hab:PA X [a,b] (tCons ta (tCons tb tNil)):=pa_cons ha (pa_cons hb pa_nil (by rw [hs2]; rfl)) (by rw [hs,hs2])
  refine Call_ (ld_blt I hg hm boot_zip (PyProof.Rows.callWith_type1 (thn (hab pos pins s σ H (fun vs H2=>∃ b1 b2 l1 l2 xs ys,vs=[.ref l1,.ref l2]∧H2 l1=some (hoB b1 xs)∧H2 l2=some (hoB b2 ys)∧R (Itz b1 b2 l1 l2) H2) I ?_) fun us s1 ⟨vs,H1,I1,r1,q1⟩=>?_) (by rw [hs,hs2]) (by rw [hs2]; rfl)))
  · refine (show ta σ H _ from ?_)
    have h':ta σ H fun x H1=>tb σ H1 fun y H2=>∃ b1 b2 l1 l2 xs ys,x=.ref l1∧y=.ref l2∧H2 l1=some (hoB b1 xs)∧H2 l2=some (hoB b2 ys)∧R (Itz b1 b2 l1 l2) H2:=h
    have e:(fun (x:V) (H1:Hp)=>tb σ H1 fun y H2=>∃ b1 b2 l1 l2 xs ys,x=.ref l1∧y=.ref l2∧H2 l1=some (hoB b1 xs)∧H2 l2=some (hoB b2 ys)∧R (Itz b1 b2 l1 l2) H2) =
        fun x H1=>tCons tb tNil σ H1 fun xs H2=>∃ b1 b2 l1 l2 us ys,x::xs=[.ref l1,.ref l2]∧H2 l1=some (hoB b1 us)∧H2 l2=some (hoB b2 ys)∧R (Itz b1 b2 l1 l2) H2:=by
      funext x H1
      show _=tb σ H1 _
      congr 1
      funext y H2
      show _=(∃ b1 b2 l1 l2 us ys,[x,y]=[.ref l1,.ref l2]∧H2 l1=some (hoB b1 us)∧H2 l2=some (hoB b2 ys)∧R (Itz b1 b2 l1 l2) H2)
      apply propext
      constructor
      · rintro ⟨b1,b2,l1,l2,xs,ys,rfl,rfl,q⟩; exact ⟨b1,b2,l1,l2,xs,ys,rfl,q⟩
      · rintro ⟨b1,b2,l1,l2,xs,ys,e,q⟩
        have e1:x=V.ref l1∧y=V.ref l2:=by simpa using e
        exact ⟨b1,b2,l1,l2,xs,ys,e1.1,e1.2,q⟩
    rw [e] at h'
    exact h'
  · obtain ⟨b1,b2,l1,l2,xs,ys,rfl,e1,e2,q⟩:=q1
    obtain ⟨u1,u2,rfl,r1,r2⟩:=vals2 r1
    cases r1
    cases r2
    obtain ⟨us,ru,q1⟩:=sqAt_of I1.hok e1
    obtain ⟨vs,rv,q2⟩:=sqAt_of I1.hok e2
    refine call_zip q1 q2 fun h' z pTI pTO t1 t2 kk=>?_
    have I2:Inv X pins σ H1 { s1 with heap:=h' }:=I1.kept (t':=s1.toks) kk
    have na:∀ n k:Nat,n≠k→(s1.heap.objs.size+n:Nat)≠s1.heap.objs.size+k:=fun n k h e=>h (by omega)
    refine wpAny_pyIter_zip z ⟨s1.heap.objs.size+4,[s1.heap.objs.size+4,s1.heap.objs.size+2,s1.heap.objs.size+3,s1.heap.objs.size,s1.heap.objs.size+1],_,_,H1,rfl,I2,turn_zip _ _ _ _ _ ⟨na 2 4 (by decide),na 3 4 (by decide),na 0 4 (by decide),na 1 4 (by decide),na 2 3 (by decide),na 2 0 (by decide),na 2 1 (by decide),na 3 0 (by decide),na 3 1 (by decide),na 0 1 (by decide)⟩,⟨z,pTI,⟨_,_,pTO⟩,t1,t2⟩,fun b hb=>?_,q⟩
    have hle:s1.heap.objs.size≤b:=by
      simp at hb
      rcases hb with rfl | rfl | rfl | rfl | rfl <;> first | exact Nat.le_add_right _ _ | exact Nat.le_refl _
    exact I1.fpOk hle (I1.hok.fresh hle)
noncomputable def zipD (xs ys:List PyData):List PyData:=(xs.zip ys).map fun (x,y)=>.tuple [x,y]
theorem hoB_of {G:Hp} {v:V} {x:PyData} {xs:List PyData} (d:Dn G v x) (h:itD x=some xs):∃ b a vs,v=.ref a∧G a=some (hoB b vs)∧DnAll G vs xs:=by
  cases d with
  | lst h1 h2=>cases h; exact ⟨true,_,_,rfl,h1,h2⟩
  | tup h1 h2=>cases h; exact ⟨false,_,_,rfl,h1,h2⟩
  | _=>cases h
theorem hoB_inj {b:Bool} {xs ys:List V} (h:some (hoB b xs)=some (hoB b ys)):xs=ys:=by
  cases b <;> (cases h; rfl)
theorem jok_zip {pa:Addr} {G:Hp} {b1 b2:Bool} {l1 l2:Addr} {us vs:List V} {xs ys:List PyData} (h1:G l1=some (hoB b1 us)) (h2:G l2=some (hoB b2 vs)) (d1:DnAll G us xs) (d2:DnAll G vs ys):JOk PK pa (Itz b1 b2 l1 l2) G (zipD xs ys):=fun m G2 H2 sb w=>by
  have e1:H2 l1=some (hoB b1 us):=w.sub _ _ (sb _ _ h1)
  have e2:H2 l2=some (hoB b2 vs):=w.sub _ _ (sb _ _ h2)
  refine ⟨fun n d hd=>?_,us,vs,e1,e2,?_⟩
  · unfold zipD at hd
    rw [List.getElem?_map] at hd
    cases hz:(xs.zip ys)[n]? with
    | none=>rw [hz] at hd; cases hd
    | some xy =>
      rw [hz] at hd
      cases hd
      have hxy:=List.getElem?_zip_eq_some.mp hz
      obtain ⟨u,hu,du⟩:=d1.get n hxy.1
      obtain ⟨v,hv,dv⟩:=d2.get n hxy.2
      refine ⟨⟨us,vs,u,v,e1,e2,hu,hv⟩,fun x H3 hz0=>?_⟩
      obtain ⟨us',vs',u',v',p,f1,f2,hu',hv',hp,ex,eH⟩:=hz0
      rw [e1] at f1
      rw [e2] at f2
      have:=hoB_inj f1
      have:=hoB_inj f2
      subst us' vs'
      rw [hu] at hu'
      rw [hv] at hv'
      cases hu'
      cases hv'
      subst ex eH
      obtain ⟨w3,s3⟩:=w.new (o:=.tup [u,v]) hp
      exact ⟨_,s3,w3,.tup upd_same (.cons ((du.mono sb).mono s3.gs) (.cons ((dv.mono sb).mono s3.gs) .nil))⟩
  · unfold zipD
    rw [List.length_map,List.length_zip,d1.length.symm,d2.length.symm]
    rcases Nat.le_total us.length vs.length with hle | hle
    · left
      rw [Nat.min_eq_left hle]
      simp
    · right
      rw [Nat.min_eq_right hle]
      simp
noncomputable def aZip (i j:List Sl→Tr PyData):List Sl→Tr (List PyData):=fun ρ=>(i ρ).bind fun x=>(j ρ).bind fun y=>(Tr.of (itD x)).bind fun xs=>(Tr.of (itD y)).bind fun ys=>.ret (zipD xs ys)
theorem ai_zip {iter:Expr} (h:PI X tg iter (iZip (TAe PK i) (TAe PK j))):PI X tg iter (TAi PK (aZip i j)):=h.imp fun σ H R0 hz0=>by
  obtain ⟨pa,G₀,H₀,m,ρ,G,R,z⟩:=hz0
  refine TAe.then R z fun m1 x v G1 H1 s1 w1 R1 d1 q1=>?_
  refine TAe.then R1 q1 fun m2 y u G2 H2 s2 w2 R2 d2 q2=>?_
  rw [Tr.ok_bind] at q2
  obtain ⟨xs,hx,q2⟩:=Tr.ok_of q2
  rw [Tr.ok_bind] at q2
  obtain ⟨ys,hy,q2⟩:=Tr.ok_of q2
  obtain ⟨b1,l1,us,rfl,e1,f1⟩:=hoB_of (d1.mono s2.gs) hx
  obtain ⟨b2,l2,vs,rfl,e2,f2⟩:=hoB_of d2 hy
  exact ⟨b1,b2,l1,l2,us,vs,rfl,rfl,w2.sub _ _ e1,w2.sub _ _ e2,q2 _ G2 H2 (s1.trans s2 w1.some) w2 (jok_zip e1 e2 f1 f2)⟩
end
theorem drawsAt {prog:Program} {w:World} {A:Around} (hh:A.handled=none) (b:Bool) (it l:Addr) (hne:l≠it) (items:Array Value):Draws prog w A it [it,l] items.size (fun i v=>items[i]?=some v) (fun i h=>ItAt b h it l i∧SqAt b h l items) where
  live:=fun _ _ st=>let ⟨o,ho,_⟩:=st.1.there; ⟨o,ho⟩
  frame:=fun _ _ _ st hk=>⟨st.1.at fun o e=>hk it (by simp) o e,st.2.at fun o e=>hk l (by simp) o e⟩
  item:=fun i s Q E hi st hQ=>nextOf_item st.1 st.2 (x:=items[i]) (by simp [hi]) fun h' hit' hs'=>hQ _ h' s.toks (by simp [hi]) ⟨hit',st.2.bt hs'.extBut hne⟩ hs'
  done:=fun s Q E st hE=>nextOf_end hh st.1 st.2 (by simp) hE
theorem meets_enum (b:Bool) (l:Addr) (items:Array Value) :
    Meets (Builtin.«enumerate.__new__» ⟨[.type "enumerate",.ref l],[]⟩) (fun _ R s=>SqAt b s.heap l items ∧
      R (.ok (.ret (.ref (s.heap.push (itObj b l)).objs.size))) { s with heap:=(s.heap.push (itObj b l)).push { cls:=.type "enumerate",data:=.fields #[.none,.bool false,.ref s.heap.objs.size,rawInt 0,.none,.none] } }) :=
  .of_wp fun prog w A R s h=>by
    obtain ⟨hp,g,d,tk,os⟩:=s
    obtain ⟨hl,h⟩:=h
    have hsub:=sub_enumerate
    have q:SqAt b (Shared.heap ⟨hp,g,d,tk,os⟩) l items:=hl
    have ho:∃ ob,hp.get? l=some ob:=by
      cases b with
      | true=>obtain ⟨ob,e,_⟩:=hl; exact ⟨ob,e⟩
      | false=>obtain ⟨ob,e,_⟩:=hl; exact ⟨ob,e⟩
    obtain ⟨ob,ho⟩:=ho
    wp_walk using wpAny_loadPart' ho
    refine wpAny_stack_any fun st=>wpAny_pure ?_
    split
    · rename_i c _ _ _ _ _
      cases (c == Value.type "enumerate")
      · wp_walk using wpAny_loadPart' ho,pyIter_sq q
        exact ⟨_,rfl,h⟩
      · wp_walk using wpAny_loadPart' ho,pyIter_sq q
        exact ⟨_,rfl,h⟩
    · wp_walk using wpAny_loadPart' ho,pyIter_sq q
      exact ⟨_,rfl,h⟩
section
variable {prog:Program} {w:World} {A:Around} {E:Value→Shared→Prop} {s:Shared}
theorem call_enum {b:Bool} {l:Addr} {items:Array Value} {Q:Value→Shared→Prop} (hl:SqAt b s.heap l items)
    (h:∀ h',IsEnum h' (s.heap.objs.size+1) s.heap.objs.size 0 .none→ItAt b h' s.heap.objs.size l 0→(∀ c o,s.heap.get? c=some o→h'.get? c=some o)→Q (.ref (s.heap.objs.size+1)) { s with heap:=h' }) :
    wpAny (model prog w) A (call (.type "enumerate") [.ref l]) Q E s:=by
  refine callType_new F.called_enumerate (by decide) (F.typeCall_enumerate_1 _) (F.newCall_enumerate_1 _) (fun obj=>F.args_object_init_2 obj _) F.entry_enumerate_new (meets_enum b l items) ⟨hl,?_⟩
  have n1:(s.heap.push (itObj b l)).objs.size=s.heap.objs.size+1:=Heap.size_push ..
  have a2:IsEnum ((s.heap.push (itObj b l)).push { cls:=.type "enumerate",data:=.fields #[.none,.bool false,.ref s.heap.objs.size,rawInt 0,.none,.none] }) (s.heap.push (itObj b l)).objs.size s.heap.objs.size 0 .none:=Heap.get?_push_size _ rfl
  have a1:((s.heap.push (itObj b l)).push { cls:=.type "enumerate",data:=.fields #[.none,.bool false,.ref s.heap.objs.size,rawInt 0,.none,.none] }).get? s.heap.objs.size=some (itObj b l):=Heap.get?_push_of_some _ (Heap.get?_push_size _ (by cases b <;> rfl))
  rw [n1] at a2
  show _∧_
  rw [n1]
  exact ⟨⟨_,a2,rfl⟩,h _ a2 (itObj_at a1) fun c o x=>Heap.get?_push_of_some _ (Heap.get?_push_of_some _ x)⟩
end
noncomputable def Ite (b:Bool) (l:Addr):It :=
  ⟨fun i H=>∃ xs x,H l=some (hoB b xs)∧xs[i]?=some x,
   fun i H v H'=>∃ xs x p,H l=some (hoB b xs)∧xs[i]?=some x∧H p=none∧v=.ref p∧H'=upd H p (.tup [.int i,x]),
   fun i H=>∃ xs,H l=some (hoB b xs)∧xs.length=i⟩
theorem turn_enum {P:Program} {w:World} {K:PySem.W.Frag} {elts:List Expr} {x1:Nat} {pos:Pos} {b:Bool} {l:Addr} (e it:Addr) (hne:e≠it) :
    Turn P w K (.Tuple elts x1 pos) (Ite b l) [e,it] e (fun i h=>(∃ old,IsEnum h e it i old)∧ItAt b h it l i) where
  mem:=by simp
  obj:=fun i h st c hb=>by
    obtain ⟨⟨old,he⟩,h1⟩:=st
    simp at hb
    rcases hb with rfl | rfl
    · exact ⟨_,he,fun v q=>by cases q⟩
    · exact h1.there
  keep:=fun i h h' st k=>by
    obtain ⟨⟨old,he⟩,h1⟩:=st
    exact ⟨⟨old,k _ (by simp) _ he⟩,h1.at fun o q=>k _ (by simp) o q⟩
  item:=by
    intro X hP hw hK hc i pins s σ H E I hf st hg
    subst hP hw hK
    obtain ⟨xs,x,e1,hx⟩:=hg
    obtain ⟨⟨old,he⟩,h1⟩:=st
    obtain ⟨us,r1,q1⟩:=sqAt_of I.hok e1
    obtain ⟨u,hu,ru⟩:=r1.get hx
    have nl:∀ c∈[e,it],l≠c:=fun c hc=>ne_of_none e1 (hf c hc).1
    have hlt:i < us.toArray.size:=by
      have:=(List.getElem?_eq_some_iff.mp hu).1
      simpa using this
    refine wpAny_pyNext_enum_itemD (drawsAt (A:=X.A.in1) (show X.A.in1.handled=none from I.ok.hd hc) b it l (nl it (by simp)) us.toArray) he ⟨h1,q1⟩ hlt hne (by simp only [List.mem_cons,List.not_mem_nil,or_false,not_or]; exact ⟨hne,(nl e (by simp)).symm⟩) fun x' h' tk hP' ho st' hT hsz kk=>?_
    have hxu:x'=u:=by
      have q:us[i]?=some x':=by simpa using hP'
      rw [hu] at q
      cases q
      rfl
    subst hxu
    refine ⟨_,rfl,wpAny_letOwnedTupleGo_enum ho fun h2' z2 sb=>?_⟩
    have lt:∀ {c:Addr} {o:Obj},s.heap.get? c=some o→s.heap.objs.size≠c:=fun q=>Nat.ne_of_gt (Heap.lt_size q)
    have I1:Inv X pins σ H { s with heap:=h2',toks:=tk+1 }:=I.turns (ch:=[e,it]) (fun c o hb q=>by
      simp at hb
      exact sb.extBut _ _ hb.1 (kk c o hb.1 hb.2 q)) hf
    have hTn:H s.heap.objs.size=none:=I.hok.fresh (Nat.le_refl _)
    have I2:=I1.pair (T:=s.heap.objs.size) (x:=.int i) (y:=x) hTn (sb.extBut _ _ (lt he) hT) ⟨tk,rfl⟩ ru (Nat.ne_of_gt I.lt) I.sz
      (fun q cc ee hq=>by obtain ⟨vv,zz⟩:=I.cell q cc ee; exact absurd zz.lt (by rw [hq]; exact Nat.lt_irrefl _)) (fun p hp hq=>absurd (Heap.lt_size (I.pin p hp).1) (by rw [hq]; exact Nat.lt_irrefl _))
    refine ⟨.ref s.heap.objs.size,_,I2,rfl,⟨xs,x,_,e1,hx,hTn,rfl,rfl⟩,⟨⟨_,z2⟩,st'.1.at fun o q=>sb.extBut _ _ (Ne.symm hne) q⟩,fun c hb=>?_⟩
    have hbn:c≠s.heap.objs.size:=by
      simp at hb
      obtain ⟨o1,g1,_⟩:=h1.there
      rcases hb with rfl | rfl
      · exact (lt he).symm
      · exact (lt g1).symm
    rw [upd_ne hbn]
    exact (hf c hb).1
  done:=by
    intro X hP hw hK hc i pins s σ H E I hf st hg
    subst hP hw hK
    obtain ⟨xs,e1,hend⟩:=hg
    obtain ⟨⟨old,he⟩,h1⟩:=st
    obtain ⟨us,r1,q1⟩:=sqAt_of I.hok e1
    have nl:∀ c∈[e,it],l≠c:=fun c hc=>ne_of_none e1 (hf c hc).1
    have hsz:us.toArray.size=i:=by rw [List.size_toArray,← r1.length]; exact hend
    subst hsz
    refine wpAny_pyNext_enum_endD (drawsAt (A:=X.A.in1) (show X.A.in1.handled=none from I.ok.hd hc) b it l (nl it (by simp)) us.toArray) he ⟨h1,q1⟩ fun h' eb=>⟨rfl,?_⟩
    exact I.turns (ch:=[e,it]) (t':=s.toks) (fun c o hb q=>by
      simp at hb
      exact eb c o hb.2 q) hf
  self:=fun _ _ _ _ _ st h=>by
    obtain ⟨⟨old,he⟩,_⟩:=st
    exact wpAny_pyIter_enum he h
section
variable {X:Cx} {tg:Expr} {PK:Pk} {a b:Expr} {i j:List Sl→Tr PyData} {p pos:Pos}
noncomputable def iEnum (ta:TE):TI:=fun σ H R=>ta σ H fun x H1=>∃ b l xs,x=.ref l∧H1 l=some (hoB b xs)∧R (Ite b l) H1
theorem pi_enum {elts:List Expr} {x1:Nat} {tpos:Pos} {ta:TE} (hc:X.calm=true) (hg:Gl X "enumerate") (hm:X.mg "enumerate"=none) (ha:PE X a ta)
    (hs:starEach [a] X.env=[(false,eval a X.env)]:=by rfl):PI X (.Tuple elts x1 tpos) (.Call (.Name "enumerate" p) [a] [] pos) (iEnum ta):=by
  intro pins s σ H R I h
  have hab:PA X [a] (tCons ta tNil):=pa_cons ha pa_nil (by rw [hs]; rfl)
  have h':tCons ta tNil σ H fun vs H1=>∃ x,vs=[x]∧∃ b l xs,x=.ref l∧H1 l=some (hoB b xs)∧R (Ite b l) H1:=by
    have e:(fun (x:V) (H1:Hp)=>∃ b l xs,x=.ref l∧H1 l=some (hoB b xs)∧R (Ite b l) H1)=fun x H1=>tNil σ H1 fun xs H2=>∃ y,x::xs=[y]∧∃ b l xs,y=.ref l∧H2 l=some (hoB b xs)∧R (Ite b l) H2:=by
      funext x H1
      apply propext
      constructor
      · exact fun q=>⟨x,rfl,q⟩
      · rintro ⟨y,e,q⟩
        have e':x=y:=by simpa using e
        subst e'
        exact q
    have h0:ta σ H fun x H1=>∃ b l xs,x=.ref l∧H1 l=some (hoB b xs)∧R (Ite b l) H1:=h
    rw [e] at h0
    exact h0
  refine Call_ (ld_blt I hg hm boot_enumerate (PyProof.Rows.callWith_type1 (thn (hab pos pins s σ H _ I h') fun us s1 hz0=>?_) (by rw [hs]; rfl) rfl))
  obtain ⟨vs,H1,I1,r1,q1⟩:=hz0
  obtain ⟨x,rfl,b,l,xs,rfl,e1,q⟩:=q1
  obtain ⟨u,rfl,ru⟩:=vals1 r1
  cases ru
  obtain ⟨us,ru,q1⟩:=sqAt_of I1.hok e1
  refine call_enum q1 fun h' z t1 kk=>?_
  have I2:Inv X pins σ H1 { s1 with heap:=h' }:=I1.kept (t':=s1.toks) kk
  refine wpAny_pyIter_enum z ⟨s1.heap.objs.size+1,[s1.heap.objs.size+1,s1.heap.objs.size],_,_,H1,rfl,I2,turn_enum _ _ (fun q=>absurd (show (s1.heap.objs.size+1:Nat)=s1.heap.objs.size from q) (by omega)),⟨⟨_,z⟩,t1⟩,fun c hb=>?_,q⟩
  have hle:s1.heap.objs.size≤c:=by
    simp at hb
    rcases hb with rfl | rfl <;> first | exact Nat.le_add_right _ _ | exact Nat.le_refl _
  exact I1.fpOk hle (I1.hok.fresh hle)
noncomputable def enumD (xs:List PyData):List PyData:=(List.range xs.length).zipWith (fun (n:Nat) x=>.tuple [.int n,x]) xs
theorem jok_enum {pa:Addr} {G:Hp} {b:Bool} {l:Addr} {us:List V} {xs:List PyData} (h1:G l=some (hoB b us)) (d1:DnAll G us xs):JOk PK pa (Ite b l) G (enumD xs):=fun m G2 H2 sb w=>by
  have e1:H2 l=some (hoB b us):=w.sub _ _ (sb _ _ h1)
  have hlen:(enumD xs).length=xs.length:=by unfold enumD; simp
  refine ⟨fun n d hd=>?_,us,e1,by rw [hlen,d1.length]⟩
  have hn:n < xs.length:=by rw [← hlen]; exact (List.getElem?_eq_some_iff.mp hd).1
  have hd':d=.tuple [.int n,xs[n]]:=by
    unfold enumD at hd
    rw [List.getElem?_zipWith] at hd
    simp [hn] at hd
    exact hd.symm
  subst hd'
  obtain ⟨u,hu,du⟩:=d1.get n (show xs[n]?=some xs[n] by simp [hn])
  refine ⟨⟨us,u,e1,hu⟩,fun x H3 hz0=>?_⟩
  obtain ⟨us',u',p,f1,hu',hp,ex,eH⟩:=hz0
  rw [e1] at f1
  have:=hoB_inj f1
  subst us'
  rw [hu] at hu'
  cases hu'
  subst ex eH
  obtain ⟨w3,s3⟩:=w.new (o:=.tup [.int n,u]) hp
  exact ⟨_,s3,w3,.tup upd_same (.cons (.int n) (.cons ((du.mono sb).mono s3.gs) .nil))⟩
noncomputable def aEnum (i:List Sl→Tr PyData):List Sl→Tr (List PyData):=fun ρ=>(i ρ).bind fun x=>(Tr.of (itD x)).bind fun xs=>.ret (enumD xs)
theorem ai_enum {iter:Expr} (h:PI X tg iter (iEnum (TAe PK i))):PI X tg iter (TAi PK (aEnum i)):=h.imp fun σ H R0 hz0=>by
  obtain ⟨pa,G₀,H₀,m,ρ,G,R,z⟩:=hz0
  refine TAe.then R z fun m1 x v G1 H1 s1 w1 R1 d1 q1=>?_
  rw [Tr.ok_bind] at q1
  obtain ⟨xs,hx,q1⟩:=Tr.ok_of q1
  obtain ⟨b1,l1,us,rfl,e1,f1⟩:=hoB_of d1 hx
  exact ⟨b1,l1,us,rfl,w1.sub _ _ e1,q1 _ G1 H1 s1 w1 (jok_enum e1 f1)⟩
end
end L2
set_option Elab.async false
set_option linter.all false
set_option maxRecDepth 100000
namespace L2
open PySem PySem.Spec PyProof.Rows
section
variable {prog:Program} {w:World} {A:Around}
theorem walksAt (hh:A.handled=none) (b:Bool) (I ax:Addr) (hne:ax≠I) (items:Array Value):Walks prog w A I [I,ax] [I] items.size (fun i v=>items[i]?=some v) (fun i h=>ItAt b h I ax i∧SqAt b h ax items):=by
  cases b with
  | true=>exact Walks.list hh I ax hne items
  | false=>exact Walks.tuple hh I ax hne items
end
theorem ints_get {ns:List Int} {us:List Value} (r:Vals (ns.map V.int) us) {i:Nat} {v:Value} (h:us[i]?=some v):∃ t,v=.int ((ns[i]?).getD 0) t:=by
  have hi:i < us.length:=(List.getElem?_eq_some_iff.mp h).1
  have hl:us.length=ns.length:=by rw [← r.length,List.length_map]
  obtain ⟨u,e1,e2⟩:=r.get (i:=i) (x:=V.int ns[i]) (by simp [show i < ns.length by omega])
  rw [h] at e1
  cases e1
  obtain ⟨t,e2⟩:=e2
  exact ⟨t,by simp [show i < ns.length by omega,e2]⟩
theorem preSum_list (ns:List Int):preSum (fun i=>(ns[i]?).getD 0) ns.length=ns.sum:=by
  have key:∀ k,k≤ns.length→preSum (fun i=>(ns[i]?).getD 0) k=(ns.take k).sum:=by
    intro k
    induction k with
    | zero=>intro _; simp [preSum]
    | succ k ih =>
      intro hk
      rw [preSum,ih (by omega),List.take_add_one,List.sum_append]
      simp [show k < ns.length by omega]
  rw [key _ (Nat.le_refl _),List.take_length]
section
variable {X:Cx} {PK:Pk}
theorem call_sumD (hc:X.calm=true):CallR X (.builtin "sum") (fun xs H Q=>∃ (b:Bool) (l:Addr) (ns:List Int),xs=[.ref l]∧H l=some (hoB b (ns.map V.int))∧Q (.int ns.sum) H):=by
  intro pins s σ H xs us Q I r h
  obtain ⟨b,l,ns,rfl,e1,q⟩:=h
  obtain ⟨u,rfl,ru⟩:=vals1 r
  cases ru
  obtain ⟨vs,rv,sq⟩:=sqAt_of I.hok e1
  have hlt:l < s.heap.objs.size:=I.hok.lt e1
  refine call_sum_walkG (pyIter_sq sq ?_)
  refine ⟨s.heap.objs.size,[s.heap.objs.size,l],[s.heap.objs.size],vs.toArray.size,_,_,fun i=>(ns[i]?).getD 0,rfl,walksAt (A:=X.A.in1) (I.ok.hd hc) b _ l (Nat.ne_of_lt hlt) vs.toArray,
    ⟨itObj_at (Heap.get?_push_size _ (by cases b <;> rfl)),sq.push _⟩,fun c hc=>?_,fun i v hv=>ints_get rv (by simpa using hv),fun h' tk t' hk=>?_⟩
  · rw [Heap.size_push]
    simp at hc
    rcases hc with rfl | rfl
    · exact Nat.lt_succ_self _
    · exact Nat.lt_succ_of_lt hlt
  · refine ⟨.int ns.sum,H,I.kept (t':=tk) fun c o e=>hk c o (fun z=>?_) (Heap.get?_push_of_some _ e),⟨t',?_⟩,q⟩
    · have:c=s.heap.objs.size:=by simpa using z
      subst this
      exact Nat.lt_irrefl _ (Heap.lt_size e)
    · have e:vs.toArray.size=ns.length:=by rw [List.size_toArray,← rv.length,List.length_map]
      rw [e,preSum_list]
theorem range_all' (bs:List Bool):((List.range bs.length).all fun i=>(bs[i]?).getD true)=bs.all id:=by
  rw [Bool.eq_iff_iff,List.all_eq_true,List.all_eq_true]
  constructor
  · intro h x hx
    obtain ⟨i,hi,rfl⟩:=List.getElem_of_mem hx
    have:=h i (List.mem_range.mpr hi)
    simpa [hi] using this
  · intro h i hi
    have hi':=List.mem_range.mp hi
    simpa [hi'] using h _ (List.getElem_mem hi')
theorem bools_get {bs:List Bool} {us:List Value} (r:Vals (bs.map V.bl) us) {i:Nat} {v:Value} (h:us[i]?=some v):v=.bool ((bs[i]?).getD true):=by
  have hi:i < us.length:=(List.getElem?_eq_some_iff.mp h).1
  have hl:us.length=bs.length:=by rw [← r.length,List.length_map]
  obtain ⟨u,e1,e2⟩:=r.get (i:=i) (x:=V.bl bs[i]) (by simp [show i < bs.length by omega])
  rw [h] at e1
  cases e1
  cases e2
  simp [show i < bs.length by omega]
theorem call_allD (hc:X.calm=true):CallR X (.builtin "all") (fun xs H Q=>∃ (b:Bool) (l:Addr) (bs:List Bool),xs=[.ref l]∧H l=some (hoB b (bs.map V.bl))∧Q (.bl (bs.all id)) H):=by
  intro pins s σ H xs us Q I r h
  obtain ⟨b,l,bs,rfl,e1,q⟩:=h
  obtain ⟨u,rfl,ru⟩:=vals1 r
  cases ru
  obtain ⟨vs,rv,sq⟩:=sqAt_of I.hok e1
  have hlt:l < s.heap.objs.size:=I.hok.lt e1
  refine call_all_walk (pyIter_sq sq ?_)
  refine ⟨s.heap.objs.size,[s.heap.objs.size,l],[s.heap.objs.size],vs.toArray.size,_,_,fun i=>(bs[i]?).getD true,rfl,walksAt (A:=X.A.in1) (I.ok.hd hc) b _ l (Nat.ne_of_lt hlt) vs.toArray,
    ⟨itObj_at (Heap.get?_push_size _ (by cases b <;> rfl)),sq.push _⟩,fun i v s' Q' E' hP hQ=>?_,fun h' tk hk=>?_⟩
  · have e:=bools_get rv (i:=i) (v:=v) (by simpa using hP)
    subst e
    exact wpAny_truthy_bool hQ
  · have e:vs.toArray.size=bs.length:=by rw [List.size_toArray,← rv.length,List.length_map]
    rw [e,range_all']
    refine ⟨.bl _,H,I.kept (t':=tk) fun c o e=>hk c o (fun z=>?_) (Heap.get?_push_of_some _ e),rfl,q⟩
    have:c=s.heap.objs.size:=by simpa using z
    subst this
    exact Nat.lt_irrefl _ (Heap.lt_size e)
noncomputable def bools?:List PyData→Option (List Bool)
  | []=>some []
  | .bool n::xs=>(bools? xs).bind fun ns=>some (n::ns)
  | _=>none
@[simp] theorem bools?_map:∀ ns:List Bool,bools? (ns.map PyData.bool)=some ns
  | []=>rfl
  | n::ns=>by rw [List.map_cons,bools?,bools?_map ns]; rfl
theorem DnAll.bools_inv {H:Hp} {vs:List V} {ds:List PyData} {ns:List Bool} (a:DnAll H vs ds) (h:bools? ds=some ns):vs=ns.map V.bl∧ds=ns.map PyData.bool:=by
  induction vs generalizing ds ns with
  | nil=>cases a; cases h; exact ⟨rfl,rfl⟩
  | cons v vs ih =>
    cases a with
    | cons g t =>
      cases g with
      | bl n =>
        unfold bools? at h
        rename_i ds
        cases e:bools? ds with
        | none=>rw [e] at h; cases h
        | some ms =>
          rw [e] at h
          cases h
          obtain ⟨h1,h2⟩:=ih t e
          exact ⟨by rw [h1]; rfl,by rw [h2]; rfl⟩
      | _=>unfold bools? at h; cases h
noncomputable def onL {α:Type} (p:List PyData→Option α) (f:α→Option PyData):List PyData→Option PyData
  | [x]=>(itD x).bind fun xs=>(p xs).bind f
  | _=>none
noncomputable def sumD:List PyData→Option PyData:=onL ints? fun ns=>some (.int ns.sum)
noncomputable def allD:List PyData→Option PyData:=onL bools? fun ns=>some (.bool (ns.all id))
theorem onL_inv {α:Type} {p:List PyData→Option α} {f:α→Option PyData} {G:Hp} {vs:List V} {ds:List PyData} {d:PyData} (hv:DnAll G vs ds) (h:onL p f ds=some d):∃ b l us xs y,vs=[.ref l]∧G l=some (hoB b us)∧DnAll G us xs∧p xs=some y∧f y=some d:=by
  unfold onL at h
  split at h
  · rename_i x
    cases hx:itD x with
    | none=>rw [hx] at h; cases h
    | some xs =>
      rw [hx] at h
      have h':(p xs).bind f=some d:=h
      cases hp:p xs with
      | none=>rw [hp] at h'; cases h'
      | some y =>
        rw [hp] at h'
        cases hv with
        | cons h1 h2 =>
          cases h2
          obtain ⟨b,l,us,rfl,e1,e2⟩:=hoB_of h1 hx
          exact ⟨b,l,us,xs,y,rfl,e1,e2,hp,h'⟩
  · cases h
theorem vc_sum:VCl (fun xs H Q=>∃ (b:Bool) (l:Addr) (ns:List Int),xs=[.ref l]∧H l=some (hoB b (ns.map V.int))∧Q (.int ns.sum) H) sumD:=fun PK pa m G H vs ds d Q w hv hd k=>by
  obtain ⟨b,l,us,xs,ns,rfl,e1,e2,hp,hf⟩:=onL_inv hv hd
  obtain ⟨rfl,rfl⟩:=e2.ints_inv hp
  cases hf
  exact ⟨b,l,ns,rfl,w.sub _ _ e1,k.here w (.int _)⟩
theorem vc_all:VCl (fun xs H Q=>∃ (b:Bool) (l:Addr) (bs:List Bool),xs=[.ref l]∧H l=some (hoB b (bs.map V.bl))∧Q (.bl (bs.all id)) H) allD:=fun PK pa m G H vs ds d Q w hv hd k=>by
  obtain ⟨b,l,us,xs,ns,rfl,e1,e2,hp,hf⟩:=onL_inv hv hd
  obtain ⟨rfl,rfl⟩:=e2.bools_inv hp
  cases hf
  exact ⟨b,l,ns,rfl,w.sub _ _ e1,k.here w (.bl _)⟩
variable {a b c e:Expr} {pos:Pos} {i j l:List Sl→Tr PyData}
noncomputable def aChain (f g:PyData→PyData→Option PyData) (i j l:List Sl→Tr PyData):List Sl→Tr PyData:=fun ρ=>(i ρ).bind fun x=>(j ρ).bind fun y=>(Tr.of (f x y)).bind fun z=>(Tr.of (toB z)).bind fun k =>
  if k=true then (l ρ).bind fun u=>Tr.of (g y u) else .ret (.bool false)
theorem chain_read {r r':R2} {f g:PyData→PyData→Option PyData} (hv:VOp2 r f) (hv':VOp2 r' g):∀ σ H Q,TAe PK (aChain f g i j l) σ H Q→tChain r r' (TAe PK i) (TAe PK j) (TAe PK l) σ H Q:=by
  rintro σ H Q ⟨pa,G₀,H₀,m,ρ,G,R,q⟩
  refine TAe.then R q fun m1 x v G1 H1 s1 w1 R1 d1 q1=>?_
  refine TAe.then R1 q1 fun m2 y u G2 H2 s2 w2 R2 d2 q2=>?_
  rw [Tr.ok_bind] at q2
  obtain ⟨z,hz,q3⟩:=Tr.ok_of q2
  rw [Tr.ok_bind] at q3
  obtain ⟨k,hk,q5⟩:=Tr.ok_of q3
  have s12:=s1.trans s2 w1.some
  refine hv PK pa m2 G2 H2 v u x y z _ w2 (d1.mono s2.gs) d2 hz fun zz G3 H3 s3 w3 d3=>?_
  cases d3 <;> simp only [toB] at hk <;> cases hk
  refine ⟨_,rfl,?_⟩
  have s13:=s12.trans s3 w2.some
  cases k with
  | true =>
    rw [if_pos rfl] at q5 ⊢
    refine TAe.then (R2.step s3 w3) q5 fun m4 t vt G4 H4 s4 w4 R4 d4 q4=>?_
    obtain ⟨zz,hzz,q4⟩:=Tr.ok_of q4
    exact hv' PK pa m4 G4 H4 u vt y t zz Q w4 (d2.mono (s3.gs.trans s4.gs)) d4 hzz (Kn.later q4 (s13.trans s4 w3.some) w4.some)
  | false =>
    rw [if_neg Bool.false_ne_true] at q5 ⊢
    exact (Kn.later q5 s13 w3.some).here w3 (.bl false)
theorem ae_chain {op op':CmpOp} {r r':R2} {f g:PyData→PyData→Option PyData} (ho:OpR X (compareOp op) r) (hv:VOp2 r f) (ho':OpR X (compareOp op') r') (hv':VOp2 r' g) (ha:PE X a (TAe PK i)) (hb:PE X b (TAe PK j)) (hc:PE X c (TAe PK l))
    (hm:lastMarks [op,op'] [b,c]=false:=by with_unfolding_all rfl):PE X (.Compare a [op,op'] [b,c] pos) (TAe PK (aChain f g i j l)):=(pe_chain ho ho' ha hb hc hm).imp (chain_read hv hv')
theorem at_chain {op op':CmpOp} {r r':R2} {f g:PyData→PyData→Option PyData} (ho:OpR X (compareOp op) r) (hv:VOp2 r f) (ho':OpR X (compareOp op') r') (hv':VOp2 r' g) (ha:PE X a (TAe PK i)) (hb:PE X b (TAe PK j)) (hc:PE X c (TAe PK l))
    (hm:lastMarks [op,op'] [b,c]=false:=by with_unfolding_all rfl):PT X (.Compare a [op,op'] [b,c] pos) (TAt PK (aTest (aChain f g i j l))) :=
  (pt_chain ho ho' ha hb hc hm).imp fun σ H Q z=>tTest_mono (chain_read hv hv') σ H Q (aTest_read σ H Q z)
theorem pip {op:Operator} {r:R2} (h:OpR X (inplaceOp op) r):PIp X op r:=h
noncomputable def iaddD:PyData→PyData→Option PyData
  | .int m,.int n=>some (.int (m+n))
  | _,_=>none
theorem vo_iadd:VOp2 (rI0 fun i j=>.int (i+j)) iaddD:=fun PK pa m G H x y dx dy dz Q w hx hy hz k=>by
  unfold iaddD at hz
  split at hz
  · cases hz; cases hx; cases hy
    exact ⟨_,_,rfl,rfl,k.here w (.int _)⟩
  · cases hz
end
theorem o_read {PK:Pk} {is:List Sl→Tr (List PyData)}:∀ σ H Q,TAe PK (aLst is) σ H Q→TAo PK is σ H Q:=by
  intro σ H Q z
  obtain ⟨pa,G₀,H₀,m,ρ,G,R,z⟩:=z
  exact ⟨pa,G₀,H₀,m,ρ,G,R,Tr.ok_mono (Tr.ok_bind.mp z) fun m1 xs k=>Ko1.of k R.wd.some⟩
theorem as_setLcD {PK:Pk} {X:Cx} {st:Stmt} {is:List Sl→Tr (List PyData)} {i:List Sl→Tr PyData} {n k:Nat} {ix:List Nat} {g:PyData→List Sl→Option (List Sl)} (h:PS X st (tAsg (tLc (TAi PK is) n ix (fun _=>TAg PK g) (fun _=>TAe PK i)) (gName k))) (hn:PresN n g):PS X st (TAs PK (aSet k (aLst (aLc is n ix g i)))) :=
  as_set (h.imp (tAsg_mono fun σ H Q z=>lc_read hn σ H Q (o_read σ H Q z)))
end L2
set_option Elab.async false
set_option linter.all false
set_option maxRecDepth 100000
namespace L2
open PySem PySem.Spec PyProof.Rows
variable {ρ:List Sl} {s t:List Sl→Tr Ou} {i j l:List Sl→Tr PyData} {is:List Sl→Tr (List PyData)} {as:List Sl→Tr (List Sl)} {f:List Sl→Tr Re} {p q:List Sl→Tr Bool} {k n:Nat} {x y d:PyData} {xs ys:List PyData} {sl:Sl}
theorem ev_var0:aVar 0 (.d x::ρ)=.ret x:=rfl
theorem ev_varS:aVar (k+1) (sl::ρ)=aVar k ρ:=rfl
theorem ev_C:aC d ρ=.ret d:=rfl
noncomputable def bin2 (g:PyData→PyData→Option PyData) (x y:PyData):Tr PyData:=Tr.of (g x y)
noncomputable def bin1 (g:PyData→PyData→Option PyData) (j:List Sl→Tr PyData) (ρ:List Sl) (x:PyData):Tr PyData:=(j ρ).bind (bin2 g x)
theorem ev_bin {g:PyData→PyData→Option PyData}:aBin g i j ρ=(i ρ).bind (bin1 g j ρ):=rfl
theorem ev_bin1 {g:PyData→PyData→Option PyData}:bin1 g j ρ x=(j ρ).bind (bin2 g x):=rfl
theorem ev_add (m n:Int):bin2 addD (.int m) (.int n)=.ret (.int (m+n)):=rfl
theorem ev_addT (h1:xs.isEmpty=false) (h2:small (xs.length+ys.length)=true):bin2 addD (.tuple xs) (.tuple ys)=.ret (.tuple (xs++ys)):=by
  simp [bin2,addD,h1,h2]
theorem ev_addL (h2:small (xs.length+ys.length)=true):bin2 addD (.list xs) (.list ys)=.ret (.list (xs++ys)):=by
  simp [bin2,addD,h2]
theorem ev_sub (m n:Int):bin2 subD (.int m) (.int n)=.ret (.int (m - n)):=rfl
theorem ev_mul {m n:Int} (h1:fit m=true) (h2:fit n=true):bin2 mulD' (.int m) (.int n)=.ret (.int (m * n)):=by
  simp [bin2,mulD',h1,h2]
theorem ev_fdiv {m n:Int} (h1:n≠0) (h2:fit n=true):bin2 fdivD (.int m) (.int n)=.ret (.int (m.fdiv n)):=by
  simp [bin2,fdivD,h1,h2]
theorem ev_mod {m n:Int} (h1:n≠0):bin2 modD (.int m) (.int n)=.ret (.int (m.fmod n)):=by
  simp [bin2,modD,h1]
theorem ev_cmp {g:Int→Int→Bool} (m n:Int):bin2 (cmpD g) (.int m) (.int n)=.ret (.bool (g m n)):=rfl
theorem ev_eqI (m n:Int):bin2 eqD (.int m) (.int n)=.ret (.bool (m == n)):=rfl
theorem ev_neI (m n:Int):bin2 neD (.int m) (.int n)=.ret (.bool (!(m == n))):=rfl
theorem ev_eqB (m n:Bool):bin2 eqD (.bool m) (.bool n)=.ret (.bool (m == n)):=rfl
theorem ev_eqS (m n:Str):bin2 eqD (.str m) (.str n)=.ret (.bool (m == n)):=rfl
theorem ev_neS (m n:Str):bin2 neD (.str m) (.str n)=.ret (.bool (!(m == n))):=rfl
theorem neD_of (h1:SeqAt.shaped x=true) (h2:SeqAt.shaped y=true) (h3:∀ a b,¬ (x=.str a∧y=.str b)):bin2 neD x y=.ret (.bool (!PyData.eqv x y)):=by
  unfold bin2 neD
  split
  · exact absurd ⟨rfl,rfl⟩ (h3 _ _)
  · rw [h1,h2]; rfl
theorem ev_neL (h1:SeqAt.shaped (.list xs)=true) (h2:SeqAt.shaped (.list ys)=true):bin2 neD (.list xs) (.list ys)=.ret (.bool (!PyData.eqvAll xs ys)):=by
  rw [neD_of h1 h2 (fun a b z=>by cases z.1)]
  simp only [PyData.eqv]
theorem ev_isB (m n:Bool):bin2 isBD (.bool m) (.bool n)=.ret (.bool (m == n)):=rfl
theorem ev_isN:bin2 isND x .none=.ret (.bool (isNo x)):=rfl
theorem ev_ixL (n:Int):bin2 ixD (.list xs) (.int n)=Tr.of (atI xs n):=rfl
theorem ev_ixT (n:Int):bin2 ixD (.tuple xs) (.int n)=Tr.of (atI xs n):=rfl
theorem atI_ge {α:Type} {xs:List α} {n:Int} {v:α} (h0:0≤n) (h:xs[n.toNat]?=some v):atI xs n=some v:=by
  have e:(n.toNat:Int)=n:=Int.toNat_of_nonneg h0
  rw [← e]
  exact atI_nat h
section
variable {α:Type} {a0 a1 a2 a3 a4 a5 a6 a7 a8:α} {r:List α}
theorem at_0:atI (a0::r) 0=some a0:=atI_nat (j:=0) rfl
theorem at_1:atI (a0::a1::r) 1=some a1:=atI_nat (j:=1) rfl
theorem at_2:atI (a0::a1::a2::r) 2=some a2:=atI_nat (j:=2) rfl
theorem at_3:atI (a0::a1::a2::a3::r) 3=some a3:=atI_nat (j:=3) rfl
theorem at_4:atI (a0::a1::a2::a3::a4::r) 4=some a4:=atI_nat (j:=4) rfl
theorem at_5:atI (a0::a1::a2::a3::a4::a5::r) 5=some a5:=atI_nat (j:=5) rfl
theorem at_6:atI (a0::a1::a2::a3::a4::a5::a6::r) 6=some a6:=atI_nat (j:=6) rfl
theorem at_7:atI (a0::a1::a2::a3::a4::a5::a6::a7::r) 7=some a7:=atI_nat (j:=7) rfl
theorem at_8:atI (a0::a1::a2::a3::a4::a5::a6::a7::a8::r) 8=some a8:=atI_nat (j:=8) rfl
end
noncomputable def neg1:PyData→Tr PyData
  | .int n=>.ret (.int (-n))
  | _=>.fail
theorem ev_neg:aNeg i ρ=(i ρ).bind neg1:=by
  unfold aNeg
  refine congrArg (Tr.bind (i ρ)) (funext fun x=>?_)
  cases x <;> rfl
theorem ev_neg1 (n:Int):neg1 (.int n)=.ret (.int (-n)):=rfl
noncomputable def tst1 (x:PyData):Tr Bool:=Tr.of (toB x)
theorem ev_test:aTest i ρ=(i ρ).bind tst1:=rfl
theorem ev_tst1 (b:Bool):tst1 (.bool b)=.ret b:=rfl
noncomputable def tru1 (x:PyData):Tr Bool:=Tr.of (truD x)
theorem ev_tru:aTru i ρ=(i ρ).bind tru1:=rfl
theorem ev_truB (b:Bool):tru1 (.bool b)=.ret b:=rfl
theorem ev_truI (n:Int):tru1 (.int n)=.ret (n != 0):=rfl
theorem ev_truL:tru1 (.list xs)=.ret (!xs.isEmpty):=rfl
theorem ev_truT:tru1 (.tuple xs)=.ret (!xs.isEmpty):=rfl
theorem ev_truN:tru1 .none=.ret false:=rfl
noncomputable def or1 (q:List Sl→Tr Bool) (ρ:List Sl) (b:Bool):Tr Bool:=if b=true then .ret true else q ρ
noncomputable def not1 (b:Bool):Tr Bool:=.ret (!b)
theorem ev_or:aOr p q ρ=(p ρ).bind (or1 q ρ):=rfl
theorem ev_not:aNot p ρ=(p ρ).bind not1:=rfl
theorem ev_or1t:or1 q ρ true=.ret true:=rfl
theorem ev_or1f:or1 q ρ false=q ρ:=rfl
theorem ev_not1 (b:Bool):not1 b=.ret (!b):=rfl
noncomputable def andV1 (j:List Sl→Tr PyData) (ρ:List Sl) (b:Bool):Tr PyData:=if b=true then j ρ else .ret (.bool false)
noncomputable def notV1 (b:Bool):Tr PyData:=.ret (.bool (!b))
theorem ev_andV:aAndV i j ρ=(aTest i ρ).bind (andV1 j ρ):=rfl
theorem ev_notV:aNotV i ρ=(aTest i ρ).bind notV1:=rfl
theorem ev_andV1t:andV1 j ρ true=j ρ:=rfl
theorem ev_andV1f:andV1 j ρ false=.ret (.bool false):=rfl
theorem ev_notV1 (b:Bool):notV1 b=.ret (.bool (!b)):=rfl
noncomputable def if1 (i j:List Sl→Tr PyData) (ρ:List Sl) (b:Bool):Tr PyData:=if b=true then i ρ else j ρ
theorem ev_if:aIf p i j ρ=(p ρ).bind (if1 i j ρ):=rfl
theorem ev_if1t:if1 i j ρ true=i ρ:=rfl
theorem ev_if1f:if1 i j ρ false=j ρ:=rfl
noncomputable def ch4 (g:PyData→PyData→Option PyData) (l:List Sl→Tr PyData) (ρ:List Sl) (y:PyData) (k:Bool):Tr PyData:=if k=true then (l ρ).bind (bin2 g y) else .ret (.bool false)
noncomputable def ch3 (g:PyData→PyData→Option PyData) (l:List Sl→Tr PyData) (ρ:List Sl) (y z:PyData):Tr PyData:=(tst1 z).bind (ch4 g l ρ y)
noncomputable def ch2 (f g:PyData→PyData→Option PyData) (l:List Sl→Tr PyData) (ρ:List Sl) (x y:PyData):Tr PyData:=(bin2 f x y).bind (ch3 g l ρ y)
noncomputable def ch1 (f g:PyData→PyData→Option PyData) (j l:List Sl→Tr PyData) (ρ:List Sl) (x:PyData):Tr PyData:=(j ρ).bind (ch2 f g l ρ x)
theorem ev_chain {f g:PyData→PyData→Option PyData}:aChain f g i j l ρ=(i ρ).bind (ch1 f g j l ρ):=rfl
theorem ev_ch1 {f g:PyData→PyData→Option PyData}:ch1 f g j l ρ x=(j ρ).bind (ch2 f g l ρ x):=rfl
theorem ev_ch2 {f g:PyData→PyData→Option PyData}:ch2 f g l ρ x y=(bin2 f x y).bind (ch3 g l ρ y):=rfl
theorem ev_ch3 {g:PyData→PyData→Option PyData} (b:Bool):ch3 g l ρ y (.bool b)=ch4 g l ρ y b:=rfl
theorem ev_ch4t {g:PyData→PyData→Option PyData}:ch4 g l ρ y true=(l ρ).bind (bin2 g y):=rfl
theorem ev_ch4f {g:PyData→PyData→Option PyData}:ch4 g l ρ y false=.ret (.bool false):=rfl
noncomputable def cons2 (x:PyData) (xs:List PyData):Tr (List PyData):=.ret (x::xs)
noncomputable def cons1 (is:List Sl→Tr (List PyData)) (ρ:List Sl) (x:PyData):Tr (List PyData):=(is ρ).bind (cons2 x)
theorem ev_nil:aNil ρ=.ret []:=rfl
theorem ev_cons:aCons i is ρ=(i ρ).bind (cons1 is ρ):=rfl
theorem ev_cons1:cons1 is ρ x=(is ρ).bind (cons2 x):=rfl
theorem ev_cons2:cons2 x xs=.ret (x::xs):=rfl
noncomputable def tup1 (xs:List PyData):Tr PyData:=if small xs.length=true then .ret (.tuple xs) else .fail
theorem ev_tup:aTup is ρ=(is ρ).bind tup1:=rfl
theorem ev_tup1 (h:small xs.length=true):tup1 xs=.ret (.tuple xs):=by unfold tup1; rw [if_pos h]
noncomputable def lst1 (xs:List PyData):Tr PyData:=.ret (.list xs)
theorem ev_lst:aLst is ρ=(is ρ).bind lst1:=rfl
theorem ev_lst1:lst1 xs=.ret (.list xs):=rfl
noncomputable def lo1 (xs:List PyData):Tr (List PyData):=if small xs.length=true then .ret xs else .fail
theorem ev_lo:aLo is ρ=(is ρ).bind lo1:=rfl
theorem ev_lo1 (h:small xs.length=true):lo1 xs=.ret xs:=by unfold lo1; rw [if_pos h]
theorem small_le {n:Nat} (h:n≤10000):small n=true:=decide_eq_true (Nat.le_trans h (by decide))
noncomputable def cb1 (g:List PyData→Option PyData) (xs:List PyData):Tr PyData:=Tr.of (g xs)
noncomputable def cbo1 (g:List PyData→Option (List PyData)) (xs:List PyData):Tr (List PyData):=Tr.of (g xs)
theorem ev_cb {g:List PyData→Option PyData}:aCB g is ρ=(is ρ).bind (cb1 g):=rfl
theorem ev_cbo {g:List PyData→Option (List PyData)}:aCBo g is ρ=(is ρ).bind (cbo1 g):=rfl
theorem ev_lenL:cb1 lenD [.list xs]=.ret (.int xs.length):=rfl
theorem ev_lenT:cb1 lenD [.tuple xs]=.ret (.int xs.length):=rfl
theorem ev_abs (n:Int):cb1 absD [.int n]=.ret (.int (absI n)):=rfl
theorem ev_max2 (m n:Int):cb1 max2D [.int m,.int n]=.ret (.int (maxI m n)):=rfl
theorem ev_intI (n:Int):cb1 intD [.int n]=.ret (.int n):=rfl
theorem ev_intB (b:Bool):cb1 intD [.bool b]=.ret (.int (if b then 1 else 0)):=rfl
theorem ev_tupL:cb1 tupD [.list xs]=.ret (.tuple xs):=rfl
theorem ev_tupT:cb1 tupD [.tuple xs]=.ret (.tuple xs):=rfl
theorem ev_lstL:cbo1 lstD [.list xs]=.ret xs:=rfl
theorem ev_lstT:cbo1 lstD [.tuple xs]=.ret xs:=rfl
theorem ev_repr (h:reprOk x=true):cb1 reprD [x]=.ret (.str x.shown):=by
  simp [cb1,reprD,h]
theorem ev_sumL (ns:List Int):cb1 sumD [.list (ns.map .int)]=.ret (.int ns.sum):=by
  unfold cb1 sumD onL
  simp
theorem ev_sumT (ns:List Int):cb1 sumD [.tuple (ns.map .int)]=.ret (.int ns.sum):=by
  unfold cb1 sumD onL
  simp
theorem ev_allL (ns:List Bool):cb1 allD [.list (ns.map .bool)]=.ret (.bool (ns.all id)):=by
  unfold cb1 allD onL
  simp
noncomputable def isi1 (T:String) (x:PyData):Tr PyData:=.ret (.bool (isiB T (tyD x)))
theorem ev_isi {T:String}:aIsi T i ρ=(i ρ).bind (isi1 T):=rfl
theorem ev_isi1 {T:String}:isi1 T x=.ret (.bool (isiB T (tyD x))):=rfl
noncomputable def sl3 (x:PyData) (lo:Option Int) (hi:Option Int):Tr PyData:=Tr.of (sliceD x lo hi)
noncomputable def sl2 (q:aPart) (ρ:List Sl) (x:PyData) (lo:Option Int):Tr PyData:=(q ρ).bind (sl3 x lo)
noncomputable def sl1 (p q:aPart) (ρ:List Sl) (x:PyData):Tr PyData:=(p ρ).bind (sl2 q ρ x)
theorem ev_sl {p q:aPart}:aSl i p q ρ=(i ρ).bind (sl1 p q ρ):=rfl
theorem ev_sl1 {p q:aPart}:sl1 p q ρ x=(p ρ).bind (sl2 q ρ x):=rfl
theorem ev_sl2 {q:aPart} {lo:Option Int}:sl2 q ρ x lo=(q ρ).bind (sl3 x lo):=rfl
theorem ev_sl3L {lo hi:Option Int}:sl3 (.list xs) lo hi=.ret (.list (cutD xs lo hi)):=rfl
theorem ev_sl3T {lo hi:Option Int}:sl3 (.tuple xs) lo hi=.ret (.tuple (cutD xs lo hi)):=rfl
theorem ev_p0:aP0 ρ=.ret none:=rfl
noncomputable def pa1:PyData→Tr (Option Int)
  | .int n=>.ret (some n)
  | _=>.fail
theorem ev_p1:aP1 i ρ=(i ρ).bind pa1:=by
  unfold aP1
  refine congrArg (Tr.bind (i ρ)) (funext fun x=>?_)
  cases x <;> rfl
theorem ev_pa1 (n:Int):pa1 (.int n)=.ret (some n):=rfl
noncomputable def tupR1 (xs:List PyData):Tr PyData:=(Tr.of (rngV2 xs)).bind fun ys=>.ret (.tuple ys)
theorem ev_tupR:aTupR is ρ=(is ρ).bind tupR1:=rfl
theorem ev_tupR1 {lo hi:Int} (h:rngOk lo hi=true):tupR1 [.int lo,.int hi]=.ret (.tuple (rngL lo hi)):=by
  simp [tupR1,rngV2,h]
noncomputable def lstR1 (xs:List PyData):Tr (List PyData):=Tr.of (rngV2 xs)
theorem ev_lstR:aLstR is ρ=(is ρ).bind lstR1:=rfl
theorem ev_lstR1 {lo hi:Int} (h:rngOk lo hi=true):lstR1 [.int lo,.int hi]=.ret (rngL lo hi):=by
  simp [lstR1,rngV2,h]
theorem ev_aaNil:aaNil ρ=.ret []:=rfl
noncomputable def aa2 (x:Sl) (xs:List Sl):Tr (List Sl):=.ret (x::xs)
noncomputable def aa1 (as:List Sl→Tr (List Sl)) (ρ:List Sl) (x:PyData):Tr (List Sl):=(as ρ).bind (aa2 (.d x))
theorem ev_aaCons:aaCons i as ρ=(i ρ).bind (aa1 as ρ):=rfl
theorem ev_aa1:aa1 as ρ x=(as ρ).bind (aa2 (.d x)):=rfl
theorem ev_aa2 {xs:List Sl}:aa2 sl xs=.ret (sl::xs):=rfl
noncomputable def penAt:Nat→List Sl→Tr Unit
  | 0,.pen::_=>.ret ()
  | k+1,_::ρ=>penAt k ρ
  | _,_=>.fail
theorem ev_pen0:penAt 0 (.pen::ρ)=.ret ():=rfl
theorem ev_penS:penAt (k+1) (sl::ρ)=penAt k ρ:=rfl
noncomputable def aap (as:List Sl→Tr (List Sl)) (ρ:List Sl) (_:Unit):Tr (List Sl):=(as ρ).bind (aa2 .pen)
theorem ev_aaPen:aaPen k as ρ=(penAt k ρ).bind (aap as ρ):=by
  have key:∀ (k:Nat) (σ:List Sl) (as:List Sl→Tr (List Sl)) (ρ:List Sl),(match σ[k]? with | some Sl.pen=>(as ρ).bind fun xs=>Tr.ret (Sl.pen::xs) | _=>Tr.fail)=(penAt k σ).bind (aap as ρ):=by
    intro k
    induction k with
    | zero =>
      intro σ as ρ
      cases σ with
      | nil=>rfl
      | cons s r=>cases s <;> rfl
    | succ k ih =>
      intro σ as ρ
      cases σ with
      | nil=>rfl
      | cons s r=>exact ih r as ρ
  exact key k ρ as ρ
theorem ev_aap (u:Unit):aap as ρ u=(as ρ).bind (aa2 .pen):=rfl
theorem ev_call:aCall f as ρ=(as ρ).bind f:=rfl
noncomputable def re1 (r:Re):Tr PyData:=.ret r.val
theorem ev_re:aRe f ρ=(f ρ).bind re1:=rfl
theorem ev_re1 (r:Re):re1 r=.ret r.val:=rfl
theorem ev_def {as:List Sl} (h:as.length=n):aDef n k s as=(s (as++List.replicate k .un)).bind finR:=by
  unfold aDef
  rw [if_pos (decide_eq_true h)]
theorem ev_finN:finR (.next ρ)=.ret (.d .none):=rfl
theorem ev_finR (r:Re):finR (.ret r)=.ret r:=rfl
noncomputable def seq1 (t:List Sl→Tr Ou):Ou→Tr Ou
  | .next ρ=>t ρ
  | o=>.ret o
theorem ev_seq:aSeq s t ρ=(s ρ).bind (seq1 t):=by
  unfold aSeq
  refine congrArg (Tr.bind (s ρ)) (funext fun o=>?_)
  cases o <;> rfl
theorem ev_seqN:seq1 t (.next ρ)=t ρ:=rfl
theorem ev_seqR (r:Re):seq1 t (.ret r)=.ret (.ret r):=rfl
theorem ev_seqB:seq1 t (.brk ρ)=.ret (.brk ρ):=rfl
theorem ev_seqC:seq1 t (.cont ρ)=.ret (.cont ρ):=rfl
theorem ev_skip:aSkip ρ=.ret (.next ρ):=rfl
noncomputable def ifs1 (s t:List Sl→Tr Ou) (ρ:List Sl) (b:Bool):Tr Ou:=if b=true then s ρ else t ρ
theorem ev_ifs:aIfS p s t ρ=(p ρ).bind (ifs1 s t ρ):=rfl
theorem ev_ifst:ifs1 s t ρ true=s ρ:=rfl
theorem ev_ifsf:ifs1 s t ρ false=t ρ:=rfl
noncomputable def ret1 (x:PyData):Tr Ou:=.ret (.ret (.d x))
theorem ev_ret:aRet i ρ=(i ρ).bind ret1:=rfl
theorem ev_ret1:ret1 x=.ret (.ret (.d x)):=rfl
noncomputable def retO1 (xs:List PyData):Tr Ou:=.ret (.ret (.own xs))
theorem ev_retO:aRetO is ρ=(is ρ).bind retO1:=rfl
theorem ev_retO1:retO1 xs=.ret (.ret (.own xs)):=rfl
noncomputable def retR1 (r:Re):Tr Ou:=.ret (.ret r)
theorem ev_retR:aRetR f ρ=(f ρ).bind retR1:=rfl
theorem ev_retR1 (r:Re):retR1 r=.ret (.ret r):=rfl
theorem ev_retVd:aRetV 0 (.d x::ρ)=.ret (.ret (.d x)):=rfl
theorem ev_retVo:aRetV 0 (.own xs::ρ)=.ret (.ret (.own xs)):=rfl
theorem ev_retVs:aRetV (k+1) (sl::ρ)=aRetV k ρ:=rfl
noncomputable def set1 (k:Nat) (ρ:List Sl) (x:PyData):Tr Ou:=.ret (.next (ρ.set k (.d x)))
theorem ev_set:aSet k i ρ=(i ρ).bind (set1 k ρ):=rfl
theorem ev_set1:set1 k ρ x=.ret (.next (ρ.set k (.d x))):=rfl
noncomputable def setO1 (k:Nat) (ρ:List Sl) (x:List PyData):Tr Ou:=.ret (.next (ρ.set k (.own x)))
theorem ev_setO:aSetO k is ρ=(is ρ).bind (setO1 k ρ):=rfl
theorem ev_setO1:setO1 k ρ xs=.ret (.next (ρ.set k (.own xs))):=rfl
theorem ls_0 {α:Type} {a b:α} {r:List α}:(a::r).set 0 b=b::r:=rfl
theorem ls_S {α:Type} {a b:α} {r:List α}:(a::r).set (k+1) b=a::r.set k b:=rfl
noncomputable def aug2 (g:PyData→PyData→Option PyData) (k:Nat) (ρ:List Sl) (x y:PyData):Tr Ou:=(bin2 g x y).bind (set1 k ρ)
noncomputable def aug1 (g:PyData→PyData→Option PyData) (k:Nat) (i:List Sl→Tr PyData) (ρ:List Sl) (x:PyData):Tr Ou:=(i ρ).bind (aug2 g k ρ x)
theorem ev_aug {g:PyData→PyData→Option PyData}:aAug g k i ρ=(aVar k ρ).bind (aug1 g k i ρ):=rfl
theorem ev_aug1 {g:PyData→PyData→Option PyData}:aug1 g k i ρ x=(i ρ).bind (aug2 g k ρ x):=rfl
theorem ev_aug2 {g:PyData→PyData→Option PyData}:aug2 g k ρ x y=(bin2 g x y).bind (set1 k ρ):=rfl
theorem ev_iadd (m n:Int):bin2 iaddD (.int m) (.int n)=.ret (.int (m+n)):=rfl
noncomputable def ownAt:Nat→List Sl→Tr (List PyData)
  | 0,.own xs::_=>.ret xs
  | k+1,_::ρ=>ownAt k ρ
  | _,_=>.fail
theorem ev_own0:ownAt 0 (.own xs::ρ)=.ret xs:=rfl
theorem ev_ownS:ownAt (k+1) (sl::ρ)=ownAt k ρ:=rfl
theorem own_eq {β:Type} {g:List PyData→Tr β}:∀ (k:Nat) (σ:List Sl),(match σ[k]? with | some (Sl.own xs)=>g xs | _=>Tr.fail)=(ownAt k σ).bind g
  | 0,[]=>rfl
  | 0,s::r=>by cases s <;> rfl
  | k+1,[]=>rfl
  | k+1,s::r=>own_eq k r
noncomputable def app2 (k:Nat) (ρ:List Sl) (xs:List PyData) (x:PyData):Tr Ou:=if small (xs.length+1)=true then .ret (.next (ρ.set k (.own (xs++[x])))) else .fail
noncomputable def app1 (k:Nat) (i:List Sl→Tr PyData) (ρ:List Sl) (xs:List PyData):Tr Ou:=(i ρ).bind (app2 k ρ xs)
theorem ev_app:aApp k i ρ=(ownAt k ρ).bind (app1 k i ρ):=own_eq k ρ
theorem ev_app1:app1 k i ρ xs=(i ρ).bind (app2 k ρ xs):=rfl
theorem ev_app2 (h:small (xs.length+1)=true):app2 k ρ xs x=.ret (.next (ρ.set k (.own (xs++[x])))):=by unfold app2; rw [if_pos h]
theorem ev_fz:aFz k s ρ=s (fz k ρ):=rfl
theorem fz_o:fz 0 (.own xs::ρ)=.d (.list xs)::ρ:=rfl
theorem fz_d:fz 0 (.d x::ρ)=.d x::ρ:=rfl
theorem fz_p:fz 0 (.pen::ρ)=.pen::ρ:=rfl
theorem fz_u:fz 0 (.un::ρ)=.un::ρ:=rfl
theorem fz_S:fz (k+1) (sl::ρ)=sl::fz k ρ:=by
  unfold fz
  rw [List.getElem?_cons_succ]
  cases h:ρ[k]? with
  | none=>rfl
  | some s=>cases s <;> rfl
noncomputable def nx1 (ρ:List Sl):Tr Ou:=.ret (.next ρ)
noncomputable def asg1 (g:PyData→List Sl→Option (List Sl)) (ρ:List Sl) (x:PyData):Tr Ou:=(Tr.of (g x ρ)).bind nx1
theorem ev_asg {g:PyData→List Sl→Option (List Sl)}:aAsg g i ρ=(i ρ).bind (asg1 g ρ):=rfl
theorem ev_asg1 {g:PyData→List Sl→Option (List Sl)}:asg1 g ρ x=(Tr.of (g x ρ)).bind nx1:=rfl
theorem ev_nx1:nx1 ρ=.ret (.next ρ):=rfl
theorem g_set:gSet k x ρ=some (ρ.set k (.d x)):=rfl
theorem g_tup {gs:List PyData→List Sl→Option (List Sl)}:gTupD gs (.tuple xs) ρ=gs xs ρ:=rfl
theorem g_nil:gsNil [] ρ=some ρ:=rfl
theorem g_cons {g:PyData→List Sl→Option (List Sl)} {gs:List PyData→List Sl→Option (List Sl)}:gsCons g gs (x::xs) ρ=(g x ρ).bind (gs xs):=rfl
theorem g_some {α β:Type} {a:α} {g:α→Option β}:(some a).bind g=g a:=rfl
noncomputable def par1 (k n:Nat) (ρ:List Sl):List PyData→Tr Ou
  | [x,y]=>.ret (.next ((ρ.set k (.d x)).set n (.d y)))
  | _=>.fail
theorem ev_par:aPar k n is ρ=(is ρ).bind (par1 k n ρ):=by
  unfold aPar
  refine congrArg (Tr.bind (is ρ)) (funext fun xs=>?_)
  match xs with
  | []=>rfl
  | [_]=>rfl
  | [_,_]=>rfl
  | _::_::_::_=>rfl
theorem ev_par1:par1 k n ρ [x,y]=.ret (.next ((ρ.set k (.d x)).set n (.d y))):=rfl
noncomputable def it1 (x:PyData):Tr (List PyData):=Tr.of (itD x)
theorem ev_it:aIt i ρ=(i ρ).bind it1:=rfl
theorem ev_it1L:it1 (.list xs)=.ret xs:=rfl
theorem ev_it1T:it1 (.tuple xs)=.ret xs:=rfl
noncomputable def rng1 (xs:List PyData):Tr (List PyData):=Tr.of (rngD1 xs)
noncomputable def rng2 (xs:List PyData):Tr (List PyData):=Tr.of (rngD2 xs)
theorem ev_rng1:aRng1 is ρ=(is ρ).bind rng1:=rfl
theorem ev_rng2:aRng2 is ρ=(is ρ).bind rng2:=rfl
theorem inR_of {n:Int} (h1:-1000000000000≤n) (h2:n≤1000000000000):inR n=true:=decide_eq_true (by omega)
theorem ev_rg1 {n:Int} (h:inR n=true):rng1 [.int n]=.ret (rngL 0 n):=by
  simp [rng1,rngD1,h]
theorem ev_rg2 {m n:Int} (h1:inR m=true) (h2:inR n=true):rng2 [.int m,.int n]=.ret (rngL m n):=by
  simp [rng2,rngD2,h1,h2]
noncomputable def zip3 (xs:List PyData) (ys:List PyData):Tr (List PyData):=.ret (zipD xs ys)
noncomputable def zip2 (y:PyData) (xs:List PyData):Tr (List PyData):=(it1 y).bind (zip3 xs)
noncomputable def zip1 (x y:PyData):Tr (List PyData):=(it1 x).bind (zip2 y)
noncomputable def zip0 (j:List Sl→Tr PyData) (ρ:List Sl) (x:PyData):Tr (List PyData):=(j ρ).bind (zip1 x)
theorem ev_zip:aZip i j ρ=(i ρ).bind (zip0 j ρ):=rfl
theorem ev_zip0:zip0 j ρ x=(j ρ).bind (zip1 x):=rfl
theorem ev_zip1:zip1 x y=(it1 x).bind (zip2 y):=rfl
theorem ev_zip2:zip2 y xs=(it1 y).bind (zip3 xs):=rfl
theorem ev_zip3:zip3 xs ys=.ret (zipD xs ys):=rfl
noncomputable def enu2 (xs:List PyData):Tr (List PyData):=.ret (enumD xs)
noncomputable def enu1 (x:PyData):Tr (List PyData):=(it1 x).bind enu2
theorem ev_enum:aEnum i ρ=(i ρ).bind enu1:=rfl
theorem ev_enu1:enu1 x=(it1 x).bind enu2:=rfl
theorem ev_enu2:enu2 xs=.ret (enumD xs):=rfl
noncomputable def for1 (g:PyData→List Sl→Option (List Sl)) (s:List Sl→Tr Ou) (ρ:List Sl) (xs:List PyData):Tr Ou:=forL g s xs ρ
theorem ev_for {g:PyData→List Sl→Option (List Sl)}:aFor is g s ρ=(is ρ).bind (for1 g s ρ):=rfl
theorem ev_for1 {g:PyData→List Sl→Option (List Sl)}:for1 g s ρ xs=forL g s xs ρ:=rfl
noncomputable def for3 (g:PyData→List Sl→Option (List Sl)) (s:List Sl→Tr Ou) (xs:List PyData):Ou→Tr Ou
  | .next ρ=>forL g s xs ρ
  | .cont ρ=>forL g s xs ρ
  | .brk ρ=>.ret (.next ρ)
  | .ret r=>.ret (.ret r)
noncomputable def for2 (g:PyData→List Sl→Option (List Sl)) (s:List Sl→Tr Ou) (xs:List PyData) (ρ:List Sl):Tr Ou:=(s ρ).bind (for3 g s xs)
theorem for_nil {g:PyData→List Sl→Option (List Sl)}:forL g s [] ρ=.ret (.next ρ):=rfl
theorem for_cons {g:PyData→List Sl→Option (List Sl)}:forL g s (x::xs) ρ=(Tr.of (g x ρ)).bind (for2 g s xs):=by
  rw [forL]
  refine congrArg (Tr.bind (Tr.of (g x ρ))) (funext fun ρ1=>?_)
  unfold for2
  refine congrArg (Tr.bind (s ρ1)) (funext fun o=>?_)
  cases o <;> rfl
theorem ev_for3n {g:PyData→List Sl→Option (List Sl)}:for3 g s xs (.next ρ)=forL g s xs ρ:=rfl
noncomputable def lc2 (g:PyData→List Sl→Option (List Sl)) (el:List Sl→Tr PyData) (τ:List Sl) (x:PyData):Tr PyData:=(Tr.of (g x τ)).bind el
noncomputable def lc1 (n:Nat) (ix:List Nat) (g:PyData→List Sl→Option (List Sl)) (el:List Sl→Tr PyData) (ρ:List Sl) (xs:List PyData):Tr (List PyData):=if small xs.length=true then mapT (lc2 g el (blk n ix ρ)) xs else .fail
theorem ev_lc {ix:List Nat} {g:PyData→List Sl→Option (List Sl)}:aLc is n ix g i ρ=(is ρ).bind (lc1 n ix g i ρ):=rfl
theorem ev_lc1 {ix:List Nat} {g:PyData→List Sl→Option (List Sl)} (h:small xs.length=true):lc1 n ix g i ρ xs=mapT (lc2 g i (blk n ix ρ)) xs:=by unfold lc1; rw [if_pos h]
theorem ev_lc2 {τ:List Sl} {g:PyData→List Sl→Option (List Sl)}:lc2 g i τ x=(Tr.of (g x τ)).bind i:=rfl
theorem mapT_all {h:PyData→Tr PyData} {n:Nat} {P:PyData→Prop}:∀ {xs:List PyData},(∀ x∈xs,(h x).all n P)→(mapT h xs).all (xs.length * n) fun ys=>ys.length=xs.length∧∀ y∈ys,P y
  | [],_=>⟨rfl,fun y hy=>by cases hy⟩
  | x::xs,hx=>by
    have e:(x::xs).length * n=n+(xs.length * n+0):=by rw [List.length_cons,Nat.succ_mul]; omega
    rw [e,mapT]
    refine Tr.all_bind (hx x (by simp)) fun y hy=>Tr.all_bind (mapT_all fun z hz=>hx z (List.mem_cons_of_mem _ hz)) fun ys hys=>?_
    exact ⟨by simp [hys.1],fun z hz=>by
      rcases List.mem_cons.mp hz with rfl | hz
      · exact hy
      · exact hys.2 z hz⟩
theorem draw_all {α:Type} {w:Int} {k:Int→Tr α} {n:Nat} {P:α→Prop} (h1:0 < w) (h2:w < 1073741824) (h:∀ r,0≤r→r < w→(k r).all n P):(Tr.draw w k).all (n+1) P:=⟨h1,h2,h⟩
end L2
namespace L2
open PySem PySem.Spec PyProof.Rows
noncomputable def mt2 (y:PyData) (ys:List PyData):Tr (List PyData):=.ret (y::ys)
noncomputable def mt1 (h:PyData→Tr PyData) (xs:List PyData) (y:PyData):Tr (List PyData):=(mapT h xs).bind (mt2 y)
theorem mt_nil {h:PyData→Tr PyData}:mapT h []=.ret []:=rfl
theorem mt_cons {h:PyData→Tr PyData} {x:PyData} {xs:List PyData}:mapT h (x::xs)=(h x).bind (mt1 h xs):=rfl
theorem mt_1 {h:PyData→Tr PyData} {y:PyData} {xs:List PyData}:mt1 h xs y=(mapT h xs).bind (mt2 y):=rfl
theorem mt_2 {y:PyData} {ys:List PyData}:mt2 y ys=.ret (y::ys):=rfl
theorem pick {α:Type} {xs:List α} {r:Int} (h0:0≤r) (h1:r < xs.length):∃ v,atI xs r=some v∧v∈xs:=by
  have h:r.toNat < xs.length:=by omega
  exact ⟨xs[r.toNat],atI_ge h0 (by simp [h]),List.getElem_mem h⟩
theorem list7 {α:Type} {xs:List α} (h:xs.length=7):∃ a b c d e f g,xs=[a,b,c,d,e,f,g]:=by
  rcases xs with _ | ⟨a,_ | ⟨b,_ | ⟨c,_ | ⟨d,_ | ⟨e,_ | ⟨f,_ | ⟨g,_ | ⟨k,xs⟩⟩⟩⟩⟩⟩⟩⟩
  · cases h
  · cases h
  · cases h
  · cases h
  · cases h
  · cases h
  · cases h
  · exact ⟨a,b,c,d,e,f,g,rfl⟩
  · exact absurd h (by simp)
end L2
namespace L2
open PySem
@[irreducible] noncomputable def Al {α:Type} (t:Tr α) (n:Nat) (P:α→Prop):Prop:=t.all n P
section
variable {α β:Type} {t:Tr α} {n n' N:Nat} {P:α→Prop} {P':β→Prop}
theorem Al.of (h:t.all n P):Al t n P:=by unfold Al; exact h
theorem Al.out (h:Al t n P):t.all n P:=by unfold Al at h; exact h
theorem al_ret {a:α} (h:P a):Al (.ret a) n P:=.of h
theorem al_drw {w:Int} {k:Int→Tr α} (h1:0 < w) (h2:w < 1073741824) (hN:n+1≤N) (h:∀ r,0≤r→r < w→Al (k r) n P):Al (.draw w k) N P:=.of (Tr.all_mono (draw_all h1 h2 fun r a b=>(h r a b).out) hN fun _ h=>h)
theorem al_bind {f:α→Tr β} (h:Al t n P) (hN:n+n'≤N) (hf:∀ a,P a→Al (f a) n' P'):Al (t.bind f) N P':=.of (Tr.all_mono (Tr.all_bind h.out fun a ha=>(hf a ha).out) hN fun _ h=>h)
theorem al_mono {Q:α→Prop} (h:Al t n P) (hN:n≤N) (hq:∀ a,P a→Q a):Al t N Q:=.of (Tr.all_mono h.out hN hq)
theorem al_map {h:PyData→Tr PyData} {P:PyData→Prop} {xs:List PyData} {Q:List PyData→Prop} (hN:xs.length * n≤N) (hx:∀ x∈xs,Al (h x) n P) (hq:∀ ys,ys.length=xs.length→(∀ y∈ys,P y)→Q ys):Al (mapT h xs) N Q :=
  .of (Tr.all_mono (mapT_all fun x m=>(hx x m).out) hN fun ys ⟨a,b⟩=>hq ys a b)
end
noncomputable def intIn (lo hi:Int) (x:PyData):Prop:=∃ z:Int,x=.int z∧lo≤z∧z≤hi
theorem ints_of_all {lo hi:Int}:∀ {xs:List PyData},(∀ x∈xs,intIn lo hi x)→∃ ns:List Int,xs=ns.map PyData.int∧∀ n∈ns,lo≤n∧n≤hi
  | [],_=>⟨[],rfl,fun n hn=>by cases hn⟩
  | x::xs,h=>by
    obtain ⟨ns,e,hn⟩:=ints_of_all (xs:=xs) fun y hy=>h y (List.mem_cons_of_mem _ hy)
    obtain ⟨z,rfl,h1,h2⟩:=h x (by simp)
    exact ⟨z::ns,by rw [e]; rfl,fun n hn'=>by
      rcases List.mem_cons.mp hn' with rfl | hn'
      · exact ⟨h1,h2⟩
      · exact hn n hn'⟩
theorem rngL_len {lo hi:Int}:(rngL lo hi).length=(hi - lo).toNat:=by unfold rngL; rw [List.length_map,rangeI_length]
theorem pickI {xs:List PyData} {lo hi r:Int} (h:∀ x∈xs,intIn lo hi x) (h0:0≤r) (h1:r < xs.length):∃ z:Int,atI xs r=some (.int z)∧lo≤z∧z≤hi:=by
  obtain ⟨v,e,m⟩:=pick h0 h1
  obtain ⟨z,rfl,a,b⟩:=h v m
  exact ⟨z,e,a,b⟩
end L2
set_option Elab.async false
set_option linter.all false
set_option maxRecDepth 100000
namespace L2
open PySem PySem.Spec PyProof.Rows
variable {PK:Pk} {X:Cx} {a b c e:Expr} {es:List Expr} {pos:Pos} {i j l:List Sl→Tr PyData} {is:List Sl→Tr (List PyData)} {p q:List Sl→Tr Bool} {st:Stmt}
noncomputable def flatD:PyData→Bool
  | .none=>true
  | .bool _=>true
  | .int _=>true
  | .str _=>true
  | _=>false
end L2
set_option Elab.async false
set_option linter.all false
set_option maxRecDepth 100000
namespace L2
open PySem PySem.Spec PyProof.Rows
variable {PK:Pk} {X:Cx} {a b c e:Expr} {es:List Expr} {pos:Pos} {i j l:List Sl→Tr PyData} {as:List Sl→Tr (List Sl)}
structure PkLow (PK:Pk):Prop where
  low:∀ {o o':HO} {G G':Hp} {m m':Nat},PK.is o G m→Sub G G'→PK.is o' G' m'→PK.is o' G m'
inductive ArB (pa:Addr) (G H:Hp):V→Sl→Prop
  | ok {v:V} {s:Sl}:ArOk pa G v s→ArB pa G H v s
  | own {p:Addr} {vs:List V} {xs:List PyData}:H p=some (.lst vs)→G p=none→pa≠p→DnAll G vs xs→ArB pa G H (.ref p) (.d (.list xs))
inductive ArsB (pa:Addr) (G H:Hp):List V→List Sl→Prop
  | nil:ArsB pa G H [] []
  | cons {v:V} {vs:List V} {s:Sl} {ss:List Sl}:ArB pa G H v s→ArsB pa G H vs ss→ArsB pa G H (v::vs) (s::ss)
theorem ArB.step {pa:Addr} {G H G' H':Hp} {v:V} {s:Sl} (h:ArB pa G H v s) (st:Stp pa G H G' H'):ArB pa G' H' v s:=by
  cases h with
  | ok h=>exact .ok (h.mono st.gs)
  | @own p vs xs h1 h2 h3 h4 =>
    refine .own (st.hk _ _ h1 (Ne.symm h3)) ?_ h3 (DnAll.mono st.gs h4)
    cases e:G' p with
    | none=>rfl
    | some u =>
      rcases st.gn p u e with z | z
      · rw [h2] at z; cases z
      · rw [h1] at z; cases z
theorem ArsB.ok {pa:Addr} {m:Nat} {G H:Hp}:∀ {vs:List V} {ss:List Sl} {G1:Hp},Sub G G1→Wd PK pa m G1 H→ArsB pa G H vs ss→∃ G2,Sub G1 G2∧Wd PK pa m G2 H∧ArsOk pa G2 vs ss
  | _,_,G1,_,w,.nil=>⟨G1,fun _ _ h=>h,w,.nil⟩
  | _,_,G1,sb,w,.cons h t=>by
    obtain ⟨G2,s2,w2,t2⟩:=ArsB.ok sb w t
    cases h with
    | ok h=>exact ⟨G2,s2,w2,.cons (h.mono (sb.trans s2)) t2⟩
    | @own p vs xs h1 h2 h3 h4 =>
      cases e:G2 p with
      | none =>
        have s3:Sub G2 (upd G2 p (.lst vs)):=Sub.new e
        exact ⟨upd G2 p (.lst vs),s2.trans s3,w2.freeze h1 e h3,.cons (.d (.lst upd_same (DnAll.mono ((sb.trans s2).trans s3) h4))) (ArsOk.mono s3 t2)⟩
      | some u =>
        have:=w2.sub p u e
        rw [h1] at this
        cases this
        exact ⟨G2,s2,w2,.cons (.d (.lst e (DnAll.mono (sb.trans s2) h4))) t2⟩
noncomputable def TAb (PK:Pk) (i:List Sl→Tr (List Sl)):TA:=fun σ H Q=>∃ pa G₀ H₀ m ρ G,Rl PK pa G₀ H₀ m σ ρ G H∧(i ρ).ok m fun m' as=>∀ vs G' H',Stp pa G H G' H'→Wd PK pa m' G' H'→ArsB pa G' H' vs as→Q vs H'
theorem TAb.then {σ:St} {H:Hp} {β:Type} {k:List Sl→Tr β} {Z:Nat→β→Prop} {Q:List V→Hp→Prop} {pa:Addr} {G₀ H₀ G:Hp} {m:Nat} {ρ:List Sl} (R:Rl PK pa G₀ H₀ m σ ρ G H) (h:((as ρ).bind k).ok m Z)
    (hq:∀ m1 xs vs G1 H1,Stp pa G H G1 H1→Wd PK pa m1 G1 H1→Rl PK pa G₀ H₀ m1 σ ρ G1 H1→ArsB pa G1 H1 vs xs→(k xs).ok m1 Z→Q vs H1):TAb PK as σ H Q:=by
  refine ⟨pa,G₀,H₀,m,ρ,G,R,Tr.ok_mono (Tr.ok_bind.mp h) fun m1 x hx v G1 H1 s1 w1 d1=>?_⟩
  exact hq m1 x v G1 H1 s1 w1 (R.step s1 w1) d1 hx
theorem ab_nil:PA X [] (TAb PK aaNil):=pa_nil.imp fun σ H Q hz0=>by
  obtain ⟨pa,G₀,H₀,m,ρ,G,R,z⟩:=hz0
  exact z [] G H .refl R.wd .nil
noncomputable def aaLend (k:Nat) (as:List Sl→Tr (List Sl)):List Sl→Tr (List Sl):=fun ρ=>match ρ[k]? with
  | some (.own xs)=>(as ρ).bind fun ys=>.ret (.d (.list xs)::ys)
  | some (.d x)=>(as ρ).bind fun ys=>.ret (.d x::ys)
  | _=>.fail
theorem ab_lend {k:Nat} (ha:PE X e (tVar k)) (hr:PA X es (TAb PK as)) (hs:starEach (e::es) X.env=(false,eval e X.env)::starEach es X.env:=by rfl):PA X (e::es) (TAb PK (aaLend k as)):=(pa_cons ha hr hs).imp fun σ H Q hz0=>by
  obtain ⟨pa,G₀,H₀,m,ρ,G,R,z⟩:=hz0
  unfold aaLend at z
  split at z
  · rename_i xs hk
    obtain ⟨o,h1,h2⟩:=R.sl k _ hk
    cases h2 with
    | @own p vs _ a1 a2 a3 a4 =>
      have hne:pa≠p:=fun e=>by
        obtain ⟨u,hu⟩:=R.p0
        rw [e,a3] at hu; cases hu
      refine ⟨_,h1,?_⟩
      refine TAb.then R z fun m2 ys ws G2 H2 s2 w2 R2 d2 q2=>?_
      exact q2 _ _ _ s2 w2 (.cons ((ArB.own a1 a2 hne a4).step s2) d2)
  · rename_i x hk
    obtain ⟨o,h1,h2⟩:=R.sl k _ hk
    cases h2 with
    | d d1 =>
      refine ⟨_,h1,?_⟩
      refine TAb.then R z fun m2 ys ws G2 H2 s2 w2 R2 d2 q2=>?_
      exact q2 _ _ _ s2 w2 (.cons (.ok (.d (d1.mono s2.gs))) d2)
  · exact z.elim
theorem Dn.flat_any {G G':Hp} {v:V} {x:PyData} (h:Dn G v x) (f:flatD x=true):Dn G' v x:=by
  cases h with
  | non=>exact .non
  | bl b=>exact .bl b
  | int i=>exact .int i
  | str s=>exact .str s
  | _=>cases f
variable {ρ:List Sl} {k:Nat} {xs:List PyData} {x:PyData} {sl:Sl} {f:List Sl→Tr Re}
noncomputable def lendAt:Nat→List Sl→Tr PyData
  | 0,.own xs::_=>.ret (.list xs)
  | 0,.d x::_=>.ret x
  | k+1,_::ρ=>lendAt k ρ
  | _,_=>.fail
theorem ev_len0o:lendAt 0 (.own xs::ρ)=.ret (.list xs):=rfl
theorem ev_len0d:lendAt 0 (.d x::ρ)=.ret x:=rfl
theorem ev_lenS:lendAt (k+1) (sl::ρ)=lendAt k ρ:=rfl
theorem ev_lend:aaLend k as ρ=(lendAt k ρ).bind (aa1 as ρ):=by
  have key:∀ (k:Nat) (σ:List Sl) (as:List Sl→Tr (List Sl)) (ρ:List Sl),(match σ[k]? with | some (.own xs)=>(as ρ).bind fun ys=>Tr.ret (Sl.d (.list xs)::ys) | some (.d x)=>(as ρ).bind fun ys=>Tr.ret (Sl.d x::ys) | _=>Tr.fail)=(lendAt k σ).bind (aa1 as ρ):=by
    intro k
    induction k with
    | zero =>
      intro σ as ρ
      cases σ with
      | nil=>rfl
      | cons s r=>cases s <;> rfl
    | succ k ih =>
      intro σ as ρ
      cases σ with
      | nil=>rfl
      | cons s r=>exact ih r as ρ
  exact key k ρ as ρ
end L2
set_option Elab.async false
set_option linter.all false
set_option maxRecDepth 100000
namespace L2
open PySem PySem.Spec PyProof.Rows
section
variable {X:Cx} {pins:List (Addr×Obj)} {σ:St} {H:Hp} {s:Shared}
end
section
variable {PK:Pk} {X:Cx} {e:Expr} {st:Stmt} {i:List Sl→Tr PyData} {is:List Sl→Tr (List PyData)} {p:List Sl→Tr Bool}
end
end L2
set_option Elab.async false
set_option linter.all false
set_option maxRecDepth 100000
namespace L2
open PySem PySem.Spec PyProof.Rows
section
variable {X:Cx}
section
variable {ρ:List Sl} {is:List Sl→Tr (List PyData)} {n:Nat} {i:List Sl→Tr PyData} {p:List Sl→Tr Bool} {xs:List PyData} {x:PyData}
end
end
end L2
set_option Elab.async false
set_option linter.all false
set_option maxRecDepth 100000
namespace L2
open PySem PySem.Spec PyProof.Rows
section
variable {PK:Pk} {X:Cx} {e:Expr} {as:List Sl→Tr (List Sl)}
noncomputable def slD:List Sl→Option (List PyData)
  | []=>some []
  | .d x::r=>(slD r).bind fun xs=>some (x::xs)
  | _=>none
theorem ArsOk.slD {pa:Addr} {G:Hp} {vs:List V} {ss:List Sl} {ds:List PyData} (a:ArsOk pa G vs ss) (h:L2.slD ss=some ds):DnAll G vs ds:=by
  induction a generalizing ds with
  | nil=>cases h; exact .nil
  | cons h0 t ih =>
    cases h0 with
    | d h1 =>
      unfold L2.slD at h
      cases e:L2.slD _ with
      | none=>rw [e] at h; cases h
      | some xs =>
        rw [e] at h
        cases h
        exact .cons h1 (ih e)
    | pen=>cases h
noncomputable def fl1 (d:PyData):Tr PyData:=if flatD d=true then .ret d else .fail
noncomputable def aCBF (f:List PyData→Option PyData) (as:List Sl→Tr (List Sl)):List Sl→Tr PyData:=fun ρ=>(as ρ).bind fun ss=>(Tr.of ((slD ss).bind f)).bind fl1
theorem ae_cbF {r:List V→Hp→VK→Prop} {f:List PyData→Option PyData} (L:PkLow PK) (h:PE X e (tCB r (TAb PK as))) (hv:VCl r f):PE X e (TAe PK (aCBF f as)):=h.imp fun σ H Q hz0=>by
  obtain ⟨pa,G₀,H₀,m,ρ,G,R,z⟩:=hz0
  refine TAb.then R z fun m1 ss vs G1 H1 s1 w1 R1 d1 q1=>?_
  obtain ⟨d,hd,q1⟩:=Tr.ok_of (Tr.ok_bind.mp q1)
  obtain ⟨G2,s2,w2,d2⟩:=ArsB.ok (fun _ _ h=>h) w1 d1
  cases e:slD ss with
  | none=>rw [e] at hd; cases hd
  | some ds =>
    rw [e] at hd
    unfold fl1 at q1
    obtain ⟨hf,k⟩:=ok_if (c:=flatD d) q1
    refine hv PK pa m1 G2 H1 vs ds d Q w2 (ArsOk.slD d2 e) hd ?_
    intro v G3 H3 s3 w3 d3
    have s13:Stp pa G1 H1 G1 H3:=⟨fun _ _ h=>h,fun _ _ h=>.inl h,s3.hk⟩
    obtain ⟨o1,e1,p1⟩:=w1.pen
    obtain ⟨o3,e3,p3⟩:=w3.pen
    have w13:Wd PK pa m1 G1 H3:=⟨fun b o h=>s3.hk b o (w1.sub b o h) (fun z=>by subst z; rw [w1.gpa] at h; cases h),w1.gpa,o3,e3,L.low p1 (s2.trans s3.gs) p3⟩
    exact k v G1 H3 (s1.trans s13 w1.some) w13 (Dn.flat_any d3 hf)
end
section
variable {ρ:List Sl} {as:List Sl→Tr (List Sl)} {f:List PyData→Option PyData} {x:PyData} {xs:List PyData} {i j:List Sl→Tr PyData} {k:Nat} {p:List Sl→Tr Bool} {s:List Sl→Tr Ou}
noncomputable def cbf2 (f:List PyData→Option PyData) (ss:List Sl):Tr PyData:=(Tr.of ((slD ss).bind f)).bind fl1
theorem ev_cbF:aCBF f as ρ=(as ρ).bind (cbf2 f):=rfl
theorem ev_cbf1:cbf2 f [.d x]=(cb1 f [x]).bind fl1:=rfl
theorem ev_fl1I (n:Int):fl1 (.int n)=.ret (.int n):=rfl
noncomputable def six3 (k:Nat) (ρ:List Sl) (x:PyData) (xs:List PyData):PyData→Tr Ou
  | .int y=>(Tr.of (ixN xs.length y)).bind fun t=>.ret (.next (ρ.set k (.own (xs.set t x))))
  | _=>.fail
noncomputable def six2 (k:Nat) (n:List Sl→Tr PyData) (ρ:List Sl) (x:PyData) (xs:List PyData):Tr Ou:=(n ρ).bind (six3 k ρ x xs)
noncomputable def six1 (k:Nat) (n:List Sl→Tr PyData) (ρ:List Sl) (x:PyData):Tr Ou:=(ownAt k ρ).bind (six2 k n ρ x)
theorem ev_six:aSetIx k j i ρ=(i ρ).bind (six1 k j ρ):=by
  unfold aSetIx
  refine congrArg (Tr.bind (i ρ)) (funext fun x=>?_)
  rw [six1,← own_eq k ρ]
  cases ρ[k]? with
  | none=>rfl
  | some sl =>
    cases sl with
    | own xs =>
      show ((j ρ).bind _:Tr Ou)=(j ρ).bind (six3 k ρ x xs)
      refine congrArg (Tr.bind (j ρ)) (funext fun y=>?_)
      cases y <;> rfl
    | _=>rfl
theorem ev_six1 {n:List Sl→Tr PyData}:six1 k n ρ x=(ownAt k ρ).bind (six2 k n ρ x):=rfl
theorem ev_six2 {n:List Sl→Tr PyData}:six2 k n ρ x xs=(n ρ).bind (six3 k ρ x xs):=rfl
theorem ev_six3 {y:Int} {t:Nat} (h:ixN xs.length y=some t):six3 k ρ x xs (.int y)=.ret (.next (ρ.set k (.own (xs.set t x)))):=by
  simp only [six3,h]
  rfl
end
end L2
set_option Elab.async false
set_option linter.all false
set_option maxRecDepth 100000
namespace L2
open PySem PySem.Spec PyProof.Rows
open AutoSeq1 (wpAny_loadPart')
noncomputable def Itd (hi:Int) (n:Nat):It:=⟨fun i _=>i < n,fun i H x H'=>H'=H∧x=.int (hi - i),fun i _=>n≤i⟩
theorem turn_ranged {P:Program} {w:World} {K:PySem.W.Frag} {tg:Expr} (it:Addr) (hi:Int) (n:Nat):Turn P w K tg (Itd hi n) [it] it (fun i h=>IsRangeIter h it (hi+(i:Nat) * (-1)) ((n:Int) - (i:Nat)) (-1)) where
  mem:=by simp
  obj:=fun i h st b hb=>by
    have e:b=it:=by simpa using hb
    subst e
    exact ⟨_,st,fun v z=>by
      have z':Data.fields _=Data.cell v:=z
      cases z'⟩
  keep:=fun i h h' st k=>k it (by simp) _ st
  item:=by
    intro X hP hw hK hc i pins s σ H E I hf st hg
    subst hP hw hK
    obtain ⟨f0,f1,f2,f3,f4,f5⟩:=hf it (by simp)
    have W:=Walks.range (prog:=X.prog) (w:=X.w) (I.ok.hd hc) it hi (-1) n
    refine W.item i s _ _ hg st fun v h' tk hv st' kk=>?_
    obtain ⟨t,rfl⟩:=hv
    have I1:Inv X pins σ H { s with heap:=h',toks:=tk }:=I.turned (fun b o hb e=>kk b o (by simpa using hb) e) f0 f1 f3 f4 f5
    refine ⟨_,rfl,go_of (s:={ s with heap:=h',toks:=tk }) (n:="range_iterator") st' rfl rfl (by decide) ⟨.int (hi - i),H,I1,⟨t,?_⟩,⟨rfl,rfl⟩,st',fun b hb=>(hf b hb).1⟩⟩
    have e:hi+(i:Int) * -1=hi - i:=by omega
    rw [e]
  done:=by
    intro X hP hw hK hc i pins s σ H E I hf st hg
    subst hP hw hK
    obtain ⟨f0,f1,f2,f3,f4,f5⟩:=hf it (by simp)
    exact wpAny_pyNext_range_end (I.ok.hd hc) st (by have:n≤i:=hg; omega) fun h' eb=>⟨rfl,I.turned (t':=s.toks) (fun b o hb e=>eb b o hb e) f0 f1 f3 f4 f5⟩
  self:=fun _ _ _ _ _ st h=>wpAny_pyIter_rangeiter st h

theorem meets_rrev (r:Addr) (a b c:Int) (t u v:Tok) (hs:¬ (!(Builtin.Range.rangeFitsLong a && Builtin.Range.rangeFitsLong b && Builtin.Range.rangeFitsLong c && Builtin.Range.rangeFitsLong (-c) && Builtin.Range.rangeFitsLong (a - c) && Builtin.Range.rangeFitsLong (Builtin.Range.rangeSize a b c)))=true) :
    Meets (Builtin.«range.__reversed__» ⟨[.ref r],[]⟩) (fun _ R s=>s.heap.get? r=some { cls:=.type "range",dict:=none,data:=.fields #[.int a t,.int b u,.int c v],slots:=#[] } ∧
      R (.ok (.ret (.ref s.heap.objs.size))) { s with heap:=s.heap.push { cls:=.type "range_iterator",data:=.fields #[rawInt (a+(Builtin.Range.rangeSize a b c - 1) * c),rawInt (Builtin.Range.rangeSize a b c),rawInt (-c)] },toks:=s.toks }) :=
  .of_wp fun prog w A R s h=>by
    obtain ⟨hp,g,d,tk,os⟩:=s
    obtain ⟨hl,h⟩:=h
    have hs':=hs
    rw [Bool.not_eq_true',Bool.not_eq_false] at hs'
    wp_walk
    rw [if_pos hs']
    exact ⟨_,rfl,h⟩
theorem fitsLong_of {n:Int} (h1:-(2 ^ 63)≤n) (h2:n < 2 ^ 63):Builtin.Range.rangeFitsLong n=true:=by
  unfold Builtin.Range.rangeFitsLong
  simp
  omega
section
variable {prog:Program} {w:World} {A:Around} {E:Value→Shared→Prop} {s:Shared}
theorem code_rrev {r:Addr} {a b:Int} {t u v:Tok} {Q₁:Value→Shared→Prop} (hr:IsRange s.heap r a b 1 t u v) (ha:-(2 ^ 62)≤a) (ha':a < 2 ^ 62) (hb:-(2 ^ 62)≤b) (hb':b < 2 ^ 62)
    (h:Q₁ (.ref s.heap.objs.size) { s with heap:=s.heap.push { cls:=.type "range_iterator",data:=.fields #[rawInt (a+(Builtin.Range.rangeSize a b 1 - 1) * 1),rawInt (Builtin.Range.rangeSize a b 1),rawInt (-1)] } }) :
    codeAny (model prog w) A (.call (.builtin "reversed.__new__") ⟨[.type "reversed",.ref r],[]⟩) (wants Q₁ E) s:=by
  have hT:s.TypeIs (.ref r) "range":=⟨_,hr,rfl⟩
  refine codeAny_of_tree ?_
  show wpAny _ A.in1 (do checkBuiltinCall "reversed.__new__" ⟨[.type "reversed",.ref r],[]⟩; again (.builtin "reversed.__new__" ⟨[.type "reversed",.ref r],[]⟩)) _ _ s
  refine wpAny_bind (wpAny_of_eq (F.newCall_reversed_1 _) (wpAny_pure ⟨plainId_quiet F.plain_reversed_new _,codeAny_builtin F.entry_reversed_new ?_⟩))
  rw [Around.under_plainId F.plain_reversed_new _]
  unfold Builtin.«reversed.__new__»
  refine wpAny_bind (wpAny_of_eq (newClass_reversed _) ?_)
  try dsimp only
  refine wpAny_bind (wpAny_of_eq (a:=()) (by first | rfl | kernel_rfl) ?_)
  refine wpAny_bind (wpAny_of_eq (a:=()) (by first | rfl | kernel_rfl) ?_)
  try dsimp only
  refine wpAny_bind (wpAny_specialOf hT F.slot_range_reversed.lookup ?_)
  try dsimp only
  refine wpAny_bind (wpAny_of_eq (F.slot_range_reversed.bind _) ?_)
  try dsimp only
  first
  | rw [if_neg (show ¬ ((Value.builtin "range.__reversed__" == Value.none)=true) from Bool.false_ne_true)]
  | (show wpAny _ _ (if (Value.builtin "range.__reversed__" == Value.none)=true then _ else _) _ _ _; rw [if_neg (show ¬ ((Value.builtin "range.__reversed__" == Value.none)=true) from Bool.false_ne_true)])
  refine wpAny_bind (wpAny_rule ?_)
  have hsz:Builtin.Range.rangeSize a b 1=if a < b then b - a else 0:=rangeSize_one a b
  refine wpAny_bind (m:=runValue (.call (.builtin "range.__reversed__") ⟨[.ref r],[]⟩)) (show wpAny _ _ (call (.builtin "range.__reversed__") [.ref r]) _ _ _ from
    call_meets F.slot_range_reversed hT F.entry_range_reversed (F.args_range_reversed_1 _) (meets_rrev r a b 1 t u v ?_) ⟨hr,?_⟩)
  · rw [Bool.not_eq_true',Bool.not_eq_false,fitsLong_of (by omega) (by omega),fitsLong_of (by omega) (by omega),fitsLong_of (by decide) (by decide),fitsLong_of (by decide) (by decide),fitsLong_of (n:=a - 1) (by omega) (by omega),fitsLong_of (n:=Builtin.Range.rangeSize a b 1) (by rw [hsz]; split <;> omega) (by rw [hsz]; split <;> omega)]
    rfl
  · first
    | exact wpAny_pure h
    | exact wpAny_bind (wpAny_pure (wpAny_pure h))
theorem sub_ri_reversed:isSubtype (.type "range_iterator") (.type "reversed")=pure false:=by rw [isSubtype_type]; kernel_rfl
theorem call_rrev {r:Addr} {a b:Int} {t u v:Tok} {Q:Value→Shared→Prop} (hr:IsRange s.heap r a b 1 t u v) (ha:-(2 ^ 62)≤a) (ha':a < 2 ^ 62) (hb:-(2 ^ 62)≤b) (hb':b < 2 ^ 62)
    (h:Q (.ref s.heap.objs.size) { s with heap:=s.heap.push { cls:=.type "range_iterator",data:=.fields #[rawInt (a+(Builtin.Range.rangeSize a b 1 - 1) * 1),rawInt (Builtin.Range.rangeSize a b 1),rawInt (-1)] } }):wpAny (model prog w) A (call (.type "reversed") [.ref r]) Q E s:=by
  refine callType_other (U:="range_iterator") (Q₁:=fun obj s₁=>obj=.ref s.heap.objs.size∧s₁={ s with heap:=s.heap.push { cls:=.type "range_iterator",data:=.fields #[rawInt (a+(Builtin.Range.rangeSize a b 1 - 1) * 1),rawInt (Builtin.Range.rangeSize a b 1),rawInt (-1)] } }) (by decide +kernel) F.create_reversed ⟨_,_,F.mro_reversed⟩ F.made_reversed sub_ri_reversed (F.typeCall_reversed_1 _) (code_rrev hr ha ha' hb hb' ⟨rfl,rfl⟩) ?_
  rintro obj s₁ ⟨rfl,rfl⟩
  exact ⟨⟨_,Heap.get?_push_size _ rfl,rfl⟩,h⟩
end
theorem owner_rev:Manifest.owners.lookup (String.ofList ['d','e','s','r','e','v','e','r'].reverse)=some Manifest.sig_reversed:=by kernel_rfl
theorem slot_rev_init:Slot "reversed" "__init__" "object.__init__" :=
  .of (owner:="object") (n:="__init__") (by rw [typeLookup_type,builtinLookup_eq_fast]; kernel_rfl) (by decide +kernel) (by decide +kernel) (by decide +kernel)
    (by first | exact .inl (by decide +kernel) | exact .inr (by decide +kernel)) (by rw [isSubtype_type]; kernel_rfl)
theorem slot_rev_next:Slot "reversed" "__next__" "reversed.__next__" :=
  .of (owner:="reversed") (n:="__next__") (by rw [typeLookup_type,builtinLookup_eq_fast]; kernel_rfl) (by decide +kernel) (by decide +kernel) (by decide +kernel)
    (by first | exact .inl (by decide +kernel) | exact .inr (by decide +kernel)) (by rw [isSubtype_type]; kernel_rfl)
theorem entry_rev_next:entryFor table "reversed.__next__"=some Builtin.«reversed.__next__»:=entryFor_of_tree (by kernel_rfl)
theorem args_rev_next_1 (a:Value):argsOk "reversed.__next__" ⟨[a],[]⟩:=by
  unfold argsOk; rw [signature?_of (id:="reversed.__next__") (n:=['_','_','t','x','e','n','_','_']) (o:=['d','e','s','r','e','v','e','r']) (by kernel_rfl) owner_rev]; kernel_rfl
theorem slot_rev_iter:Slot "reversed" "__iter__" "reversed.__iter__" :=
  .of (owner:="reversed") (n:="__iter__") (by rw [typeLookup_type,builtinLookup_eq_fast]; kernel_rfl) (by decide +kernel) (by decide +kernel) (by decide +kernel)
    (by first | exact .inl (by decide +kernel) | exact .inr (by decide +kernel)) (by rw [isSubtype_type]; kernel_rfl)
theorem args_rev_iter_1 (a:Value):argsOk "reversed.__iter__" ⟨[a],[]⟩:=by
  unfold argsOk; rw [signature?_of (id:="reversed.__iter__") (n:=['_','_','r','e','t','i','_','_']) (o:=['d','e','s','r','e','v','e','r']) (by kernel_rfl) owner_rev]; kernel_rfl
theorem entry_rev_iter:entryFor table "reversed.__iter__"=some Builtin.«dict_keyiterator.__iter__» :=
  entryFor_alias (id':="dict_keyiterator.__iter__") (by kernel_rfl) (by first | rfl | decide +kernel | (unfold String.splitOn; simp +decide [String.splitOnAux])) (by decide +kernel) (by kernel_rfl)
theorem called_rev:TypeCalled "reversed" "reversed.__new__" "object.__init__" :=
  ⟨by decide +kernel,by decide +kernel,⟨_,_,F.mro_reversed⟩,F.made_reversed,by decide +kernel,by rw [isSubtype_type]; kernel_rfl,slot_rev_init⟩
theorem notup_reversed:typeLookup (.type "tuple") "__reversed__"=pure none:=by rw [typeLookup_type,builtinLookup_eq_fast]; kernel_rfl
theorem meets_trev (l:Addr) (items:Array Value) (hfit:(items.size:Int) < 2 ^ 63) :
    Meets (Builtin.«reversed.__new__» ⟨[.type "reversed",.ref l],[]⟩) (fun _ R s=>IsTup s.heap l items ∧
      R (.ok (.ret (.ref s.heap.objs.size))) { s with heap:=s.heap.push { cls:=.type "reversed",data:=.fields #[.ref l,rawInt ((items.size:Int) - 1)] },toks:=s.toks+1+1 }) :=
  .of_wp fun prog w A R s h=>by
    obtain ⟨hp,g,d,tk,os⟩:=s
    obtain ⟨hl,h⟩:=h
    have hl':(Shared.mk hp g d tk os).heap.IsTuple l items:=hl
    unfold Builtin.«reversed.__new__»
    refine wpAny_bind (wpAny_of_eq (newClass_reversed _) ?_)
    try dsimp only
    refine wpAny_bind (wpAny_of_eq (a:=()) (by first | rfl | kernel_rfl) ?_)
    refine wpAny_bind (wpAny_of_eq (a:=()) (by first | rfl | kernel_rfl) ?_)
    try dsimp only
    refine wpAny_bind (wpAny_specialOf hl'.typeIs notup_reversed ?_)
    try dsimp only
    refine wpAny_bind ?_
    show wpAny _ _ (isInstance (Value.ref l) (.type "dict") >>= _) _ _ _
    refine wpAny_bind (wpAny_isInstance (T:="tuple") (b:=false) hl'.typeIs (by rw [isSubtype_type]; kernel_rfl) ?_)
    show wpAny _ _ (specialOf (Value.ref l) "__getitem__" >>= _) _ _ _
    refine wpAny_bind (wpAny_specialOf hl'.typeIs F.slot_tuple_getitem.lookup ?_)
    refine wpAny_pure ?_
    show wpAny _ _ (call (Value.builtin "len") [Value.ref l] >>= _) _ _ _
    refine wpAny_bind (len_tuple hl hfit ?_)
    refine wpAny_bind (wpAny_of_eq (a:=some (items.size:Int)) rfl ?_)
    show wpAny _ _ (newObj (.type "reversed") (.fields #[.ref l,rawInt ((items.size:Int) - 1)]) >>= _) _ _ _
    refine wpAny_bind (wpAny_newObj_type ?_)
    exact wpAny_pure ⟨_,rfl,h⟩
noncomputable def IsTRev (h:Heap) (a l:Addr) (i:Int):Prop:=∃ o,h.get? a=some o∧o.cls=.type "reversed"∧o.data=.fields #[.ref l,rawInt i]
theorem IsTRev.at {h h':Heap} {a l:Addr} {i:Int} (x:IsTRev h a l i) (e:∀ o,h.get? a=some o→h'.get? a=some o):IsTRev h' a l i:=let ⟨o,ho,r⟩:=x; ⟨o,e _ ho,r⟩
section
variable {prog:Program} {w:World} {A:Around} {E:Value→Shared→Prop} {s:Shared}
theorem call_trev {l:Addr} {items:Array Value} {Q:Value→Shared→Prop} (hl:IsTup s.heap l items) (hfit:(items.size:Int) < 2 ^ 63)
    (h:Q (.ref s.heap.objs.size) { s with heap:=s.heap.push { cls:=.type "reversed",data:=.fields #[.ref l,rawInt ((items.size:Int) - 1)] },toks:=s.toks+1+1 }) :
    wpAny (model prog w) A (call (.type "reversed") [.ref l]) Q E s :=
  callType_new called_rev (by decide) (F.typeCall_reversed_1 _) (F.newCall_reversed_1 _) (fun obj=>F.args_object_init_2 obj _) F.entry_reversed_new (meets_trev l items hfit) ⟨hl,⟨_,Heap.get?_push_size _ rfl,rfl⟩,h⟩
theorem pyNext_trev_item {it l:Addr} {i:Nat} {items:Array Value} {x:Value} {Q:Option Value→Shared→Prop} (hit:IsTRev s.heap it l (i:Int)) (hl:IsTup s.heap l items) (hne:l≠it) (hx:items[i]?=some x) (hfit:(items.size:Int) < 2 ^ 63)
    (hQ:∀ h',IsTRev h' it l ((i:Int) - 1)→Heap.SameBut it s.heap h'→Q (some x) { s with heap:=h',toks:=s.toks+1 }):wpAny (model prog w) A (pyNext (.ref it)) Q E s:=by
  obtain ⟨o,ho,hc,hd⟩:=id hit
  have hT:s.TypeIs (.ref it) "reversed":=⟨o,ho,hc⟩
  have hl':s.heap.IsTuple l items:=hl
  have hlt:i < items.size:=(Array.getElem?_eq_some_iff.mp hx).1
  unfold pyNext
  refine wpAny_bind (wpAny_attempt (wpAny_callSpecial?_slot (name:=Str.ofString "__next__") hT slot_rev_next
    (wpAny_call_entry slot_rev_next hT entry_rev_next ?_ (args_rev_next_1 _))))
  unfold Builtin.«reversed.__next__»
  refine wpAny_bind (wpAny_of_eq (a:=(Value.ref it,[])) rfl ?_)
  try dsimp only
  refine wpAny_bind (wpAny_field ho hd (x:=.ref l) rfl ?_)
  refine wpAny_bind (wpAny_field ho hd (x:=rawInt (i:Int)) rfl ?_)
  show wpAny _ _ (if (i:Int) < 0 then _ else _) _ _ s
  rw [if_neg (by omega)]
  refine wpAny_bind (wpAny_specialOf hl'.typeIs F.slot_tuple_getitem.lookup ?_)
  show wpAny _ _ (mkInt (i:Int) >>= _) _ _ s
  refine wpAny_bind (wpAny_mkInt ?_)
  refine wpAny_bind (wpAny_attempt (getItem_tuple (j:=i) (x:=x) hl (by omega) (by omega) ?_ hx ?_))
  · unfold seqIndex?
    simp
    omega
  · dsimp only
    refine wpAny_bind (wpAny_field ho hd (x:=rawInt (i:Int)) rfl ?_)
    show wpAny _ _ (setField (.ref it) 1 (rawInt ((i:Int) - 1)) >>= _) _ _ _
    refine wpAny_bind (wpAny_setField ho hd (by simp) ?_)
    refine wpAny_pure ⟨x,rfl,wpAny_pure (hQ _ ?_ (Heap.SameBut.update ..))⟩
    exact ⟨_,Heap.get?_update_self _ ho (Obj.isFreed_of_fields (Obj.data_mapFields hd _)),(Obj.cls_mapFields ..).trans hc,by
      rw [Obj.data_mapFields hd]; simp⟩
theorem pyNext_trev_end {it l:Addr} {Q:Option Value→Shared→Prop} (hh:A.handled=none) (hit:IsTRev s.heap it l (-1))
    (hQ:∀ h',Heap.ExtBut it s.heap h'→Q none { s with heap:=h' }):wpAny (model prog w) A (pyNext (.ref it)) Q E s:=by
  obtain ⟨o,ho,hc,hd⟩:=id hit
  have hT:s.TypeIs (.ref it) "reversed":=⟨o,ho,hc⟩
  unfold pyNext
  refine wpAny_bind (wpAny_attempt (wpAny_callSpecial?_slot (name:=Str.ofString "__next__") hT slot_rev_next
    (wpAny_call_entry slot_rev_next hT entry_rev_next ?_ (args_rev_next_1 _))))
  unfold Builtin.«reversed.__next__»
  refine wpAny_bind (wpAny_of_eq (a:=(Value.ref it,[])) rfl ?_)
  try dsimp only
  refine wpAny_bind (wpAny_field ho hd (x:=.ref l) rfl ?_)
  refine wpAny_bind (wpAny_field ho hd (x:=rawInt (-1)) rfl ?_)
  show wpAny _ _ (if (-1:Int) < 0 then _ else _) _ _ s
  rw [if_pos (by decide)]
  refine wpAny_bind (wpAny_rule ?_)
  refine wpAny_bind ?_
  show wpAny _ _ (setField (.ref it) 1 (rawInt (-1)) >>= _) _ _ _
  refine wpAny_bind (wpAny_setField ho hd (by simp) ?_)
  have ho2:=Heap.get?_update_self (Obj.mapFields fun x_1=>x_1.setIfInBounds 1 (rawInt (-1))) ho (Obj.isFreed_of_fields (Obj.data_mapFields hd _))
  refine wpAny_setField ho2 (Obj.data_mapFields hd _) (by simp) ?_
  have eb:Heap.ExtBut it s.heap ((s.heap.update it (Obj.mapFields fun x_1=>x_1.setIfInBounds 1 (rawInt (-1)))).update it (Obj.mapFields fun x_1=>x_1.setIfInBounds 0 Value.none)):=fun b o' hb e=>(Heap.SameBut.update _ _ _).extBut b o' hb ((Heap.SameBut.update _ _ _).extBut b o' hb e)
  show wpAny _ _ (newExc (.type "StopIteration") [] >>= _ >>= _) _ _ _
  refine wpAny_bind ?_
  refine wpAny_bind ?_
  simp only [newExc,newTuple]
  refine wpAny_bind (wpAny_newObj_type ?_ (by size_fits))
  refine wpAny_bind (m:=firstArgMember _ _) (wpAny_of_eq (a:=Value.none) (by first | rfl | (simp only [firstArgMember]; rfl)) ?_)
  refine wpAny_newObj_type ?_ (by size_fits)
  simp only [raiseNew]
  refine wpAny_bind (wpAny_handled ?_)
  first | rw [show A.in1.handled=none from hh] | rw [hh]
  refine wpAny_bind (wpAny_pure (wpAny_throw ?_))
  refine wpAny_bind (wpAny_isInstance (T:="StopIteration") (b:=true) ⟨_,Heap.get?_push_size _ rfl,rfl⟩ isSubtype_stop ?_)
  exact wpAny_pure (hQ _ ((eb.push _).push _))
theorem pyIter_trev {it l:Addr} {i:Int} {Q:Value→Shared→Prop} (hit:IsTRev s.heap it l i) (h:Q (.ref it) s):wpAny (model prog w) A (pyIter (.ref it)) Q E s:=by
  obtain ⟨o,ho,hc,hd⟩:=id hit
  have hT:s.TypeIs (.ref it) "reversed":=⟨o,ho,hc⟩
  refine wpAny_pyIter_slot hT slot_rev_iter (wpAny_call_entry slot_rev_iter hT entry_rev_iter ?_ (args_rev_iter_1 _))
  show wpAny _ _ (ret (.ref it)) _ _ s
  exact wpAny_pure ⟨_,rfl,"reversed",_,hT,slot_rev_next.lookup,h⟩
end
noncomputable def Itv (b:Bool) (l:Addr) (n:Nat):It :=
  ⟨fun i H=>i < n∧∃ xs,H l=some (hoB b xs)∧xs.length=n,fun i H x H'=>H'=H∧∃ xs,H l=some (hoB b xs)∧xs[n - 1 - i]?=some x,fun i _=>i=n⟩
noncomputable def RvAt (b:Bool) (h:Heap) (it l:Addr) (i:Int):Prop:=match b with
  | true=>h.IsRevIter it l i
  | false=>IsTRev h it l i
theorem RvAt.there {b:Bool} {h:Heap} {it l:Addr} {i:Int} (x:RvAt b h it l i):∃ o n vs,h.get? it=some o∧o.cls=.type n∧o.data=.fields vs∧["enumerate","zip","dict_itemiterator","dict_reverseitemiterator","odict_iterator","itertools.zip_longest","itertools.pairwise"].contains n=false:=by
  cases b with
  | true=>obtain ⟨o,h1,h2,h3⟩:=x; exact ⟨o,_,_,h1,h2,h3,by decide⟩
  | false=>obtain ⟨o,h1,h2,h3⟩:=x; exact ⟨o,_,_,h1,h2,h3,by decide⟩
theorem RvAt.at {b:Bool} {h h':Heap} {it l:Addr} {i:Int} (x:RvAt b h it l i) (e:∀ o,h.get? it=some o→h'.get? it=some o):RvAt b h' it l i:=by
  cases b with
  | true=>exact Heap.IsRevIter.at x e
  | false=>exact IsTRev.at x e
theorem turn_rev {P:Program} {w:World} {K:PySem.W.Frag} {tg:Expr} {b:Bool} {l:Addr} {n:Nat} (it:Addr) (hn:(n:Int) < 2 ^ 63):Turn P w K tg (Itv b l n) [it] it (fun i h=>RvAt b h it l ((n:Int) - 1 - (i:Nat))) where
  mem:=by simp
  obj:=fun i h st c hb=>by
    have e:c=it:=by simpa using hb
    subst e
    obtain ⟨o,_,_,h1,_,h3,_⟩:=st.there
    exact ⟨o,h1,fun v z=>by rw [h3] at z; cases z⟩
  keep:=fun i h h' st k=>st.at fun o e=>k it (by simp) o e
  item:=by
    intro X hP hw hK hc i pins s σ H E I hf st hg
    subst hP hw hK
    obtain ⟨hi,xs,e1,hlen⟩:=hg
    obtain ⟨us,r1,q1⟩:=sqAt_of I.hok e1
    obtain ⟨f0,f1,f2,f3,f4,f5⟩:=hf it (by simp)
    have hxl:n - 1 - i < xs.length:=by omega
    have hx:xs[n - 1 - i]?=some xs[n - 1 - i]:=List.getElem?_eq_getElem hxl
    obtain ⟨u,hu,ru⟩:=r1.get hx
    have ne:l≠it:=ne_of_none e1 f0
    have ei:(n:Int) - 1 - (i:Nat)=((n - 1 - i:Nat):Int):=by omega
    have ei2:((n - 1 - i:Nat):Int) - 1=(n:Int) - 1 - ((i+1:Nat):Int):=by omega
    rw [ei] at st
    have usz:us.toArray.size=n:=by rw [List.size_toArray,← r1.length]; exact hlen
    have fin:∀ (h':Heap) (tk:Nat),RvAt b h' it l ((n:Int) - 1 - ((i+1:Nat):Int))→Heap.SameBut it s.heap h'→∃ u',some u=some u'∧wpAny (model X.prog X.w) X.A (letOwnedTupleGo tg (.ref it) u') (fun _ s2=>∃ x H',Inv X pins σ H' s2∧RelV x u'∧(Itv b l n).yld i H x H'∧RvAt b s2.heap it l ((n:Int) - 1 - ((i+1:Nat):Int))∧∀ b∈[it],H' b=none) E { s with heap:=h',toks:=tk }:=fun h' tk st' sb=>by
      have I1:Inv X pins σ H { s with heap:=h',toks:=tk }:=I.turned (fun b o hb e=>(sb.2 b hb).trans e) f0 f1 f3 f4 f5
      obtain ⟨o,nm,vs,g1,g2,g3,g4⟩:=st'.there
      exact ⟨u,rfl,go_of (s:={ s with heap:=h',toks:=tk }) g1 g2 g3 g4 ⟨_,H,I1,ru,⟨rfl,xs,e1,hx⟩,st',fun b hb=>(hf b hb).1⟩⟩
    cases b with
    | true =>
      refine wpAny_pyNext_rev_item (i:=n - 1 - i) st q1 (x:=u) (by simpa using hu) fun h' st' sb=>?_
      rw [ei2] at st'
      exact fin h' s.toks st' sb
    | false =>
      refine pyNext_trev_item (i:=n - 1 - i) st q1 ne (x:=u) (by simpa using hu) (by rw [usz]; exact hn) fun h' st' sb=>?_
      rw [ei2] at st'
      exact fin h' (s.toks+1) st' sb
  done:=by
    intro X hP hw hK hc i pins s σ H E I hf st hg
    subst hP hw hK
    obtain ⟨f0,f1,f2,f3,f4,f5⟩:=hf it (by simp)
    have hi:i=n:=hg
    subst hi
    have e:(i:Int) - 1 - (i:Nat)=-1:=by omega
    rw [e] at st
    cases b with
    | true=>exact wpAny_pyNext_rev_end (I.ok.hd hc) st fun h' eb=>⟨rfl,I.turned (t':=s.toks) (fun b o hb e=>eb b o hb e) f0 f1 f3 f4 f5⟩
    | false=>exact pyNext_trev_end (I.ok.hd hc) st fun h' eb=>⟨rfl,I.turned (t':=s.toks) (fun b o hb e=>eb b o hb e) f0 f1 f3 f4 f5⟩
  self:=fun _ _ _ _ _ st h=>by
    cases b with
    | true=>exact wpAny_pyIter_revIter st h
    | false=>exact pyIter_trev st h
section
variable {X:Cx} {tg:Expr} {PK:Pk} {a b:Expr} {i j:List Sl→Tr PyData} {p pos:Pos}
noncomputable def iRev (ta:TE):TI:=fun σ H R=>ta σ H fun x H1=>(∃ b l xs,x=.ref l∧H1 l=some (hoB b xs)∧R (Itv b l xs.length) H1) ∨
  (∃ l lo hi,x=.ref l∧H1 l=some (.rng lo hi)∧-(2 ^ 62)≤lo∧lo < 2 ^ 62∧-(2 ^ 62)≤hi∧hi < 2 ^ 62∧R (Itd (lo+(hi - lo).toNat - 1) (hi - lo).toNat) H1)
theorem pi_rev {ta:TE} (hg:Gl X "reversed") (hm:X.mg "reversed"=none) (ha:PE X a ta)
    (hs:starEach [a] X.env=[(false,eval a X.env)]:=by rfl):PI X tg (.Call (.Name "reversed" p) [a] [] pos) (iRev ta):=by
  intro pins s σ H R I h
  have hab:PA X [a] (tCons ta tNil):=pa_cons ha pa_nil (by rw [hs]; rfl)
  have h':tCons ta tNil σ H fun vs H1=>∃ x,vs=[x]∧((∃ b l xs,x=.ref l∧H1 l=some (hoB b xs)∧R (Itv b l xs.length) H1) ∨
      (∃ l lo hi,x=.ref l∧H1 l=some (.rng lo hi)∧-(2 ^ 62)≤lo∧lo < 2 ^ 62∧-(2 ^ 62)≤hi∧hi < 2 ^ 62∧R (Itd (lo+(hi - lo).toNat - 1) (hi - lo).toNat) H1)):=by
    have h0:ta σ H fun x H1=>(∃ b l xs,x=.ref l∧H1 l=some (hoB b xs)∧R (Itv b l xs.length) H1) ∨
      (∃ l lo hi,x=.ref l∧H1 l=some (.rng lo hi)∧-(2 ^ 62)≤lo∧lo < 2 ^ 62∧-(2 ^ 62)≤hi∧hi < 2 ^ 62∧R (Itd (lo+(hi - lo).toNat - 1) (hi - lo).toNat) H1):=h
    refine cast (congrArg (ta σ H) ?_) h0
    funext x H1
    apply propext
    constructor
    · exact fun q=>⟨x,rfl,q⟩
    · rintro ⟨y,e,q⟩
      have e':x=y:=by simpa using e
      subst e'
      exact q
  refine Call_ (ld_blt I hg hm boot_reversed (PyProof.Rows.callWith_type1 (thn (hab pos pins s σ H _ I h') fun us s1 hz0=>?_) (by rw [hs]; rfl) rfl))
  obtain ⟨vs,H1,I1,r1,q1⟩:=hz0
  obtain ⟨x,rfl,q1⟩:=q1
  obtain ⟨u,rfl,ru⟩:=vals1 r1
  have fp:∀ c∈[s1.heap.objs.size],FpOk X pins H1 c:=fun c hb=>by
    have e:c=s1.heap.objs.size:=by simpa using hb
    subst e
    exact I1.fpOk (Nat.le_refl _) (I1.hok.fresh (Nat.le_refl _))
  have hn:=line63
  rcases q1 with ⟨b,l,xs,rfl,e1,q⟩ | ⟨l,lo,hi,rfl,e1,b1,b2,b3,b4,q⟩
  · cases ru
    obtain ⟨us,r2,q2⟩:=sqAt_of I1.hok e1
    have usz:us.toArray.size=xs.length:=by rw [List.size_toArray,← r2.length]
    have hz:xs.length≤sizeLine:=by
      cases b with
      | true=>exact (I1.hok _ _ e1).1
      | false=>exact (I1.hok _ _ e1).1
    cases b with
    | true =>
      refine call_reversed_list q2 (wpAny_pyIter_revIter ⟨_,Heap.get?_push_size _ rfl,rfl,rfl⟩ ?_)
      refine ⟨_,_,_,_,H1,rfl,I1.kept (t':=s1.toks) fun b o e=>Heap.get?_push_of_some _ e,turn_rev (b:=true) (l:=l) (n:=xs.length) s1.heap.objs.size (by omega),?_,fp,q⟩
      refine ⟨_,Heap.get?_push_size _ rfl,rfl,?_⟩
      rw [usz]
      show Data.fields #[_,rawInt ((xs.length:Int) - 1)]=Data.fields #[_,rawInt ((xs.length:Int) - 1 - ((0:Nat):Int))]
      simp
    | false =>
      refine call_trev q2 (by rw [usz]; omega) (pyIter_trev ⟨_,Heap.get?_push_size _ rfl,rfl,rfl⟩ ?_)
      refine ⟨_,_,_,_,H1,rfl,I1.kept (t':=s1.toks+1+1) fun b o e=>Heap.get?_push_of_some _ e,turn_rev (b:=false) (l:=l) (n:=xs.length) s1.heap.objs.size (by omega),?_,fp,q⟩
      refine ⟨_,Heap.get?_push_size _ rfl,rfl,?_⟩
      rw [usz]
      show Data.fields #[_,rawInt ((xs.length:Int) - 1)]=Data.fields #[_,rawInt ((xs.length:Int) - 1 - ((0:Nat):Int))]
      simp
  · cases ru
    obtain ⟨t,u,v,e⟩:=I1.hok _ _ e1
    have hsz:Builtin.Range.rangeSize lo hi 1=((hi - lo).toNat:Int):=by rw [rangeSize_one]; split <;> omega
    refine call_rrev e b1 b2 b3 b4 (wpAny_pyIter_rangeiter (Heap.get?_push_size _ rfl) ?_)
    refine ⟨_,_,_,_,H1,rfl,I1.kept (t':=s1.toks) fun b o e=>Heap.get?_push_of_some _ e,turn_ranged s1.heap.objs.size (lo+(hi - lo).toNat - 1) (hi - lo).toNat,?_,fp,q⟩
    rw [hsz]
    have e1:lo+(((hi - lo).toNat:Int) - 1) * 1=lo+(hi - lo).toNat - 1+((0:Nat):Int) * (-1):=by simp; omega
    have e2:((hi - lo).toNat:Int)=((hi - lo).toNat:Int) - ((0:Nat):Int):=by simp
    rw [e1]
    show IsRangeIter _ _ _ (((hi - lo).toNat:Int) - ((0:Nat):Int)) (-1)
    rw [← e2]
    exact Heap.get?_push_size _ rfl
end
end L2
set_option Elab.async false
set_option linter.all false
set_option maxRecDepth 100000
namespace L2
open PySem PySem.Spec PyProof.Rows
section
variable {X:Cx} {tg:Expr} {PK:Pk} {e:Expr} {i j:List Sl→Tr PyData} {is:List Sl→Tr (List PyData)} {p pos:Pos}
theorem call_rangeV1:CallR X (.type "range") (fun xs H Q=>∃ j:Int,xs=[.int j]∧∀ p,H p=none→Q (.ref p) (upd H p (.rng 0 j))):=by
  intro pins s σ H xs us Q I r h
  obtain ⟨j,rfl,q⟩:=h
  cases r with
  | cons r1 rr =>
    cases rr
    obtain ⟨t,rfl⟩:=r1
    refine call_range_1 ?_
    exact ⟨.ref s.heap.objs.size,_,I.laid (t':=s.toks+1+1) (fun b o e=>Heap.get?_push_of_some _ e) (Nat.le_refl _) (show ObjOk X.prog X.w _ _ _ (.rng 0 j) from ⟨s.toks,t,s.toks+1,Heap.get?_push_size _ rfl⟩),rfl,q _ (I.hok.fresh (Nat.le_refl _))⟩
theorem jok_rngd {pa:Addr} {G:Hp} {lo:Int} {n:Nat}:JOk PK pa (Itd (lo+n - 1) n) G ((rangeI lo n).map PyData.int).reverse:=fun m G2 H2 sb w=>by
  have hl:((rangeI lo n).map PyData.int).length=n:=by rw [List.length_map,rangeI_length]
  refine ⟨fun k x hx=>?_,by show n≤_; rw [List.length_reverse,hl]; exact Nat.le_refl _⟩
  have hk:k < n:=by
    have:=(List.getElem?_eq_some_iff.mp hx).1
    rwa [List.length_reverse,hl] at this
  refine ⟨hk,fun y H3 hz0=>?_⟩
  obtain ⟨e1,e2⟩:=hz0
  subst e1 e2
  have:x=.int (lo+n - 1 - k):=by
    rw [List.getElem?_reverse (by rw [hl]; exact hk),hl] at hx
    unfold rangeI at hx
    rw [List.map_map,List.getElem?_map,List.getElem?_range (by omega)] at hx
    cases hx
    show PyData.int (lo+((n - 1 - k:Nat):Int))=_
    congr 1
    omega
  subst this
  exact ⟨G2,.refl,w,.int _⟩
noncomputable def aRevR1 (is:List Sl→Tr (List PyData)):List Sl→Tr (List PyData):=fun ρ=>(is ρ).bind fun xs=>(Tr.of (rngD1 xs)).bind fun ys=>.ret ys.reverse
noncomputable def tRg1 (t:TA):TE:=tCB (fun xs H Q=>∃ j:Int,xs=[.int j]∧∀ p,H p=none→Q (.ref p) (upd H p (.rng 0 j))) t
theorem ai_revr1 {iter:Expr} (h:PI X tg iter (iRev (tRg1 (TAd PK is)))):PI X tg iter (TAi PK (aRevR1 is)):=h.imp fun σ H R0 hz0=>by
  obtain ⟨pa,G₀,H₀,m,ρ,G,R,z⟩:=hz0
  refine TAd.then R z fun m1 xs vs G1 H1 s1 w1 R1 d1 q1=>?_
  rw [Tr.ok_bind] at q1
  obtain ⟨ys,hy,q1⟩:=Tr.ok_of q1
  obtain ⟨n,e,h1,h2,rfl⟩:=rngD1_inv d1 hy
  refine ⟨n,e,fun p hp=>?_⟩
  obtain ⟨w2,s2⟩:=w1.own (o:=.rng 0 n) hp
  refine .inr ⟨p,0,n,rfl,upd_same,by decide,by decide,h1,h2,?_⟩
  have q:=q1 (Itd (0+(n - 0).toNat - 1) (n - 0).toNat) G1 _ (s1.trans s2 w1.some) w2
  unfold rngL at q
  exact q jok_rngd
end
section
variable {X:Cx} {PK:Pk} {i n:List Sl→Tr PyData}
noncomputable def aIns (k:Nat) (n i:List Sl→Tr PyData):List Sl→Tr Ou:=fun ρ=>match ρ[k]? with
  | some (.own xs)=>(n ρ).bind fun y=>(i ρ).bind fun x=>match y with
    | .int t=>if (decide (0≤t) && decide (t≤1000) && decide (xs.length≤1000))=true then .ret (.next (ρ.set k (.own (xs.take t.toNat++x::xs.drop t.toNat)))) else .fail
    | _=>.fail
  | _=>.fail
end
section
variable {prog:Program} {w:World} {A:Around} {E:Value→Shared→Prop} {s:Shared}
theorem sliceApplied_rev {sl:Addr} {vk:Value} {n:Nat} {Q:Int×Int×Nat→Shared→Prop} (hs:s.heap.IsSliceOf sl .none .none vk) (pk:IsPart vk (some (-1)))
    (h:Q ((n:Int) - 1,-1,n) s):wpAny (model prog w) A (Builtin.Slice.sliceApplied (.ref sl) (pure (n:Int))) Q E s:=by
  obtain ⟨os,hos,hcs,hds⟩:=id hs
  unfold Builtin.Slice.sliceApplied Builtin.Slice.sliceFields
  refine wpAny_bind (wpAny_bind (wpAny_field hos hds (x:=.none) rfl (wpAny_bind (wpAny_field hos hds (x:=.none) rfl (wpAny_bind (wpAny_field hos hds (x:=vk) rfl (wpAny_pure ?_)))))))
  refine wpAny_bind (HT.slicePart_ pk ?_)
  show wpAny _ _ (if ((-1:Int) == 0)=true then _ else _) _ _ s
  rw [if_neg (by decide)]
  refine wpAny_bind (HT.slicePart_ .none (wpAny_bind (HT.slicePart_ .none (wpAny_bind (wpAny_pure ?_)))))
  show wpAny _ _ (match Builtin.Slice.sliceAdjust none none (-1) (n:Int) with | (lo,hi)=>pure (lo,(-1:Int),Builtin.Slice.slicePlaces lo hi (-1))) _ _ s
  have ea:Builtin.Slice.sliceAdjust none none (-1) (n:Int)=((n:Int) - 1,-1):=by
    unfold Builtin.Slice.sliceAdjust
    simp
  rw [ea]
  show wpAny _ _ (pure ((n:Int) - 1,(-1:Int),Builtin.Slice.slicePlaces ((n:Int) - 1) (-1) (-1))) _ _ s
  have ep:Builtin.Slice.slicePlaces ((n:Int) - 1) (-1) (-1)=n:=by
    unfold Builtin.Slice.slicePlaces
    rw [if_neg (by decide)]
    split
    · have e:(-(-1:Int))=1:=by decide
      rw [e,Int.ediv_one]
      omega
    · omega
  rw [ep]
  exact wpAny_pure h
theorem pick_rev (xs:Array Value):((List.range xs.size).filterMap fun (m:Nat)=>xs[((xs.size:Int) - 1+(m:Int) * (-1)).toNat]?).toArray=xs.toList.reverse.toArray:=by
  have h1:=PySem.W.krv_pick xs
  unfold slicePick at h1
  rw [PySem.W.krv_bounds] at h1
  have h2:((sliceRange ((xs.size:Int) - 1) (-1) (-1)).filterMap (xs[·]?)).toArray=xs.toList.reverse.toArray:=h1
  rw [PySem.W.krv_sliceRange,List.filterMap_map] at h2
  rw [← h2]
  congr 2
  funext m
  show xs[((xs.size:Int) - 1+(m:Int) * (-1)).toNat]?=xs[xs.size - 1 - m]?
  congr 1
  omega
theorem getItem_tuple_rev {t sl:Addr} {items:Array Value} {vk:Value} {Q:Value→Shared→Prop} (ht:IsTup s.heap t items) (hs:s.heap.IsSliceOf sl .none .none vk) (pk:IsPart vk (some (-1)))
    (h:Q (.ref s.heap.objs.size) { s with heap:=s.heap.push { cls:=.type "tuple",data:=.seq items.toList.reverse.toArray } })
    (hsz:items.size≤sizeLine):wpAny (model prog w) A (getItem (.ref t) (.ref sl)) Q E s:=by
  have htake:sizeOk (.seq items.toList.reverse.toArray):=by
    show items.toList.reverse.toArray.size≤sizeLine
    rw [List.size_toArray,List.length_reverse,Array.length_toList]
    exact hsz
  obtain ⟨os,hos,hcs,hds⟩:=id hs
  have hTs:s.TypeIs (.ref sl) "slice":=⟨os,hos,hcs⟩
  unfold getItem
  try with_reducible refine wpAny_holding ?_
  first | refine wpAny_bind (wpAny_pure ?_) | skip
  refine wpAny_bind (wpAny_sequenceKey ht.typeIs (by decide) ?_)
  refine wpAny_bind (wpAny_callSpecial?_slot (name:=Str.ofString "__getitem__") ht.typeIs PyProof.Rows.slot_tuple_getitem
    (wpAny_call_entry PyProof.Rows.slot_tuple_getitem ht.typeIs entry_tuple_getitem ?_ (args_tuple_getitem _ _)))
  show wpAny _ _ (Builtin.Tuple.tupleItemsOf (.ref t) >>= _) _ _ s
  refine wpAny_bind (tupleItemsOf_ ht ?_)
  refine wpAny_bind (wpAny_typeOf hTs ?_)
  rw [if_pos (by decide)]
  refine wpAny_bind (sliceApplied_rev hs pk ?_)
  show wpAny _ _ (if (((items.size:Int) - 1) == 0 && (-1:Int) == 1 && items.size == items.size)=true then _ else _) _ _ s
  rw [if_neg (by simp),pick_rev]
  first
    | exact wpAny_bind (m:=Builtin.Tuple.tupleExact _) (wpAny_newObj_type (wpAny_pure ⟨_,rfl,wpAny_pure h⟩) htake)
    | exact wpAny_bind (m:=Builtin.Tuple.tupleExact _) (wpAny_newObj_type (wpAny_bind (wpAny_pure (wpAny_pure ⟨_,rfl,wpAny_pure h⟩))) htake)
    | exact wpAny_bind (wpAny_bind (m:=Builtin.Tuple.tupleExact _) (wpAny_newObj_type (wpAny_pure (wpAny_pure ⟨_,rfl,wpAny_pure h⟩)) htake))
    | exact wpAny_bind (wpAny_bind (m:=Builtin.Tuple.tupleExact _) (wpAny_newObj_type (wpAny_pure ⟨_,rfl,wpAny_pure h⟩) htake))
end
section
variable {X:Cx} {PK:Pk} {e st:Expr} {te ts:TE} {i j:List Sl→Tr PyData} {p2 pos:Pos}
noncomputable def tSlv (te ts:TE):TE:=fun σ H Q=>te σ H fun x H1=>ts σ H1 fun k H2=>k=.int (-1)∧∃ b a xs,x=.ref a∧H2 a=some (hoB b xs)∧∀ p,H2 p=none→Q (.ref p) (upd H2 p (hoB b xs.reverse))
theorem vals_rev {xs:List V} {us:List Value} (h:Vals xs us):Vals xs.reverse us.reverse:=by
  induction h with
  | nil=>exact .nil
  | cons a b ih =>
    rw [List.reverse_cons,List.reverse_cons]
    exact ih.append (.cons a .nil)
theorem pe_slv (he:PE X e te) (hk:PE X st ts):PE X (.Subscript e (.Slice none none (some st) p2) pos) (tSlv te ts):=by
  intro pins s σ H Q I h
  refine Subscript_ (thn (he pins s σ H _ I h) fun v s1 hz0=>?_)
  obtain ⟨x,H1,I1,r1,q1⟩:=hz0
  refine wpAny_Slice ?_
  rw [evalPart_none]
  refine wpAny_pure (wpAny_pure ?_)
  rw [evalPart_some]
  refine thn (hk pins s1 σ H1 _ I1 q1) fun vk s3 hz0=>?_
  obtain ⟨y,H3,I3,r3,q3⟩:=hz0
  obtain ⟨rfl,b,a,xs,rfl,e1,q⟩:=q3
  obtain ⟨t,rfl⟩:=r3
  cases r1
  have I4:Inv X pins σ H3 { s3 with heap:=s3.heap.push { cls:=.type "slice",data:=.fields #[.none,.none,.int (-1) t] } }:=I3.kept (t':=s3.toks) fun b ob q=>Heap.get?_push_of_some _ q
  have hsl:({ s3 with heap:=s3.heap.push { cls:=.type "slice",data:=.fields #[.none,.none,.int (-1) t] } }:Shared).heap.IsSliceOf s3.heap.objs.size .none .none (.int (-1) t):=Heap.IsSliceOf.new ..
  show wpAny (model X.prog X.w) X.A (subscriptTail e (.Slice none none (some st) p2) (.ref a) (.ref s3.heap.objs.size)) (EP X pins σ Q) X.xe { s3 with heap:=s3.heap.push { cls:=.type "slice",data:=.fields #[.none,.none,.int (-1) t] } }
  generalize hs4:({ s3 with heap:=s3.heap.push { cls:=.type "slice",data:=.fields #[.none,.none,.int (-1) t] } }:Shared)=s4 at I4 hsl ⊢
  obtain ⟨us,r2,q2⟩:=sqAt_of I4.hok e1
  have hlen:=r2.length
  cases b with
  | true =>
    have hz:xs.length≤sizeLine:=(I4.hok _ _ e1).1
    have q2':s4.heap.IsList a us.toArray:=q2
    refine tail_any (ops:=[.ref a,.ref s3.heap.objs.size]) q2'.typeIs slot_list_getitem.lookup ?_ (by with_unfolding_all rfl)
    refine wpAny_getItem_list_slice q2' hsl .none .none (.int (-1) t) (by decide) ?_ (by rw [List.size_toArray]; omega)
    rw [PySem.W.krv_pick]
    refine ⟨.ref s4.heap.objs.size,_,I4.laid (t':=s4.toks) (o:=.lst xs.reverse) (fun b ob q=>Heap.get?_push_of_some _ q) (Nat.le_refl _) ?_,rfl,q _ (I4.hok.fresh (Nat.le_refl _))⟩
    exact ⟨by rw [List.length_reverse]; exact hz,_,0,vals_rev r2,Heap.get?_push_size _ rfl⟩
  | false =>
    have hz:xs.length≤sizeLine:=(I4.hok _ _ e1).1
    have q2':IsTup s4.heap a us.toArray:=q2
    refine tail_any (ops:=[.ref a,.ref s3.heap.objs.size]) q2'.typeIs PyProof.Rows.slot_tuple_getitem.lookup ?_ (by with_unfolding_all rfl)
    refine getItem_tuple_rev q2' hsl (.int (-1) t) ?_ (by rw [List.size_toArray]; omega)
    refine ⟨.ref s4.heap.objs.size,_,I4.laid (t':=s4.toks) (o:=.tup xs.reverse) (fun b ob q=>Heap.get?_push_of_some _ q) (Nat.le_refl _) ?_,rfl,q _ (I4.hok.fresh (Nat.le_refl _))⟩
    exact ⟨by rw [List.length_reverse]; exact hz,_,vals_rev r2,IsTup.new _ _⟩
noncomputable def revD:PyData→PyData→Option PyData
  | .list xs,.int (-1)=>some (.list xs.reverse)
  | .tuple xs,.int (-1)=>some (.tuple xs.reverse)
  | _,_=>none
theorem ae_slv (he:PE X e (TAe PK i)) (hk:PE X st (TAe PK j)):PE X (.Subscript e (.Slice none none (some st) p2) pos) (TAe PK (aBin revD i j)):=(pe_slv he hk).imp fun σ H Q hz0=>by
  obtain ⟨pa,G₀,H₀,m,ρ,G,R,z⟩:=hz0
  refine TAe.then R z fun m1 x v G1 H1 s1 w1 R1 d1 q1=>?_
  refine TAe.then R1 q1 fun m2 y u G2 H2 s2 w2 R2 d2 q2=>?_
  obtain ⟨d,hd,k⟩:=Tr.ok_of q2
  have k':=Kn.later k (s1.trans s2 w1.some) w2.some
  have d1':=d1.mono s2.gs
  unfold revD at hd
  split at hd
  · cases hd
    cases d2
    cases d1' with
    | lst a1 a2=>exact ⟨rfl,true,_,_,rfl,w2.sub _ _ a1,fun p hp=>k'.lst w2 a2.reverse hp⟩
  · cases hd
    cases d2
    cases d1' with
    | tup a1 a2=>exact ⟨rfl,false,_,_,rfl,w2.sub _ _ a1,fun p hp=>k'.tup w2 a2.reverse hp⟩
  · cases hd
end
end L2
set_option Elab.async false
set_option linter.all false
set_option maxRecDepth 100000
namespace L2
open PySem PySem.Spec PyProof.Rows
section
variable {prog:Program} {w:World} {A:Around} {R:Result→Shared→Prop} {I S:Addr} {fp wr:List Addr} {n:Nat} {P:Nat→Value→Prop} {St:Nat→Heap→Prop} {h0:Heap}
end
section
variable {prog:Program} {w:World} {A:Around} {E:Value→Shared→Prop} {s:Shared}
end
end L2
namespace L2
open PySem PySem.Spec PyProof.Rows
section
variable {X:Cx}
end
end L2
namespace L2
open PySem PySem.Spec PyProof.Rows
section
variable {X:Cx} {PK:Pk} {e:Expr} {is:List Sl→Tr (List PyData)}
end
end L2
set_option Elab.async false
set_option linter.all false
set_option maxRecDepth 100000
namespace L2
open PySem PySem.Spec PyProof.Rows
section
variable {prog:Program} {w:World} {A:Around} {E:Value→Shared→Prop} {s:Shared}
end
noncomputable def bestT:List (List Int)→List Int
  | []=>[]
  | x::r=>r.foldl (fun b y=>if HT.lexLt y b=true then y else b) x
section
variable {X:Cx}
noncomputable def tups?:List PyData→Option (List (List Int))
  | []=>some []
  | .tuple x::xs=>(ints? x).bind fun ns=>(tups? xs).bind fun r=>some (ns::r)
  | _=>none
noncomputable def min1T:List PyData→Option PyData
  | [.list xs]=>(tups? xs).bind fun nss=>if nss.isEmpty=true then none else some (.tuple ((bestT nss).map PyData.int))
  | _=>none
end
end L2
namespace L2
open PySem PySem.Spec PyProof.Rows
section
variable {X:Cx} {PK:Pk} {a b:Expr} {pos:Pos} {j:List Sl→Tr PyData}
noncomputable def ixO (xs:List PyData):PyData→Tr PyData
  | .int i=>Tr.of (atI xs i)
  | _=>.fail
noncomputable def aIxO (k:Nat) (j:List Sl→Tr PyData):List Sl→Tr PyData:=fun ρ=>(j ρ).bind fun y=>match ρ[k]? with
  | some (.own xs)=>ixO xs y
  | some (.d (.list xs))=>ixO xs y
  | _=>.fail
theorem atI_dn {G:Hp} {vs:List V} {xs:List PyData} {i:Int} {d:PyData} (h:DnAll G vs xs) (e:atI xs i=some d):∃ v,atI vs i=some v∧Dn G v d:=by
  unfold atI at e ⊢
  rw [h.length]
  cases hi:ixN xs.length i with
  | none=>rw [hi] at e; cases e
  | some n =>
    rw [hi] at e
    exact h.get n e
theorem fail_ok {α β:Type}:∀ {t:Tr α} {m:Nat} {Z:Nat→β→Prop},(t.bind fun _=>(Tr.fail:Tr β)).ok m Z→False
  | .ret a,m,Z,h=>h
  | .draw n k,m,Z,h=>fail_ok (t:=k 0) (h.2.2.2 0 (Int.le_refl _) h.2.1)
  | .fail,m,Z,h=>h
theorem ae_ixO {k:Nat} (hb:PE X b (TAe PK j)) (ha:PE X a (tVar k)) (hs:PlainIx b):PE X (.Subscript a b pos) (TAe PK (aIxO k j)):=(pe_ix ix_list ha hb hs).imp fun σ H Q hz0=>by
  obtain ⟨pa,G₀,H₀,m,ρ,G,R,z⟩:=hz0
  have key:∀ xs:List PyData,(∃ (sl:Sl),ρ[k]?=some sl∧(sl=.own xs∨sl=.d (.list xs)))→((j ρ).bind fun y=>ixO xs y).ok m (fun m1 x=>Kn PK pa m1 G H x Q)→tOp (rIxL X.K) (tVar k) (TAe PK j) σ H Q:=fun xs ⟨sl,hsl,hx⟩ z=>by
    obtain ⟨o,h1,h2⟩:=R.sl k _ hsl
    have hp:∃ p,o=some (.ref p):=by
      rcases hx with rfl | rfl
      · cases h2; exact ⟨_,rfl⟩
      · cases h2 with
        | d q=>cases q; exact ⟨_,rfl⟩
    obtain ⟨p,rfl⟩:=hp
    refine ⟨_,h1,?_⟩
    refine TAe.then R z fun m1 y u G1 H1 s1 w1 R1 d1 q1=>?_
    obtain ⟨o',h1',h2'⟩:=R1.sl k _ hsl
    rw [h1] at h1'
    cases h1'
    have hl:∃ vs,H1 p=some (.lst vs)∧DnAll G1 vs xs:=by
      rcases hx with rfl | rfl
      · cases h2' with
        | own a1 a2 a3 a4=>exact ⟨_,a1,a4⟩
      · cases h2' with
        | d q=>cases q with
          | lst b1 b2=>exact ⟨_,w1.sub _ _ b1,b2⟩
    obtain ⟨vs,e1,e2⟩:=hl
    cases d1 with
    | int i =>
      obtain ⟨d,hd,kq⟩:=Tr.ok_of q1
      obtain ⟨v,hv,dv⟩:=atI_dn e2 hd
      exact ⟨p,vs,i,v,rfl,rfl,SqL.of e1,hv,kq v G1 H1 s1 w1 dv⟩
    | _=>exact q1.elim
  unfold aIxO at z
  cases hk:ρ[k]? with
  | none=>rw [hk] at z; exact (fail_ok (t:=j ρ) z).elim
  | some sl =>
    rw [hk] at z
    cases sl with
    | own xs=>exact key xs ⟨_,hk,.inl rfl⟩ z
    | d x =>
      cases x with
      | list xs=>exact key xs ⟨_,hk,.inr rfl⟩ z
      | _=>exact (fail_ok (t:=j ρ) z).elim
    | _=>exact (fail_ok (t:=j ρ) z).elim
end
end L2
set_option Elab.async false
set_option linter.all false
set_option maxRecDepth 100000
namespace L2
open PySem PySem.Spec PyProof.Rows
section
variable {prog:Program} {w:World} {A:Around} {E:Value→Shared→Prop} {s:Shared}
theorem cat_nil {t b:Addr} {ws:List Value} {Q:Value→Shared→Prop} (ht:IsTup s.heap t ([]:List Value).toArray) (hb:IsTup s.heap b ws.toArray) (h1:Q (.ref b) s):wpAny (model prog w) A (binaryOp .Add (.ref t) (.ref b)) Q E s:=by
  obtain ⟨⟨cls,dd,data,sl⟩,ho,hc,n,hd⟩:=id ht
  obtain ⟨⟨cls2,dd2,data2,sl2⟩,ho2,hc2,n2,hd2⟩:=id hb
  simp only at hc hd hc2 hd2
  subst hc hd hc2 hd2
  exact concat_meets ⟨_,ho,rfl⟩ ⟨_,ho2,rfl⟩ noFill_tuple_add seq_tuple_add PySem.F.slot_tuple_add PySem.F.entry_tuple_add (PySem.F.args_tuple_add_2 _ _) (tuple_addW0 t b _ ws.toArray n n2 dd dd2 sl sl2 rfl) ⟨ho,ho2,h1⟩
end
section
variable {X:Cx}
noncomputable def rCat0 (K:PySem.W.Frag):R2:=fun x y H Q=>∃ a b ys,x=.ref a∧y=.ref b∧SqT K H a []∧SqT K H b ys∧Q (.ref b) H
theorem op_cat0:OpR X (binaryOp .Add) (rCat0 X.K):=by
  intro pins s σ H x y v u Q I rx ry h
  obtain ⟨a,b,ys,rfl,rfl,ha,hb,q⟩:=h
  cases rx
  cases ry
  obtain ⟨its,r1,p1,_⟩:=I.tuple ha
  obtain ⟨its2,r2,p2,_⟩:=I.tuple hb
  cases r1
  exact cat_nil p1 p2 ⟨.ref b,H,I,rfl,q⟩
noncomputable def addE:PyData→PyData→Option PyData
  | .tuple [],.tuple ys=>some (.tuple ys)
  | x,y=>addD x y
noncomputable def rAddE (K:PySem.W.Frag):R2:=fun x y H Q=>rAddD K x y H Q∨rCat0 K x y H Q
theorem op_addE:OpR X (binaryOp .Add) (rAddE X.K):=op_addD.or op_cat0
theorem vo_addE {K:PySem.W.Frag}:VOp2 (rAddE K) addE:=fun PK pa m G H x y dx dy dz Q w hx hy hz k=>by
  unfold addE at hz
  split at hz
  · cases hz
    cases hx with
    | tup a1 a2 =>
      cases a2
      cases hy with
      | tup b1 b2=>exact .inr ⟨_,_,_,rfl,rfl,SqT.of (w.sub _ _ a1),SqT.of (w.sub _ _ b1),k.here w (.tup b1 b2)⟩
  · exact .inl (vo_add PK pa m G H x y _ _ dz Q w hx hy hz k)
theorem ev_addE0 {ys:List PyData}:bin2 addE (.tuple []) (.tuple ys)=.ret (.tuple ys):=rfl
theorem ev_addE1 {x:PyData} {xs ys:List PyData} (h:small ((x::xs).length+ys.length)=true):bin2 addE (.tuple (x::xs)) (.tuple ys)=.ret (.tuple (x::xs++ys)):=by
  show Tr.of (addD (.tuple (x::xs)) (.tuple ys))=_
  unfold addD
  simp only [List.isEmpty_cons,Bool.not_false,Bool.true_and,h,if_true]
  rfl
theorem addE_of {xs ys:List PyData} (h:small (xs.length+ys.length)=true):bin2 addE (.tuple xs) (.tuple ys)=.ret (.tuple (xs++ys)):=by
  cases xs with
  | nil=>rfl
  | cons x xs=>exact ev_addE1 h
end
end L2
set_option Elab.async false
set_option linter.all false
set_option maxRecDepth 100000
namespace L2
open PySem PySem.Spec PyProof.Rows
section
variable {PK:Pk} {X:Cx} {a b:Expr} {pos:Pos} {i j:List Sl→Tr PyData}
end
theorem len_succ {α:Type} {n:Nat}:∀ {us:List α},us.length=n+1→∃ (a:α) (t:List α),us=a::t∧t.length=n
  | a::t,h=>⟨a,t,rfl,Nat.succ.inj h⟩
theorem len_zero {α:Type} {us:List α} (h:us.length=0):us=[]:=List.eq_nil_of_length_eq_zero h
theorem len1 {α:Type} {us:List α} (h:us.length=1):∃ a,us=[a]:=by
  obtain ⟨a,t,rfl,h2⟩:=len_succ h
  exact ⟨a,by rw [len_zero h2]⟩
theorem len2 {α:Type} {us:List α} (h:us.length=2):∃ a0 a1,us=[a0,a1]:=by
  obtain ⟨a0,t,rfl,h2⟩:=len_succ h
  obtain ⟨a1,rfl⟩:=len1 h2
  exact ⟨a0,a1,rfl⟩
theorem len3 {α:Type} {us:List α} (h:us.length=3):∃ a0 a1 a2,us=[a0,a1,a2]:=by
  obtain ⟨a0,t,rfl,h2⟩:=len_succ h
  obtain ⟨a1,a2,rfl⟩:=len2 h2
  exact ⟨a0,a1,a2,rfl⟩
theorem len4 {α:Type} {us:List α} (h:us.length=4):∃ a0 a1 a2 a3,us=[a0,a1,a2,a3]:=by
  obtain ⟨a0,t,rfl,h2⟩:=len_succ h
  obtain ⟨a1,a2,a3,rfl⟩:=len3 h2
  exact ⟨a0,a1,a2,a3,rfl⟩
theorem len5 {α:Type} {us:List α} (h:us.length=5):∃ a0 a1 a2 a3 a4,us=[a0,a1,a2,a3,a4]:=by
  obtain ⟨a0,t,rfl,h2⟩:=len_succ h
  obtain ⟨a1,a2,a3,a4,rfl⟩:=len4 h2
  exact ⟨a0,a1,a2,a3,a4,rfl⟩
end L2
set_option Elab.async false
set_option linter.all false
set_option maxRecDepth 100000
namespace L2
open PySem PySem.Spec PyProof.Rows
section
variable {PK:Pk} {X:Cx} {pos:Pos} {n:Nat} {is:List Sl→Tr (List PyData)} {s t:List Sl→Tr Ou}
end
end L2
set_option Elab.async false
set_option linter.all false
set_option maxRecDepth 100000
namespace L2
open PySem PySem.Spec PyProof.Rows
section
variable {PK:Pk} {X:Cx} {a b c d e:Expr} {pos:Pos} {i j l n:List Sl→Tr PyData}
end
end L2
set_option Elab.async false
set_option linter.all false
set_option maxRecDepth 100000
set_option exponentiation.threshold 9000
namespace Tw
open PySem L2
noncomputable def nb (k:Nat) (n:Int):Prop:=n.natAbs < 2 ^ k
theorem nb_fit {k:Nat} {n:Int} (h:nb k n) (hk:k≤8000):fit n=true:=decide_eq_true (Nat.lt_of_lt_of_le h (Nat.pow_le_pow_right (by decide) hk))
theorem nb_mono {k l:Nat} {n:Int} (h:nb k n) (hk:k≤l):nb l n:=Nat.lt_of_lt_of_le h (Nat.pow_le_pow_right (by decide) hk)
theorem nb_mul {k l:Nat} {m n:Int} (h:nb k m) (h':nb l n):nb (k+l) (m * n):=by
  unfold nb at *
  rw [Int.natAbs_mul,Nat.pow_add]
  exact Nat.mul_lt_mul'' h h'
theorem nb_add {k l:Nat} {m n:Int} (h:nb k m) (h':nb l n):nb (max k l+1) (m+n):=by
  have h1:=nb_mono h (Nat.le_max_left k l)
  have h2:=nb_mono h' (Nat.le_max_right k l)
  unfold nb at *
  rw [Nat.pow_succ,Nat.mul_two]
  exact Nat.lt_of_le_of_lt (Int.natAbs_add_le m n) (Nat.add_lt_add h1 h2)
theorem nb_neg {k:Nat} {n:Int} (h:nb k n):nb k (-n):=by
  unfold nb at *
  omega
theorem nb_sub {k l:Nat} {m n:Int} (h:nb k m) (h':nb l n):nb (max k l+1) (m - n):=by
  rw [Int.sub_eq_add_neg]
  exact nb_add h (nb_neg h')
theorem nb_of {k:Nat} {n:Int} (h1:-(2 ^ k:Nat) < n) (h2:n < (2 ^ k:Nat)):nb k n:=by
  unfold nb
  omega
theorem nb_ite {k:Nat} {c:Prop} [Decidable c] {m n:Int} (h:nb k m) (h':nb k n):nb k (if c then m else n):=by split <;> assumption
noncomputable def ws (f:Int→Int):Nat→List Int→Int
  | _,[]=>0
  | k,w::l=>w * f k+ws f (k+1) l
theorem ws_congr {f g:Int→Int}:∀ {l:List Int} {k:Nat},(∀ x:Int,0≤x→f x=g x)→ws f k l=ws g k l
  | [],k,h=>rfl
  | w::l,k,h=>by
    unfold ws
    rw [h k (by omega),ws_congr h]
theorem sum_nb {a:Nat}:∀ {l:List Int},(∀ w∈l,nb a w)→nb (a+l.length) l.sum
  | [],h=>by unfold nb; simp; exact Nat.pos_of_ne_zero (by simp)
  | w::l,h=>by
    rw [List.sum_cons]
    refine nb_mono (nb_add (h w (by simp)) (sum_nb (l:=l) fun v hv=>h v (List.mem_cons_of_mem _ hv))) ?_
    rw [List.length_cons]
    omega
structure Shp where
  top:Int
  depth:Int
  start:Int
  piece:Int
  keep:Int
  lack:Int
  lost:Int
  back:Int
  late:Int
noncomputable def Shp.l (s:Shp):List Int:=[s.top,s.depth,s.start,s.piece,s.keep,s.lack,s.lost,s.back,s.late]
@[irreducible] noncomputable def Shp.d (s:Shp):PyData:=.tuple (s.l.map PyData.int)
structure Shp.Ok (s:Shp):Prop where
  t0:0≤s.top
  d0:0≤s.depth
  td:s.top+s.depth≤100
  start0:0≤s.start
  start:nb 45 s.start
  piece:nb 45 s.piece
  keep:nb 45 s.keep
  lack:nb 45 s.lack
  lost:nb 45 s.lost
  back:nb 45 s.back
  late:nb 45 s.late
theorem shp_0 (s:Shp):bin2 ixD s.d (.int 0)=.ret (.int s.top):=by unfold Shp.d; rw [ev_ixT]; exact congrArg Tr.of at_0
theorem shp_1 (s:Shp):bin2 ixD s.d (.int 1)=.ret (.int s.depth):=by unfold Shp.d; rw [ev_ixT]; exact congrArg Tr.of at_1
theorem shp_2 (s:Shp):bin2 ixD s.d (.int 2)=.ret (.int s.start):=by unfold Shp.d; rw [ev_ixT]; exact congrArg Tr.of at_2
theorem shp_3 (s:Shp):bin2 ixD s.d (.int 3)=.ret (.int s.piece):=by unfold Shp.d; rw [ev_ixT]; exact congrArg Tr.of at_3
theorem shp_4 (s:Shp):bin2 ixD s.d (.int 4)=.ret (.int s.keep):=by unfold Shp.d; rw [ev_ixT]; exact congrArg Tr.of at_4
theorem shp_5 (s:Shp):bin2 ixD s.d (.int 5)=.ret (.int s.lack):=by unfold Shp.d; rw [ev_ixT]; exact congrArg Tr.of at_5
theorem shp_6 (s:Shp):bin2 ixD s.d (.int 6)=.ret (.int s.lost):=by unfold Shp.d; rw [ev_ixT]; exact congrArg Tr.of at_6
theorem shp_7 (s:Shp):bin2 ixD s.d (.int 7)=.ret (.int s.back):=by unfold Shp.d; rw [ev_ixT]; exact congrArg Tr.of at_7
theorem shp_8 (s:Shp):bin2 ixD s.d (.int 8)=.ret (.int s.late):=by unfold Shp.d; rw [ev_ixT]; exact congrArg Tr.of at_8
section
variable (s:Shp)
noncomputable def Shp.nx (y f:Int):Int:=maxI (y - f) (-s.depth)
noncomputable def Shp.day (y f:Int):Int:=(if s.nx y f > 0 then s.keep * s.nx y f else s.lack * -s.nx y f)+s.lost * (s.nx y f - (y - f))
noncomputable def Shp.ord (x y:Int):Int:=if y≤x then 0 else s.start+s.piece * (y - x)
noncomputable def Shp.fin (x:Int):Int:=if x > 0 then -s.back * x else s.late * -x
noncomputable def Shp.wg (day:List Int) (y:Int) (ahead:Int→Int) (sc:Int):Int:=ws (fun f=>sc * s.day y f+ahead (s.nx y f)) 0 day
noncomputable def Shp.sm (day:List Int) (ahead:Int→Int) (sc:Int) (y:Int):Int:=sc * day.sum * s.piece * y+s.wg day y ahead sc
end
noncomputable def Shp.n (s:Shp):Nat:=(s.top+1 - -s.depth).toNat
noncomputable def Shp.row (s:Shp) (f:Int→Int):List Int:=(rangeI (-s.depth) s.n).map f
noncomputable def lI (l:List Int):PyData:=.list (l.map PyData.int)
noncomputable def tI (l:List Int):PyData:=.tuple (l.map PyData.int)
noncomputable def fD (fs:List (List Int)):PyData:=.tuple (fs.map tI)
theorem Shp.Ok.n_eq {s:Shp} (h:s.Ok):(s.n:Int)=s.top+s.depth+1:=by have:=h.t0; have:=h.d0; unfold Shp.n; omega
theorem row_len (s:Shp) (f:Int→Int):(s.row f).length=s.n:=by unfold Shp.row; rw [List.length_map,rangeI_length]
theorem row_at {s:Shp} {f:Int→Int} {x:Int} (h1:-s.depth≤x) (h2:x≤s.top):(s.row f)[(x+s.depth).toNat]?=some (f x):=by
  unfold Shp.row rangeI
  rw [List.map_map,List.getElem?_map,List.getElem?_range (by unfold Shp.n; omega)]
  show some (f (-s.depth+((x+s.depth).toNat:Int)))=_
  congr 2
  omega
theorem row_atI {s:Shp} {f:Int→Int} {x:Int} (h1:-s.depth≤x) (h2:x≤s.top):atI ((s.row f).map PyData.int) (x+s.depth)=some (.int (f x)) :=
  atI_ge (by omega) (by rw [List.getElem?_map,row_at h1 h2]; rfl)
theorem nx_ge (s:Shp) (y f:Int):-s.depth≤s.nx y f:=by unfold Shp.nx maxI; split <;> omega
theorem nx_le {s:Shp} (h:s.Ok) {y f:Int} (hy:y≤s.top) (hf:0≤f):s.nx y f≤s.top:=by have:=h.t0; have:=h.d0; unfold Shp.nx maxI; split <;> omega
end Tw
set_option Elab.async false
set_option linter.all false
set_option maxRecDepth 100000
namespace L2
open PySem PySem.Spec PyProof.Rows
variable {ρ:List Sl} {s t:List Sl→Tr Ou} {i j l:List Sl→Tr PyData} {is:List Sl→Tr (List PyData)} {k n:Nat} {x y d:PyData} {xs ys:List PyData} {sl:Sl}
theorem rb2 {α β:Type} {a:α} {f:α→Tr β}:(Tr.ret a).bind f=f a:=Eq.trans (Tr.ret_bind a f) (Eq.refl _)
noncomputable def rvi2 (xs:List PyData):Tr (List PyData):=.ret xs.reverse
theorem ev_rvi2:rvi2 xs=.ret xs.reverse:=rfl
noncomputable def rvr1 (xs:List PyData):Tr (List PyData):=(rng1 xs).bind rvi2
theorem ev_revR1:aRevR1 is ρ=(is ρ).bind rvr1:=rfl
theorem ev_rvr1:rvr1 xs=(rng1 xs).bind rvi2:=rfl
theorem ev_revL:bin2 revD (.list xs) (.int (-1))=.ret (.list xs.reverse):=rfl
theorem ev_revT:bin2 revD (.tuple xs) (.int (-1))=.ret (.tuple xs.reverse):=rfl
noncomputable def ext2 (k:Nat) (ρ:List Sl) (xs:List PyData):PyData→Tr Ou
  | .list ys=>if small (xs.length+ys.length)=true then .ret (.next (ρ.set k (.own (xs++ys)))) else .fail
  | _=>.fail
noncomputable def ixo1:Nat→List Sl→PyData→Tr PyData
  | 0,.own xs::_,y=>ixO xs y
  | 0,.d (.list xs)::_,y=>ixO xs y
  | k+1,_::ρ,y=>ixo1 k ρ y
  | _,_,_=>.fail
theorem ev_ixO:aIxO k j ρ=(j ρ).bind (ixo1 k ρ):=by
  have key:∀ (k:Nat) (σ:List Sl) (y:PyData),(match σ[k]? with | some (Sl.own xs)=>ixO xs y | some (Sl.d (.list xs))=>ixO xs y | _=>Tr.fail)=ixo1 k σ y:=by
    intro k
    induction k with
    | zero =>
      intro σ y
      cases σ with
      | nil=>rfl
      | cons s r =>
        cases s with
        | d x=>cases x <;> rfl
        | _=>rfl
    | succ k ih =>
      intro σ y
      cases σ with
      | nil=>rfl
      | cons s r=>exact ih r y
  unfold aIxO
  exact congrArg (Tr.bind (j ρ)) (funext fun y=>key k ρ y)
theorem ev_ixo0 (n:Int):ixo1 0 (.own xs::ρ) (.int n)=Tr.of (atI xs n):=rfl
theorem ev_ixo0d (n:Int):ixo1 0 (.d (.list xs)::ρ) (.int n)=Tr.of (atI xs n):=rfl
theorem ev_ixoS:ixo1 (k+1) (sl::ρ) y=ixo1 k ρ y:=rfl
theorem al_ex {α:Type} {t:Tr α} {P:α→Prop} (h:Al t 0 P):∃ a,t=.ret a∧P a:=by
  have h':=h.out
  cases t with
  | ret a=>exact ⟨a,rfl,h'⟩
  | draw w k=>exact h'.elim
  | fail=>exact h'.elim
theorem al_eq {α:Type} {t:Tr α} {a:α} (h:Al t 0 fun b=>b=a):t=.ret a:=by
  obtain ⟨b,e,rfl⟩:=al_ex h
  exact e
theorem al_of {α:Type} {t:Tr α} {a:α} {P:α→Prop} {N:Nat} (h:t=.ret a) (hp:P a):Al t N P:=by rw [h]; exact al_ret hp
theorem for_all2 {s:List Sl→Tr Ou} {g:PyData→List Sl→Option (List Sl)} {n:Nat} {full:List PyData} (I:List PyData→List Sl→Prop) {Q:Ou→Prop} (ht:∀ pre x post ρ,full=pre++x::post→I pre ρ→∃ ρ1,g x ρ=some ρ1∧(s ρ1).all n fun o=>∃ ρ2,o=.next ρ2∧I (pre++[x]) ρ2) (hq:∀ ρ,I full ρ→Q (.next ρ)) :
    ∀ {xs pre:List PyData} {ρ:List Sl},full=pre++xs→I pre ρ→(forL g s xs ρ).all (xs.length * n) Q
  | [],pre,ρ,e,h0=>hq ρ (by rw [e,List.append_nil]; exact h0)
  | x::xs,pre,ρ,e0,h0=>by
    obtain ⟨ρ1,e,ha⟩:=ht pre x xs ρ e0 h0
    have en:(x::xs).length * n=n+xs.length * n:=by rw [List.length_cons,Nat.succ_mul]; omega
    rw [en,for_cons,e,Tr.of_some,Tr.ret_bind]
    unfold for2
    refine Tr.all_bind ha fun o ⟨ρ2,eo,h2⟩=>?_
    subst eo
    rw [ev_for3n]
    exact for_all2 I ht hq (by rw [e0,List.append_assoc]; rfl) h2
theorem al_forQ {n N:Nat} {g:PyData→List Sl→Option (List Sl)} {s:List Sl→Tr Ou} {xs:List PyData} {ρ:List Sl} {Q:Ou→Prop} (I:List PyData→List Sl→Prop) (h0:I [] ρ) (hN:xs.length * n≤N) (ht:∀ pre x post ρ,xs=pre++x::post→I pre ρ→∃ ρ1,g x ρ=some ρ1∧Al (s ρ1) n fun o=>∃ ρ2,o=.next ρ2∧I (pre++[x]) ρ2) (hq:∀ ρ,I xs ρ→Q (.next ρ)):Al (forL g s xs ρ) N Q :=
  .of (Tr.all_mono (for_all2 (full:=xs) I (fun pre x post ρ e h=>let ⟨ρ1,e,a⟩:=ht pre x post ρ e h; ⟨ρ1,e,a.out⟩) hq (pre:=[]) rfl h0) hN fun _ h=>h)
theorem for_find {g:PyData→List Sl→Option (List Sl)} {s:List Sl→Tr Ou} {f:PyData→Option Re} (I:List Sl→Prop) :
    ∀ {xs:List PyData} {ρ:List Sl},(∀ x∈xs,∀ ρ,I ρ→∃ ρ1,g x ρ=some ρ1∧((∃ r,f x=some r∧s ρ1=.ret (.ret r))∨(f x=none∧∃ ρ2,s ρ1=.ret (.next ρ2)∧I ρ2)))→I ρ →
      (∃ r,xs.findSome? f=some r∧forL g s xs ρ=.ret (.ret r))∨(xs.findSome? f=none∧∃ ρ2,forL g s xs ρ=.ret (.next ρ2)∧I ρ2)
  | [],ρ,_,h0=>.inr ⟨rfl,ρ,rfl,h0⟩
  | x::xs,ρ,h,h0=>by
    obtain ⟨ρ1,e,hx⟩:=h x (by simp) ρ h0
    rw [for_cons,e,Tr.of_some,Tr.ret_bind]
    unfold for2
    rcases hx with ⟨r,e1,e2⟩ | ⟨e1,ρ2,e2,h2⟩
    · exact .inl ⟨r,by simp [e1],by rw [e2,Tr.ret_bind]; rfl⟩
    · rw [e2,Tr.ret_bind,ev_for3n]
      rcases for_find I (fun y hy=>h y (List.mem_cons_of_mem _ hy)) h2 with ⟨r,q1,q2⟩ | ⟨q1,ρ3,q2,q3⟩
      · exact .inl ⟨r,by simp [e1,q1],q2⟩
      · exact .inr ⟨by simp [e1,q1],ρ3,q2,q3⟩
theorem rngL_mid {lo hi:Int} {pre post:List PyData} {x:PyData} (h:rngL lo hi=pre++x::post):x=.int (lo+pre.length)∧(pre.length:Int) < hi - lo:=by
  have h1:(rngL lo hi)[pre.length]?=some x:=by rw [h]; simp
  have hl:pre.length < (rngL lo hi).length:=(List.getElem?_eq_some_iff.mp h1).1
  rw [rngL_len] at hl
  unfold rngL rangeI at h1
  rw [List.map_map,List.getElem?_map,List.getElem?_range (by omega)] at h1
  refine ⟨?_,by omega⟩
  cases h1
  rfl
theorem rngR_mid {lo hi:Int} {pre post:List PyData} {x:PyData} (h:(rngL lo hi).reverse=pre++x::post):x=.int (hi - 1 - pre.length)∧(pre.length:Int) < hi - lo:=by
  have h1:((rngL lo hi).reverse)[pre.length]?=some x:=by rw [h]; simp
  have hl:pre.length < ((rngL lo hi).reverse).length:=(List.getElem?_eq_some_iff.mp h1).1
  rw [List.length_reverse,rngL_len] at hl
  rw [List.getElem?_reverse (by rw [rngL_len]; exact hl),rngL_len] at h1
  unfold rngL rangeI at h1
  rw [List.map_map,List.getElem?_map,List.getElem?_range (by omega)] at h1
  refine ⟨?_,by omega⟩
  cases h1
  show PyData.int (lo+(((hi - lo).toNat - 1 - pre.length:Nat):Int))=_
  congr 1
  omega
theorem rngL_mem {lo hi:Int} {x:PyData} (h:x∈rngL lo hi):∃ z:Int,x=.int z∧lo≤z∧z < hi:=by
  unfold rngL at h
  obtain ⟨z,hz,rfl⟩:=List.mem_map.mp h
  have:=rangeI_mem hz
  exact ⟨z,rfl,by omega,by omega⟩
theorem mapT_rng {h:PyData→Tr PyData} {f:Int→PyData} {lo hi:Int} (hx:∀ z:Int,lo≤z→z < hi→h (.int z)=.ret (f z)):mapT h (rngL lo hi)=.ret ((rangeI lo (hi - lo).toNat).map f):=by
  have key:∀ l:List Int,(∀ z∈l,lo≤z∧z < hi)→mapT h (l.map PyData.int)=.ret (l.map f):=by
    intro l
    induction l with
    | nil=>intro _; rfl
    | cons z l ih =>
      intro hz
      have hh:=hz z (by simp)
      rw [List.map_cons,mapT,hx z hh.1 hh.2,Tr.ret_bind,ih fun y hy=>hz y (List.mem_cons_of_mem _ hy)]
      rfl
  unfold rngL
  refine key _ fun z hz=>?_
  have:=rangeI_mem hz
  omega
theorem enum_mid {xs:List PyData} {pre post:List PyData} {x:PyData} (h:enumD xs=pre++x::post):∃ y,xs[pre.length]?=some y∧x=.tuple [.int pre.length,y]:=by
  have h1:(enumD xs)[pre.length]?=some x:=by rw [h]; simp
  unfold enumD at h1
  rw [List.getElem?_zipWith] at h1
  cases hx:xs[pre.length]? with
  | none=>rw [hx] at h1; simp at h1
  | some y =>
    have hl:pre.length < xs.length:=(List.getElem?_eq_some_iff.mp hx).1
    rw [hx,List.getElem?_range hl] at h1
    simp at h1
    exact ⟨y,rfl,h1.symm⟩
theorem enumD_len (xs:List PyData):(enumD xs).length=xs.length:=by unfold enumD; simp
end L2
set_option Elab.async false
set_option linter.all false
set_option maxRecDepth 100000
namespace Tw
open PySem L2
noncomputable def bst (g:Int→Int) (top:Int):Nat→Int×Int
  | 0=>(g top,top)
  | n+1=>if (bst g top n).1 < g (top - ((n+1:Nat):Int)) then bst g top n else (g (top - ((n+1:Nat):Int)),top - ((n+1:Nat):Int))
theorem bst_lvl (g:Int→Int) (top:Int):∀ n:Nat,top - n≤(bst g top n).2∧(bst g top n).2≤top∧g (bst g top n).2=(bst g top n).1
  | 0=>by unfold bst; simp
  | n+1=>by
    have ih:=bst_lvl g top n
    unfold bst
    split
    · exact ⟨by omega,ih.2.1,ih.2.2⟩
    · exact ⟨Int.le_refl _,by omega,rfl⟩
noncomputable def pck (g:Int→Int) (top K x:Int):Int×Int :=
  match (top - x).toNat with
  | 0=>(g x,x)
  | n+1=>if K+(bst g top n).1 < g x then (K+(bst g top n).1,(bst g top n).2) else (g x,x)
noncomputable def cst (g:Int→Int) (top K P x:Int):Int:=(pck g top K x).1 - P * x
theorem pck_top (g:Int→Int) (top K:Int):pck g top K top=(g top,top):=by
  unfold pck
  rw [Int.sub_self]
  rfl
theorem pck_at (g:Int→Int) (top K:Int) (n:Nat):pck g top K (top - ((n+1:Nat):Int))=if K+(bst g top n).1 < g (top - ((n+1:Nat):Int)) then (K+(bst g top n).1,(bst g top n).2) else (g (top - ((n+1:Nat):Int)),top - ((n+1:Nat):Int)):=by
  unfold pck
  have e:(top - (top - ((n+1:Nat):Int))).toNat=n+1:=by omega
  rw [e]
theorem pck_is {g:Int→Int} {top K x:Int} (hx:x≤top):x≤(pck g top K x).2∧(pck g top K x).2≤top∧(((pck g top K x).2=x∧(pck g top K x).1=g x)∨(x < (pck g top K x).2∧(pck g top K x).1=K+g (pck g top K x).2∧(pck g top K x).1 < g x)):=by
  by_cases ht:x=top
  · subst ht
    rw [pck_top]
    exact ⟨Int.le_refl _,Int.le_refl _,.inl ⟨rfl,rfl⟩⟩
  · obtain ⟨n,hn⟩:∃ n:Nat,x=top - ((n+1:Nat):Int):=⟨(top - x - 1).toNat,by omega⟩
    subst hn
    rw [pck_at]
    have hb:=bst_lvl g top n
    split
    · rename_i hc
      exact ⟨by dsimp only; omega,hb.2.1,.inr ⟨by dsimp only; omega,by dsimp only; rw [hb.2.2],hc⟩⟩
    · exact ⟨Int.le_refl _,by dsimp only; omega,.inl ⟨rfl,rfl⟩⟩
theorem pck_nb {g:Int→Int} {top K x:Int} {b:Nat} (hx:x≤top) (hg:∀ y,x≤y→y≤top→nb b (g y)) (hK:nb b K):nb (b+1) (pck g top K x).1:=by
  obtain ⟨h1,h2,h3⟩:=pck_is (g:=g) (K:=K) hx
  rcases h3 with ⟨e1,e2⟩ | ⟨e1,e2,e3⟩
  · rw [e2]
    exact nb_mono (hg x (Int.le_refl _) hx) (by omega)
  · rw [e2]
    exact nb_mono (nb_add hK (hg _ h1 h2)) (by omega)
structure DayB (l:List Int):Prop where
  len:l.length≤16
  nb:∀ w∈l,nb 30 w
  w0:∀ w∈l,0≤w
  pos:0 < l.sum
theorem day_nb {s:Shp} (h:s.Ok) {y f:Int} (hy:nb 20 y) (hf:nb 40 f):nb 100 (s.day y f):=by
  have hd:nb 7 s.depth:=by have:=h.t0; have:=h.d0; have:=h.td; exact nb_of (by show -128 < _; omega) (by show _ < 128; omega)
  have hn:nb 50 (s.nx y f):=by
    unfold Shp.nx maxI
    exact nb_ite (nb_mono (nb_neg hd) (by decide)) (nb_mono (nb_sub hy hf) (by decide))
  unfold Shp.day
  refine nb_mono (nb_add (nb_ite (k:=95) (nb_mul h.keep hn) (nb_mul h.lack (nb_neg hn))) (nb_mul h.lost (nb_sub hn (nb_sub hy hf)))) (by decide)
noncomputable def Bd (s:Shp) (b:Nat) (f:Int→Int):Prop:=∀ x,-s.depth≤x→x≤s.top→nb b (f x)
theorem wg_nb {s:Shp} (h:s.Ok) {day:List Int} (hd:DayB day) {y:Int} (y1:-s.depth≤y) (y2:y≤s.top) {A:Int→Int} {b:Nat} (hA:Bd s b A) {sc:Int} (hs:nb b sc):nb (b+150) (s.wg day y A sc):=by
  have:=h.t0
  have:=h.d0
  have:=h.td
  have hlen:=hd.len
  have hy:nb 20 y:=nb_of (by show -1048576 < _; omega) (by show _ < 1048576; omega)
  have key:∀ (l:List Int) (k:Nat),(∀ w∈l,nb 30 w)→k+l.length≤16→nb (30+(b+101)+l.length) (ws (fun f=>sc * s.day y f+A (s.nx y f)) k l):=by
    intro l
    induction l with
    | nil=>intro k _ _; unfold ws nb; exact Nat.pos_of_ne_zero (by simp)
    | cons w l ih =>
      intro k hw hk
      rw [List.length_cons] at hk ⊢
      have hf:nb 40 (k:Int):=nb_of (by show -1099511627776 < _; omega) (by show _ < 1099511627776; omega)
      have b1:=nb_add (nb_mul hs (day_nb h hy hf)) (hA _ (nx_ge s y k) (nx_le h y2 (show (0:Int)≤k by omega)))
      have h1:=nb_mul (hw w (by simp)) b1
      have h2:=ih (k+1) (fun v hv=>hw v (List.mem_cons_of_mem _ hv)) (by omega)
      unfold ws
      exact nb_mono (nb_add h1 h2) (by omega)
  exact nb_mono (key day 0 hd.nb (by omega)) (by omega)
theorem sum_nbD {day:List Int} (hd:DayB day):nb 46 day.sum:=nb_mono (sum_nb hd.nb) (by have:=hd.len; omega)
theorem sm_nb {s:Shp} (h:s.Ok) {day:List Int} (hd:DayB day) {A:Int→Int} {b:Nat} (hA:Bd s b A) {sc:Int} (hs:nb b sc):Bd s (b+151) (s.sm day A sc):=fun y y1 y2=>by
  have:=h.t0
  have:=h.d0
  have:=h.td
  have hy:nb 20 y:=nb_of (by show -1048576 < _; omega) (by show _ < 1048576; omega)
  unfold Shp.sm
  exact nb_mono (nb_add (nb_mul (nb_mul (nb_mul hs (sum_nbD hd)) h.piece) hy) (wg_nb h hd y1 y2 hA hs)) (by omega)
noncomputable def Shp.bk (s:Shp):List (List Int)→(Int→Int)×Int
  | []=>(s.fin,1)
  | day::rest=>(cst (s.sm day (s.bk rest).1 (s.bk rest).2) s.top ((s.bk rest).2 * day.sum * s.start) ((s.bk rest).2 * day.sum * s.piece),(s.bk rest).2 * day.sum)
theorem bk_sc {s:Shp}:∀ {fs:List (List Int)},(∀ l∈fs,DayB l)→0 < (s.bk fs).2
  | [],_=>by show (0:Int) < 1; decide
  | day::rest,h=>Int.mul_pos (bk_sc fun l hl=>h l (List.mem_cons_of_mem _ hl)) (h day (by simp)).pos
theorem fin_nb {s:Shp} (h:s.Ok):Bd s 100 s.fin:=fun x h1 h2=>by
  have:=h.t0
  have:=h.d0
  have:=h.td
  have hx:nb 20 x:=nb_of (by show -1048576 < _; omega) (by show _ < 1048576; omega)
  unfold Shp.fin
  exact nb_mono (nb_ite (k:=65) (nb_mul (nb_neg h.back) hx) (nb_mul h.late (nb_neg hx))) (by decide)
theorem cst_nb {s:Shp} (h:s.Ok) {g:Int→Int} {b:Nat} (hg:Bd s b g) {sc:Int} (hs:nb b sc):Bd s (b+112) (cst g s.top (sc * s.start) (sc * s.piece)):=fun x h1 h2=>by
  have:=h.t0
  have:=h.d0
  have:=h.td
  have hx:nb 20 x:=nb_of (by show -1048576 < _; omega) (by show _ < 1048576; omega)
  unfold cst
  have k1:=pck_nb (b:=b+45) (K:=sc * s.start) h2 (fun y y1 y2=>nb_mono (hg y (by omega) y2) (by omega)) (nb_mul hs h.start)
  exact nb_mono (nb_sub k1 (nb_mul (nb_mul hs h.piece) hx)) (by omega)
theorem bk_nb {s:Shp} (h:s.Ok):∀ {fs:List (List Int)},(∀ l∈fs,DayB l)→Bd s (100+300 * fs.length) (s.bk fs).1∧nb (100+300 * fs.length) (s.bk fs).2
  | [],_=>⟨fin_nb h,nb_of (by show -(2 ^ 100:Nat) < (1:Int); omega) (by show (1:Int) < (2 ^ 100:Nat); omega)⟩
  | day::rest,hf=>by
    obtain ⟨i1,i2⟩:=bk_nb h (fs:=rest) fun l hl=>hf l (List.mem_cons_of_mem _ hl)
    have hd:=hf day (by simp)
    have k1:=sm_nb h hd i1 i2
    have k2:=nb_mul i2 (sum_nbD hd)
    rw [List.length_cons]
    refine ⟨fun x h1 h2=>nb_mono (cst_nb h (b:=100+300 * rest.length+151) k1 (nb_mono k2 (by omega)) x h1 h2) (by omega),nb_mono k2 (by omega)⟩
end Tw
set_option Elab.async false
set_option linter.all false
set_option maxRecDepth 100000
namespace Tw
open PySem L2
noncomputable abbrev rng (lo hi:Int):List Int:=rangeI lo (hi - lo).toNat
variable {α:Type}
noncomputable def f3 (lo a b c:Int) (t:Int→Int→Int→Option α):Option α:=(rng lo a).findSome? fun u=>(rng (u+1) b).findSome? fun v=>(rng (v+1) c).findSome? fun w=>t u v w
end Tw
set_option Elab.async false
set_option linter.all false
set_option maxRecDepth 100000
namespace Tw
open PySem L2
structure DayOk (most:Nat) (ls:List Int):Prop where
  len:ls.length≤most
  pos:∃ n∈ls,n > 0
  le:∀ n∈ls,0≤n∧n≤1001
theorem DayOk.mono {m n:Nat} {ls:List Int} (h:DayOk m ls) (hm:m≤n):DayOk n ls:=⟨Nat.le_trans h.len hm,h.pos,h.le⟩
theorem sum_ge {ls:List Int} (h:∀ n∈ls,0≤n):∀ n∈ls,n≤ls.sum:=by
  induction ls with
  | nil=>intro n hn; cases hn
  | cons a l ih =>
    intro n hn
    have h0:0≤l.sum:=by
      clear ih hn
      have h':∀ n∈l,0≤n:=fun m hm=>h m (List.mem_cons_of_mem _ hm)
      clear h
      induction l with
      | nil=>decide
      | cons b l ih2 =>
        rw [List.sum_cons]
        have:=h' b (by simp)
        have:=ih2 fun m hm=>h' m (List.mem_cons_of_mem _ hm)
        omega
    have ha:=h a (by simp)
    rw [List.sum_cons]
    rcases List.mem_cons.mp hn with rfl | hn
    · omega
    · have:=ih (fun m hm=>h m (List.mem_cons_of_mem _ hm)) n hn
      omega
theorem DayOk.B {m:Nat} {ls:List Int} (h:DayOk m ls) (hm:m≤16):DayB ls:=by
  refine ⟨Nat.le_trans h.len hm,fun w hw=>?_,fun w hw=>(h.le w hw).1,?_⟩
  · have:=h.le w hw
    exact nb_of (by show -1073741824 < _; omega) (by show _ < 1073741824; omega)
  · obtain ⟨n,hn,hp⟩:=h.pos
    have:=sum_ge (fun n hn=>(h.le n hn).1) n hn
    omega
structure Shp.Dr (s:Shp):Prop where
  t0:0≤s.top
  d0:0≤s.depth
  td:s.top+s.depth≤39
  p:∀ n∈[s.start,s.piece,s.keep,s.lack,s.lost,s.back,s.late],0≤n∧n≤1000000
theorem Shp.Dr.ok {s:Shp} (h:s.Dr):s.Ok:=by
  have hp:=h.p
  simp only [List.mem_cons,List.not_mem_nil,or_false,forall_eq_or_imp,forall_eq] at hp
  obtain ⟨h1,h2,h3,h4,h5,h6,h7⟩:=hp
  have k:∀ n:Int,0≤n∧n≤1000000→nb 45 n:=fun n hn=>nb_of (by show -35184372088832 < _; omega) (by show _ < 35184372088832; omega)
  exact ⟨h.t0,h.d0,by have:=h.td; omega,h1.1,k _ h1,k _ h2,k _ h3,k _ h4,k _ h5,k _ h6,k _ h7⟩
theorem shp_of {a b c d e f g h i:Int}:PyData.tuple [.int a,.int b,.int c,.int d,.int e,.int f,.int g,.int h,.int i]=(Shp.mk a b c d e f g h i).d:=by
  unfold Shp.d
  rfl
theorem it_tI (l:List Int):it1 (tI l)=.ret (l.map PyData.int):=rfl
theorem sum_tI (l:List Int):cb1 sumD [tI l]=.ret (.int l.sum):=ev_sumT l
theorem len_fD (l:List (List Int)):cb1 lenD [fD l]=.ret (.int l.length):=by
  show Tr.ret (PyData.int ((l.map tI).length:Int))=_
  rw [List.length_map]
end Tw
set_option Elab.async false
set_option linter.all false
set_option maxRecDepth 100000
set_option exponentiation.threshold 9000
namespace Tw
open PySem L2
structure Rp (d:PyData) (k n:Nat):Prop where
  hd:d.hasDict=false
  sh:d.showable=true
  dp:d.depth≤k
  ln:d.shown.length≤n
theorem rp_ok {d:PyData} {k n:Nat} (h:Rp d k n) (hk:k≤32) (hn:n≤10000000):reprOk d=true:=by
  unfold reprOk
  rw [h.hd,h.sh,decide_eq_true (Nat.le_trans h.dp hk),decide_eq_true (Nat.le_trans h.ln (Nat.le_trans hn (by rw [sizeLine_eq]; decide)))]
  rfl
theorem rp_mono {d:PyData} {k n k' n':Nat} (h:Rp d k n) (hk:k≤k') (hn:n≤n'):Rp d k' n':=⟨h.hd,h.sh,Nat.le_trans h.dp hk,Nat.le_trans h.ln hn⟩
theorem rp_bool (b:Bool):Rp (.bool b) 0 10:=by cases b <;> exact ⟨rfl,rfl,Nat.zero_le _,by decide +kernel⟩
theorem rp_int {i:Int} (h:nb 1900 i):Rp (.int i) 0 1901:=by
  have h1:=showableAll_ints [i] fun n hn=>by simp at hn; subst hn; exact h
  have h2:=(shownAll_ints [i] fun n hn=>by simp at hn; subst hn; exact h).1
  refine ⟨rfl,?_,Nat.zero_le _,?_⟩
  · simp only [List.map_cons,List.map_nil,PyData.showableAll,Bool.and_true] at h1
    exact h1
  · simp only [List.map_cons,List.map_nil,PyData.shownAll,List.sum_cons,List.sum_nil,List.length_cons,List.length_nil] at h2
    omega
theorem rp_all {k n:Nat}:∀ {xs:List PyData},(∀ x∈xs,Rp x k n)→PyData.hasDictAll xs=false∧PyData.showableAll xs=true∧PyData.depthAll xs≤k∧((PyData.shownAll xs).map (·.length)).sum≤xs.length * n∧(PyData.shownAll xs).length=xs.length
  | [],_=>⟨rfl,rfl,Nat.zero_le _,by simp [PyData.shownAll],rfl⟩
  | x::xs,h=>by
    obtain ⟨h1,h2,h3,h4,h5⟩:=rp_all (xs:=xs) fun y hy=>h y (List.mem_cons_of_mem _ hy)
    have hx:=h x (by simp)
    refine ⟨?_,?_,?_,?_,?_⟩
    · rw [PyData.hasDictAll,hx.hd,h1]; rfl
    · rw [PyData.showableAll,hx.sh,h2]; rfl
    · rw [PyData.depthAll]; have:=hx.dp; omega
    · rw [PyData.shownAll,List.map_cons,List.sum_cons,List.length_cons,Nat.succ_mul]; have:=hx.ln; omega
    · rw [PyData.shownAll,List.length_cons,List.length_cons,h5]
theorem rp_tup {xs:List PyData} {k n:Nat} (h:∀ x∈xs,Rp x k n):Rp (.tuple xs) (k+1) (xs.length * n+2 * xs.length+10):=by
  obtain ⟨h1,h2,h3,h4,h5⟩:=rp_all h
  have c3:=tupleText_len_le (PyData.shownAll xs)
  refine ⟨?_,?_,?_,?_⟩
  · rw [PyData.hasDict,h1]
  · rw [PyData.showable,h2]
  · rw [PyData.depth]; omega
  · rw [PyData.shown]; omega
theorem rp_tI {l:List Int} {m:Nat} (h:∀ n∈l,nb 1900 n) (hl:l.length≤m):Rp (tI l) 1 (m * 1903+10):=by
  refine rp_mono (rp_tup (k:=0) (n:=1901) fun x hx=>?_) (Nat.le_refl _) ?_
  · obtain ⟨i,hi,rfl⟩:=List.mem_map.mp hx
    exact rp_int (h i hi)
  · rw [List.length_map]
    have:l.length * 1903≤m * 1903:=Nat.mul_le_mul_right _ hl
    omega
theorem rp_shp {s:Shp} (h:s.Ok):Rp s.d 1 20000:=by
  have e:s.d=tI s.l:=by unfold Shp.d; rfl
  rw [e]
  refine rp_mono (rp_tI (m:=9) (fun n hn=>?_) (Nat.le_refl _)) (Nat.le_refl _) (by decide)
  have:=h.t0
  have:=h.d0
  have:=h.td
  unfold Shp.l at hn
  simp only [List.mem_cons,List.not_mem_nil,or_false] at hn
  have k:∀ n:Int,nb 45 n→nb 1900 n:=fun n hn=>nb_mono hn (by decide)
  have k1:nb 1900 s.top:=k _ (nb_of (by show -35184372088832 < _; omega) (by show _ < 35184372088832; omega))
  have k2:nb 1900 s.depth:=k _ (nb_of (by show -35184372088832 < _; omega) (by show _ < 35184372088832; omega))
  rcases hn with rfl | rfl | rfl | rfl | rfl | rfl | rfl | rfl | rfl
  · exact k1
  · exact k2
  · exact k _ h.start
  · exact k _ h.piece
  · exact k _ h.keep
  · exact k _ h.lack
  · exact k _ h.lost
  · exact k _ h.back
  · exact k _ h.late
theorem rp_day {l:List Int} (h:DayB l):Rp (tI l) 1 40000:=rp_mono (rp_tI (m:=16) (fun n hn=>nb_mono (h.nb n hn) (by decide)) h.len) (Nat.le_refl _) (by decide)
theorem rp_fal {fs:List (List Int)} (h:∀ l∈fs,DayB l) (hl:fs.length≤10):Rp (fD fs) 2 500000:=by
  refine rp_mono (rp_tup (k:=1) (n:=40000) fun x hx=>?_) (Nat.le_refl _) ?_
  · obtain ⟨l,hm,rfl⟩:=List.mem_map.mp hx
    exact rp_day (h l hm)
  · rw [List.length_map]
    have:fs.length * 40000≤10 * 40000:=Nat.mul_le_mul_right _ hl
    omega
theorem str_self (x:Str):(x == x)=true:=by simp
end Tw
set_option Elab.async false
set_option linter.all false
set_option maxRecDepth 100000
set_option exponentiation.threshold 9000
namespace Tw
open PySem L2
theorem euclid {p:List Sl→Tr Bool} {s:List Sl→Tr Ou} {E:Nat→Nat→List Sl} (hp:∀ a b:Nat,p (E a b)=.ret (decide (b≠0))) (hs:∀ a b:Nat,b≠0→s (E a b)=.ret (.next (E b (a % b)))) :
    ∀ n k a b:Nat,b < 2 ^ n→whL p s (2 * n+1+k) (E a b)=.ret (.next (E (Nat.gcd a b) 0)):=by
  have stop:∀ k a:Nat,whL p s (k+1) (E a 0)=.ret (.next (E a 0)):=fun k a=>by
    rw [whL,hp,Tr.ret_bind]
    rfl
  have go:∀ k a b:Nat,b≠0→whL p s (k+1) (E a b)=whL p s k (E b (a % b)):=fun k a b hb=>by
    rw [whL,hp,Tr.ret_bind,decide_eq_true hb,if_pos rfl,hs a b hb,Tr.ret_bind]
  intro n
  induction n with
  | zero =>
    intro k a b hb
    have e:b=0:=by simp at hb; exact hb
    subst e
    rw [Nat.gcd_zero_right,Nat.add_comm (2 * 0+1) k]
    exact stop k a
  | succ n ih =>
    intro k a b hb
    by_cases h0:b=0
    · subst h0
      have e:2 * (n+1)+1+k=(2 * (n+1)+k)+1:=by omega
      rw [Nat.gcd_zero_right,e]
      exact stop _ a
    · have e:2 * (n+1)+1+k=(2 * n+2+k)+1:=by omega
      rw [e,go _ a b h0]
      have hr:a % b < b:=Nat.mod_lt _ (Nat.pos_of_ne_zero h0)
      by_cases h1:a % b=0
      · rw [h1]
        have e2:2 * n+2+k=(2 * n+1+k)+1:=by omega
        have eg:Nat.gcd a b=b:=by rw [Nat.gcd_comm,Nat.gcd_rec,h1,Nat.gcd_zero_left]
        rw [e2,eg]
        exact stop _ b
      · have e2:2 * n+2+k=(2 * n+1+k)+1:=by omega
        rw [e2,go _ b (a % b) h1]
        have hlt:b % (a % b) < 2 ^ n:=by
          have h2:b % (a % b) < a % b:=Nat.mod_lt _ (Nat.pos_of_ne_zero h1)
          have h3:b % (a % b)+a % b≤b:=by
            have h4:=Nat.div_add_mod b (a % b)
            have h5:1≤b / (a % b):=(Nat.le_div_iff_mul_le (Nat.pos_of_ne_zero h1)).mpr (by omega)
            have h6:a % b≤(a % b) * (b / (a % b)):=Nat.le_mul_of_pos_right _ h5
            omega
          rw [Nat.pow_succ] at hb
          omega
        rw [ih k (a % b) (b % (a % b)) hlt]
        have eg:Nat.gcd a b=Nat.gcd (a % b) (b % (a % b)):=by
          rw [Nat.gcd_comm a b,Nat.gcd_rec b a,Nat.gcd_rec (a % b) b,Nat.gcd_comm]
        rw [eg]
theorem fmod_nat (a b:Nat):(a:Int).fmod (b:Int)=((a % b:Nat):Int):=by
  rw [Int.fmod_eq_emod_of_nonneg _ (Int.natCast_nonneg b)]
  rfl
theorem absI_eq (n:Int):absI n=(n.natAbs:Int):=by
  unfold absI
  split <;> omega
noncomputable def shD (t b:Int):PyData:=.tuple [.int (Gc.lowT t b),.int (Gc.lowB t b)]
theorem low_nb {t b:Int} {k l:Nat} (ht:nb k t) (hb:nb l b) (h0:b≠0):nb k (Gc.lowT t b)∧nb l (Gc.lowB t b):=by
  obtain ⟨h1,h2⟩:=Gc.low_le (t:=t) h0
  exact ⟨Nat.lt_of_le_of_lt h1 ht,Nat.lt_of_le_of_lt h2 hb⟩
theorem den_nb {t b:Int} {l:Nat} (hb:nb l b) (h0:b≠0):nb l (Gc.den t b):=by
  unfold nb
  rw [Gc.den_abs]
  exact Nat.lt_of_le_of_lt (Nat.gcd_le_right _ (by omega)) hb
noncomputable def pr (p:Int×Int):List Int:=[p.1,p.2]
end Tw
set_option Elab.async false
set_option linter.all false
set_option maxRecDepth 100000
namespace Tw
open PySem L2
end Tw
set_option Elab.async false
set_option linter.all false
set_option maxRecDepth 100000
namespace Tw
open PySem L2
noncomputable def prd:List (List Int)→Int
  | []=>1
  | d::fs=>prd fs * d.sum
theorem prd_bk (s:Shp):∀ fs:List (List Int),prd fs=(s.bk fs).2
  | []=>rfl
  | d::fs=>by
    show prd fs * d.sum=(s.bk fs).2 * d.sum
    rw [prd_bk s fs]
noncomputable def Shp.RlOk (s:Shp) (g:Int→Int):Prop:=∀ x,-s.depth≤x→x≤s.top→x≤g x∧g x≤s.top
theorem ord_nb {s:Shp} (h:s.Ok) {x y:Int} (hx:nb 20 x) (hy:nb 20 y):nb 100 (s.ord x y):=by
  unfold Shp.ord
  exact nb_ite (show (0:Int).natAbs < 2 ^ 100 from Nat.pos_of_ne_zero (by simp)) (nb_mono (nb_add h.start (nb_mul h.piece (nb_sub hy hx))) (by decide))
theorem st_nb {s:Shp} (h:s.Ok) {x:Int} (x1:-s.depth≤x) (x2:x≤s.top):nb 20 x:=by
  have:=h.t0
  have:=h.d0
  have:=h.td
  exact nb_of (by show -1048576 < _; omega) (by show _ < 1048576; omega)
end Tw
set_option Elab.async false
set_option linter.all false
set_option maxRecDepth 100000
namespace Tw
open PySem L2
end Tw
set_option Elab.async false
set_option linter.all false
set_option maxRecDepth 100000
namespace L2
open PySem PySem.Spec PyProof.Rows
theorem for_chk' {g:PyData→List Sl→Option (List Sl)} {s:List Sl→Tr Ou} {r:Re} {full:List PyData} (B:List PyData→PyData→Prop) (I:List PyData→List Sl→Prop)
    (ht:∀ pre x post ρ,full=pre++x::post→I pre ρ→∃ ρ1,g x ρ=some ρ1∧((B pre x∧s ρ1=.ret (.ret r))∨(¬ B pre x∧∃ ρ2,s ρ1=.ret (.next ρ2)∧I (pre++[x]) ρ2))) :
    ∀ {xs pre:List PyData} {ρ:List Sl},full=pre++xs→I pre ρ→(∀ p x q,pre=p++x::q→¬ B p x) →
      ((∃ p x q,full=p++x::q∧B p x)∧forL g s xs ρ=.ret (.ret r))∨((∀ p x q,full=p++x::q→¬ B p x)∧∃ ρ2,forL g s xs ρ=.ret (.next ρ2)∧I full ρ2)
  | [],pre,ρ,e,h0,hn=>by
    rw [List.append_nil] at e
    subst e
    exact .inr ⟨hn,ρ,rfl,h0⟩
  | x::xs,pre,ρ,e,h0,hn=>by
    obtain ⟨ρ1,e1,hx⟩:=ht pre x xs ρ e h0
    rw [for_cons,e1,Tr.of_some,Tr.ret_bind]
    unfold for2
    rcases hx with ⟨hb,e2⟩ | ⟨hb,ρ2,e2,h2⟩
    · exact .inl ⟨⟨pre,x,xs,e,hb⟩,by rw [e2,Tr.ret_bind]; rfl⟩
    · rw [e2,Tr.ret_bind,ev_for3n]
      refine for_chk' B I ht (xs:=xs) (pre:=pre++[x]) (by rw [e,List.append_assoc]; rfl) h2 fun p y q hp=>?_
      rcases List.append_eq_append_iff.mp hp with ⟨a,h1,h2'⟩ | ⟨a,h1,h2'⟩
      · cases a with
        | nil =>
          rw [List.nil_append] at h2'
          rw [List.append_nil] at h1
          cases h2'
          subst h1
          exact hb
        | cons z a =>
          simp at h2'
      · cases a with
        | nil =>
          rw [List.nil_append] at h2'
          rw [List.append_nil] at h1
          cases h2'
          subst h1
          exact hb
        | cons z a =>
          rw [List.cons_append] at h2'
          cases h2'
          exact hn p y a h1
theorem for_chk {g:PyData→List Sl→Option (List Sl)} {s:List Sl→Tr Ou} {r:Re} {xs:List PyData} {ρ:List Sl} (B:List PyData→PyData→Prop) (I:List PyData→List Sl→Prop) (h0:I [] ρ)
    (ht:∀ pre x post ρ,xs=pre++x::post→I pre ρ→∃ ρ1,g x ρ=some ρ1∧((B pre x∧s ρ1=.ret (.ret r))∨(¬ B pre x∧∃ ρ2,s ρ1=.ret (.next ρ2)∧I (pre++[x]) ρ2))) :
      ((∃ p x q,xs=p++x::q∧B p x)∧forL g s xs ρ=.ret (.ret r))∨((∀ p x q,xs=p++x::q→¬ B p x)∧∃ ρ2,forL g s xs ρ=.ret (.next ρ2)∧I xs ρ2) :=
  for_chk' B I ht (xs:=xs) (pre:=[]) rfl h0 fun p x q hp=>by
    have:=congrArg List.length hp
    simp at this
end L2
set_option Elab.async false
set_option linter.all false
set_option maxRecDepth 100000
namespace L2
open PySem PySem.Spec PyProof.Rows
structure Pen4 (K:PySem.W.Frag) (H:Hp) (p c:Addr) (ns:List Int) (m:Nat):Prop where
  ex:∃ (k:Nat) (left:Int),H p=some (.dK (penK c k left))∧k≤m∧0≤left
  cells:SqL K H c (ns.map V.int)
  len:ns.length≤63
noncomputable def spDraw4 (K:PySem.W.Frag):Sp:=fun vs H Q _=>∃ (p c:Addr) (ns:List Int) (m:Nat) (most:Int),vs=[.ref p,.int most]∧Pen4 K H p c ns m∧m≤500000∧0 < most∧most < 1073741824 ∧
  ∀ (r:Int) (H':Hp),0≤r→r < most→Pen4 K H' p c ns (m+1)→Kept p H H'→Q (.int r) H'
noncomputable def spPen4 (K:PySem.W.Frag):Sp:=fun vs H Q _=>∃ (a:Addr) (ns:List Int),vs=[.ref a]∧SqL K H a (ns.map V.int)∧ns.length≤63 ∧
  ∀ (p:Addr) (H':Hp),H p=none→Pen4 K H' p a ns 0→Same H H'→Q (.ref p) H'
noncomputable def PK2 (cn:PySem.W.Frag×Addr×List Int):Pk where
  is:=fun o G m=>∃ (k:Nat) (left:Int),o=.dK (penK cn.2.1 k left)∧k≤m∧0≤left∧SqL cn.1 G cn.2.1 (cn.2.2.map V.int)∧cn.2.2.length≤63
  mono:=fun s ⟨k,left,e,h1,h2,h3,h4⟩=>⟨k,left,e,h1,h2,Same.seq (fun b o h=>s b o h) h3,h4⟩
theorem pkLow {cn:PySem.W.Frag×Addr×List Int}:PkLow (PK2 cn):=⟨fun ⟨_,_,_,_,_,h3,_⟩ _ ⟨k,left,e,h1,h2,_,h4⟩=>⟨k,left,e,h1,h2,h3,h4⟩⟩
theorem pss_ex {ι:Type} {X:Cx} {e:List Stmt} {t:ι→TS} (h:∀ i,PSs X e (t i)):PSs X e (fun D σ H=>∃ i,t i D σ H):=fun pins s σ H D I z=>by
  obtain ⟨i,z⟩:=z
  exact h i pins s σ H D I z
noncomputable def m_draw:List Sl→Tr Re:=fun as=>match as with
  | [.pen,.d (.int most)]=>.draw most fun r=>.ret (.d (.int r))
  | _=>.fail
theorem draw_len {as:List Sl} {m:Nat} {Z:Nat→Re→Prop} (h:(m_draw as).ok m Z):∃ most,as=[.pen,.d (.int most)]:=by
  unfold m_draw at h
  split at h
  · exact ⟨_,rfl⟩
  · exact h.elim
theorem draw1 {P:Program} {w:World} {K:PySem.W.Frag} {c:Addr×List Int} {mg:Str→Option Value} {base:Heap} {x:Str} {k:Nat} {ps:List Str} (hp:ps.length=2) (C:Callee P w K mg base x k ps (spDraw4 K)):ACal (PK2 (K,c)) P w K mg base x k ps m_draw:=by
  refine ⟨?_,fun as m Z h=>by obtain ⟨most,rfl⟩:=draw_len h; exact hp.symm⟩
  obtain ⟨f,fd,F,hm,hk,hb⟩:=C.ex
  refine ⟨f,fd,F.imp fun vs H Q E h=>?_,hm,hk,hb⟩
  obtain ⟨hv,pa,m,G,as,wd,ar,z⟩:=h
  obtain ⟨most,rfl⟩:=draw_len z
  obtain ⟨h1,h2,h3,h4⟩:=z
  cases ar with
  | cons a1 ar =>
    cases ar with
    | cons a2 ar =>
      cases ar
      cases a1
      cases a2 with
      | d d2 =>
        cases d2
        obtain ⟨c,ns⟩:=c
        obtain ⟨o,ho,kk,left,rfl,q1,q2,q3,q4⟩:=wd.pen
        replace q3:SqL K G c (ns.map V.int):=q3
        refine ⟨pa,c,ns,m,most,rfl,⟨⟨kk,left,ho,q1,q2⟩,Same.seq (fun b o h=>wd.sub b o h) q3,q4⟩,by omega,h2,h3,fun r H' r0 r1 P' K'=>?_⟩
        refine h4 r r0 r1 (.int r) G H' ⟨fun _ _ q=>q,fun _ _ q=>.inl q,fun b o e n=>K' b o e n⟩ ⟨fun b o e=>K' b o (wd.sub b o e) (fun z=>by subst z; rw [wd.gpa] at e; cases e),wd.gpa,?_⟩ (.int r)
        obtain ⟨⟨k2,l2,e2,g1,g2⟩,_,_⟩:=P'
        exact ⟨_,e2,k2,l2,rfl,g1,g2,q3,q4⟩
noncomputable def spLaw:PySem.W.Frag→Sp:=fun K vs H Q _=>∃ (a:Addr) (ns:List Int),vs=[.ref a]∧SqL K H a (ns.map V.int)∧ns.length≤63∧∀ H',Q (.bl true) H'
theorem law_start {K:PySem.W.Frag} {D:Ends} {p c:Addr} {ns:List Int} {H:Hp} {σ:St} {s:List Sl→Tr Ou} {n:Nat} (P:Pen4 K H p c ns 0) (hσ:σ.length=n+2) (h1:σ[1]?=some (some (.ref p))) (hrt:∀ H',D.rt (.bl true) H')
    (h:(s (.un::.pen::List.replicate n .un)).ok 0 fun _ o=>o=.ret (.d (.bool true))):∃ cn:Addr×List Int,TAs (PK2 (K,cn)) s D σ H:=by
  obtain ⟨⟨k,l,e,hk,hl⟩,hc,hn⟩:=P
  obtain ⟨G,gs,gp,gc⟩:∃ G:Hp,(∀ b o,G b=some o→H b=some o)∧G p=none∧SqL K G c (ns.map V.int):=by
    rcases hc with (hc | ⟨o,hc⟩) | hc
    · refine ⟨fun b=>if b=c then H c else none,fun b o hb=>?_,?_,.inl (.inl (by simp [hc]))⟩
      · by_cases hbc:b=c
        · subst hbc; simpa using hb
        · simp [hbc] at hb
      · have:p≠c:=ne_of e hc (by intro z; cases z)
        exact if_neg this
    · refine ⟨fun b=>if b=c then H c else none,fun b o hb=>?_,?_,.inl (.inr ⟨o,by simp [hc]⟩)⟩
      · by_cases hbc:b=c
        · subst hbc; simpa using hb
        · simp [hbc] at hb
      · have:p≠c:=ne_of e hc (by intro z; cases z)
        exact if_neg this
    · exact ⟨fun _=>none,fun b o hb=>(by cases hb),rfl,.inr hc⟩
  have key:∀ (i:Nat) (sl:Sl),(Sl.un::.pen::List.replicate n .un)[i]?=some sl→sl=.un∨(i=1∧sl=.pen):=fun i sl hi=>by
    match i with
    | 0=>simp at hi; exact .inl hi.symm
    | 1=>simp at hi; exact .inr ⟨rfl,hi.symm⟩
    | i+2 =>
      simp [List.getElem?_replicate] at hi
      exact .inl hi.2.symm
  refine ⟨(c,ns),p,G,H,0,_,G,⟨⟨gs,gp,?_⟩,.refl,⟨_,e⟩,fun i sl hi=>?_,by simp [hσ],fun i j xs ys _ hi _=>?_⟩,Tr.ok_mono h fun m o ho=>?_⟩
  · exact ⟨_,e,k,l,rfl,hk,hl,gc,hn⟩
  · have hlt:i < σ.length:=by
      have:=(List.getElem?_eq_some_iff.mp hi).1
      simp at this
      omega
    rcases key i sl hi with rfl | ⟨rfl,rfl⟩
    · exact ⟨σ[i],by simp [hlt],.un⟩
    · exact ⟨_,h1,.pen⟩
  · rcases key i _ hi with z | ⟨_,z⟩ <;> cases z
  · subst ho
    intro v G H' s' w' d
    cases (show Dn G v (.bool true) from d)
    exact hrt H'
end L2
set_option Elab.async false
set_option linter.all false
set_option maxRecDepth 100000
namespace My
open PySem PySem.Spec PyProof.Rows L2
noncomputable def top (i:Nat):Stmt:=PySem.Challenge.pw_twomarks_k22_costs_of_a_paper.main.body.getD i (.Pass ⟨0,0,0,0⟩)
noncomputable abbrev s_is_whole:Stmt:=top 4
noncomputable abbrev N_is_whole:List Str:=["thing"]
theorem sc_is_whole:FnScope N_is_whole ["thing"] (defScope s_is_whole):=⟨rfl,rfl,rfl,by decide +kernel,rfl,by decide +kernel,by decide +kernel⟩
noncomputable abbrev s_is_whole_within:Stmt:=top 5
noncomputable abbrev N_is_whole_within:List Str:=["thing","lowest","highest"]
theorem sc_is_whole_within:FnScope N_is_whole_within ["thing","lowest","highest"] (defScope s_is_whole_within):=⟨rfl,rfl,rfl,by decide +kernel,rfl,by decide +kernel,by decide +kernel⟩
noncomputable abbrev s_common_divisor:Stmt:=top 7
noncomputable abbrev N_common_divisor:List Str:=["one","other"]
theorem sc_common_divisor:FnScope N_common_divisor ["one","other"] (defScope s_common_divisor):=⟨rfl,rfl,rfl,by decide +kernel,rfl,by decide +kernel,by decide +kernel⟩
noncomputable abbrev s_is_share:Stmt:=top 8
noncomputable abbrev N_is_share:List Str:=["thing","top","bottom"]
theorem sc_is_share:FnScope N_is_share ["thing"] (defScope s_is_share):=⟨rfl,rfl,rfl,by decide +kernel,rfl,by decide +kernel,by decide +kernel⟩
noncomputable abbrev s_share:Stmt:=top 9
noncomputable abbrev N_share:List Str:=["top","bottom","divisor"]
theorem sc_share:FnScope N_share ["top","bottom"] (defScope s_share):=⟨rfl,rfl,rfl,by decide +kernel,rfl,by decide +kernel,by decide +kernel⟩
noncomputable abbrev s_stocks:Stmt:=top 20
noncomputable abbrev N_stocks:List Str:=["shop"]
theorem sc_stocks:FnScope N_stocks ["shop"] (defScope s_stocks):=⟨rfl,rfl,rfl,by decide +kernel,rfl,by decide +kernel,by decide +kernel⟩
noncomputable abbrev s_is_level:Stmt:=top 21
noncomputable abbrev N_is_level:List Str:=["shop","stock","thing"]
theorem sc_is_level:FnScope N_is_level ["shop","stock","thing"] (defScope s_is_level):=⟨rfl,rfl,rfl,by decide +kernel,rfl,by decide +kernel,by decide +kernel⟩
noncomputable abbrev s_order_cost:Stmt:=top 22
noncomputable abbrev N_order_cost:List Str:=["shop","stock","level"]
theorem sc_order_cost:FnScope N_order_cost ["shop","stock","level"] (defScope s_order_cost):=⟨rfl,rfl,rfl,by decide +kernel,rfl,by decide +kernel,by decide +kernel⟩
noncomputable abbrev s_next_stock:Stmt:=top 23
noncomputable abbrev N_next_stock:List Str:=["shop","level","fall"]
theorem sc_next_stock:FnScope N_next_stock ["shop","level","fall"] (defScope s_next_stock):=⟨rfl,rfl,rfl,by decide +kernel,rfl,by decide +kernel,by decide +kernel⟩
noncomputable abbrev s_day_cost:Stmt:=top 24
noncomputable abbrev N_day_cost:List Str:=["shop","level","fall","stock","sold_never","held"]
theorem sc_day_cost:FnScope N_day_cost ["shop","level","fall"] (defScope s_day_cost):=⟨rfl,rfl,rfl,by decide +kernel,rfl,by decide +kernel,by decide +kernel⟩
noncomputable abbrev s_end_cost:Stmt:=top 25
noncomputable abbrev N_end_cost:List Str:=["shop","stock"]
theorem sc_end_cost:FnScope N_end_cost ["shop","stock"] (defScope s_end_cost):=⟨rfl,rfl,rfl,by decide +kernel,rfl,by decide +kernel,by decide +kernel⟩
noncomputable abbrev s_end_costs:Stmt:=top 27
noncomputable abbrev N_end_costs:List Str:=["shop"]
theorem sc_end_costs:FnScope N_end_costs ["shop"] (defScope s_end_costs):=⟨rfl,rfl,rfl,by decide +kernel,rfl,by decide +kernel,by decide +kernel⟩
noncomputable abbrev s_weighed:Stmt:=top 28
noncomputable abbrev N_weighed:List Str:=["shop","day","level","ahead","scale","total","fall","weight","following"]
theorem sc_weighed:FnScope N_weighed ["shop","day","level","ahead","scale"] (defScope s_weighed):=⟨rfl,rfl,rfl,by decide +kernel,rfl,by decide +kernel,by decide +kernel⟩
noncomputable abbrev s_costs_by:Stmt:=top 29
noncomputable abbrev N_costs_by:List Str:=["shop","day","levels","ahead","scale","own_scale","costs","stock","level"]
theorem sc_costs_by:FnScope N_costs_by ["shop","day","levels","ahead","scale"] (defScope s_costs_by):=⟨rfl,rfl,rfl,by decide +kernel,rfl,by decide +kernel,by decide +kernel⟩
noncomputable abbrev s_is_entry:Stmt:=top 31
noncomputable abbrev N_is_entry:List Str:=["shop","stock","thing","cost","level"]
theorem sc_is_entry:FnScope N_is_entry ["shop","stock","thing"] (defScope s_is_entry):=⟨rfl,rfl,rfl,by decide +kernel,rfl,by decide +kernel,by decide +kernel⟩
noncomputable abbrev s_is_paper_day:Stmt:=top 32
noncomputable abbrev N_is_paper_day:List Str:=["shop","thing","own"]
theorem sc_is_paper_day:FnScope N_is_paper_day ["shop","thing"] (defScope s_is_paper_day):=⟨rfl,rfl,rfl,by decide +kernel,rfl,by decide +kernel,by decide +kernel⟩
noncomputable abbrev s_is_paper:Stmt:=top 33
noncomputable abbrev N_is_paper:List Str:=["shop","falls","thing"]
theorem sc_is_paper:FnScope N_is_paper ["shop","falls","thing"] (defScope s_is_paper):=⟨rfl,rfl,rfl,by decide +kernel,rfl,by decide +kernel,by decide +kernel⟩
noncomputable abbrev s_none_less:Stmt:=top 34
noncomputable abbrev N_none_less:List Str:=["shop","day","costs","ahead","scale","own_scale","behind","stock","cost","level"]
theorem sc_none_less:FnScope N_none_less ["shop","day","costs","ahead","scale"] (defScope s_none_less):=⟨rfl,rfl,rfl,by decide +kernel,rfl,by decide +kernel,by decide +kernel⟩
noncomputable abbrev s_lets:Stmt:=top 35
noncomputable abbrev N_lets:List Str:=["shop","falls","thing","ahead","scale","t","costs","own_scale"]
theorem sc_lets:FnScope N_lets ["shop","falls","thing"] (defScope s_lets):=⟨rfl,rfl,rfl,by decide +kernel,rfl,by decide +kernel,by decide +kernel⟩
noncomputable abbrev s__law_pen:Stmt:=top 37
noncomputable abbrev N__law_pen:List Str:=["_law_script"]
theorem sc__law_pen:FnScope N__law_pen ["_law_script"] (defScope s__law_pen):=⟨rfl,rfl,rfl,by decide +kernel,rfl,by decide +kernel,by decide +kernel⟩
noncomputable abbrev s__law_take:Stmt:=top 38
noncomputable abbrev N__law_take:List Str:=["_law_pen_here","_law_many","_law_found","_law_at","_law_script","_law_cell","_law_number"]
theorem sc__law_take:FnScope N__law_take ["_law_pen_here","_law_many"] (defScope s__law_take):=⟨rfl,rfl,rfl,by decide +kernel,rfl,by decide +kernel,by decide +kernel⟩
noncomputable abbrev s__law_price:Stmt:=top 39
noncomputable abbrev N__law_price:List Str:=["_law_pen_here","_law_way","_law_far"]
theorem sc__law_price:FnScope N__law_price ["_law_pen_here"] (defScope s__law_price):=⟨rfl,rfl,rfl,by decide +kernel,rfl,by decide +kernel,by decide +kernel⟩
noncomputable abbrev s__law_shop:Stmt:=top 40
noncomputable abbrev N__law_shop:List Str:=["_law_pen_here","_law_most","_law_top","_law_depth"]
theorem sc__law_shop:FnScope N__law_shop ["_law_pen_here","_law_most"] (defScope s__law_shop):=⟨rfl,rfl,rfl,by decide +kernel,rfl,by decide +kernel,by decide +kernel⟩
noncomputable abbrev s__law_day:Stmt:=top 41
noncomputable abbrev N__law_day:List Str:=["_law_pen_here","_law_many","_law_day_here","_law_k","_law_way","_law_at"]
theorem sc__law_day:FnScope N__law_day ["_law_pen_here","_law_many"] (defScope s__law_day):=⟨rfl,rfl,rfl,by decide +kernel,rfl,by decide +kernel,by decide +kernel⟩
noncomputable abbrev s__law_rest:Stmt:=top 42
noncomputable abbrev N__law_rest:List Str:=["_law_shop_here","_law_level","_law_fall","_law_there","_law_cost"]
theorem sc__law_rest:FnScope N__law_rest ["_law_shop_here","_law_level","_law_fall"] (defScope s__law_rest):=⟨rfl,rfl,rfl,by decide +kernel,rfl,by decide +kernel,by decide +kernel⟩
noncomputable abbrev s__law_order:Stmt:=top 43
noncomputable abbrev N__law_order:List Str:=["_law_shop_here","_law_stock","_law_level"]
theorem sc__law_order:FnScope N__law_order ["_law_shop_here","_law_stock","_law_level"] (defScope s__law_order):=⟨rfl,rfl,rfl,by decide +kernel,rfl,by decide +kernel,by decide +kernel⟩
noncomputable abbrev s__law_end:Stmt:=top 44
noncomputable abbrev N__law_end:List Str:=["_law_shop_here","_law_stock"]
theorem sc__law_end:FnScope N__law_end ["_law_shop_here","_law_stock"] (defScope s__law_end):=⟨rfl,rfl,rfl,by decide +kernel,rfl,by decide +kernel,by decide +kernel⟩
noncomputable abbrev s__law_stocks:Stmt:=top 45
noncomputable abbrev N__law_stocks:List Str:=["_law_shop_here"]
theorem sc__law_stocks:FnScope N__law_stocks ["_law_shop_here"] (defScope s__law_stocks):=⟨rfl,rfl,rfl,by decide +kernel,rfl,by decide +kernel,by decide +kernel⟩
noncomputable abbrev s__law_level_cost:Stmt:=top 46
noncomputable abbrev N__law_level_cost:List Str:=["_law_shop_here","_law_one","_law_stock","_law_level","_law_later","_law_top","_law_bottom","_law_fall","_law_weight","_law_cost","_law_there","_law_number","_law_under"]
theorem sc__law_level_cost:FnScope N__law_level_cost ["_law_shop_here","_law_one","_law_stock","_law_level","_law_later"] (defScope s__law_level_cost):=⟨rfl,rfl,rfl,by decide +kernel,rfl,by decide +kernel,by decide +kernel⟩
noncomputable abbrev s__law_best:Stmt:=top 47
noncomputable abbrev N__law_best:List Str:=["_law_shop_here","_law_one","_law_stock","_law_later","_law_found","_law_level","_law_top","_law_bottom"]
theorem sc__law_best:FnScope N__law_best ["_law_shop_here","_law_one","_law_stock","_law_later"] (defScope s__law_best):=⟨rfl,rfl,rfl,by decide +kernel,rfl,by decide +kernel,by decide +kernel⟩
noncomputable abbrev s__law_ahead:Stmt:=top 48
noncomputable abbrev N__law_ahead:List Str:=["_law_shop_here","_law_falls","_law_rows","_law_found","_law_one","_law_later"]
theorem sc__law_ahead:FnScope N__law_ahead ["_law_shop_here","_law_falls","_law_rows"] (defScope s__law_ahead):=⟨rfl,rfl,rfl,by decide +kernel,rfl,by decide +kernel,by decide +kernel⟩
noncomputable abbrev s__law_let:Stmt:=top 49
noncomputable abbrev N__law_let:List Str:=["_law_shop_here","_law_falls","_law_paper","_law_later","_law_one","_law_day_here","_law_stock","_law_cost","_law_level","_law_top","_law_bottom","_law_other"]
theorem sc__law_let:FnScope N__law_let ["_law_shop_here","_law_falls","_law_paper"] (defScope s__law_let):=⟨rfl,rfl,rfl,by decide +kernel,rfl,by decide +kernel,by decide +kernel⟩
noncomputable abbrev s__law_with:Stmt:=top 50
noncomputable abbrev N__law_with:List Str:=["_law_some","_law_at","_law_thing"]
theorem sc__law_with:FnScope N__law_with ["_law_some","_law_at","_law_thing"] (defScope s__law_with):=⟨rfl,rfl,rfl,by decide +kernel,rfl,by decide +kernel,by decide +kernel⟩
noncomputable abbrev s__law_share:Stmt:=top 51
noncomputable abbrev N__law_share:List Str:=["_law_top","_law_bottom","_law_one","_law_other"]
theorem sc__law_share:FnScope N__law_share ["_law_top","_law_bottom"] (defScope s__law_share):=⟨rfl,rfl,rfl,by decide +kernel,rfl,by decide +kernel,by decide +kernel⟩
noncomputable abbrev s__law_other_cost:Stmt:=top 52
noncomputable abbrev N__law_other_cost:List Str:=["_law_pen_here","_law_cost","_law_by"]
theorem sc__law_other_cost:FnScope N__law_other_cost ["_law_pen_here","_law_cost"] (defScope s__law_other_cost):=⟨rfl,rfl,rfl,by decide +kernel,rfl,by decide +kernel,by decide +kernel⟩
noncomputable abbrev s__law_exchanged:Stmt:=top 53
noncomputable abbrev N__law_exchanged:List Str:=["_law_pen_here","_law_some","_law_one","_law_other"]
theorem sc__law_exchanged:FnScope N__law_exchanged ["_law_pen_here","_law_some"] (defScope s__law_exchanged):=⟨rfl,rfl,rfl,by decide +kernel,rfl,by decide +kernel,by decide +kernel⟩
noncomputable abbrev s__law_mixed:Stmt:=top 54
noncomputable abbrev N__law_mixed:List Str:=["_law_pen_here","_law_shop_here","_law_falls","_law_paper","_law_t","_law_way","_law_later","_law_day_here"]
theorem sc__law_mixed:FnScope N__law_mixed ["_law_pen_here","_law_shop_here","_law_falls","_law_paper"] (defScope s__law_mixed):=⟨rfl,rfl,rfl,by decide +kernel,rfl,by decide +kernel,by decide +kernel⟩
noncomputable abbrev s__law_bent:Stmt:=top 55
noncomputable abbrev N__law_bent:List Str:=["_law_pen_here","_law_shop_here","_law_falls","_law_paper","_law_way","_law_t","_law_at","_law_cost","_law_level","_law_day_here","_law_many"]
theorem sc__law_bent:FnScope N__law_bent ["_law_pen_here","_law_shop_here","_law_falls","_law_paper"] (defScope s__law_bent):=⟨rfl,rfl,rfl,by decide +kernel,rfl,by decide +kernel,by decide +kernel⟩
noncomputable abbrev s_law:Stmt:=top 56
noncomputable abbrev N_law:List Str:=["_law_script","_law_pen_here","_law_shop_here","_law_falls","_law_paper","_law_turn","_law_thing","_law_shown","_law_other"]
theorem sc_law:FnScope N_law ["_law_script"] (defScope s_law):=⟨rfl,rfl,rfl,by decide +kernel,rfl,by decide +kernel,by decide +kernel⟩
structure Txt (K:PySem.W.Frag) (mg:Str→Option Value):Prop where
  n_len:mg "len"=none
  n_abs:mg "abs"=none
  n_max:mg "max"=none
  n_repr:mg "repr"=none
  n_int:mg "int"=none
  n_list:mg "list"=none
  n_tuple:mg "tuple"=none
  n_bool:mg "bool"=none
  n_range:mg "range"=none
  n_isinstance:mg "isinstance"=none
  n_zip:mg "zip"=none
  n_sum:mg "sum"=none
  n_all:mg "all"=none
  n_enumerate:mg "enumerate"=none
  n_ValueError:mg "ValueError"=none
  n_reversed:mg "reversed"=none
  g_TOP:∃ t,mg "TOP"=some (.int 0 t)
  g_DEPTH:∃ t,mg "DEPTH"=some (.int 1 t)
  g_START:∃ t,mg "START"=some (.int 2 t)
  g_PIECE:∃ t,mg "PIECE"=some (.int 3 t)
  g_KEEP:∃ t,mg "KEEP"=some (.int 4 t)
  g_LACK:∃ t,mg "LACK"=some (.int 5 t)
  g_LOST:∃ t,mg "LOST"=some (.int 6 t)
  g_BACK:∃ t,mg "BACK"=some (.int 7 t)
  g_LATE:∃ t,mg "LATE"=some (.int 8 t)
  d_is_whole:Def K mg "is_whole" s_is_whole ["thing"]
  d_is_whole_within:Def K mg "is_whole_within" s_is_whole_within ["thing","lowest","highest"]
  d_common_divisor:Def K mg "common_divisor" s_common_divisor ["one","other"]
  d_is_share:Def K mg "is_share" s_is_share ["thing"]
  d_share:Def K mg "share" s_share ["top","bottom"]
  d_stocks:Def K mg "stocks" s_stocks ["shop"]
  d_is_level:Def K mg "is_level" s_is_level ["shop","stock","thing"]
  d_order_cost:Def K mg "order_cost" s_order_cost ["shop","stock","level"]
  d_next_stock:Def K mg "next_stock" s_next_stock ["shop","level","fall"]
  d_day_cost:Def K mg "day_cost" s_day_cost ["shop","level","fall"]
  d_end_cost:Def K mg "end_cost" s_end_cost ["shop","stock"]
  d_end_costs:Def K mg "end_costs" s_end_costs ["shop"]
  d_weighed:Def K mg "weighed" s_weighed ["shop","day","level","ahead","scale"]
  d_costs_by:Def K mg "costs_by" s_costs_by ["shop","day","levels","ahead","scale"]
  d_is_entry:Def K mg "is_entry" s_is_entry ["shop","stock","thing"]
  d_is_paper_day:Def K mg "is_paper_day" s_is_paper_day ["shop","thing"]
  d_is_paper:Def K mg "is_paper" s_is_paper ["shop","falls","thing"]
  d_none_less:Def K mg "none_less" s_none_less ["shop","day","costs","ahead","scale"]
  d_lets:Def K mg "lets" s_lets ["shop","falls","thing"]
  d__law_pen:Def K mg "_law_pen" s__law_pen ["_law_script"]
  d__law_take:Def K mg "_law_take" s__law_take ["_law_pen_here","_law_many"]
  d__law_price:Def K mg "_law_price" s__law_price ["_law_pen_here"]
  d__law_shop:Def K mg "_law_shop" s__law_shop ["_law_pen_here","_law_most"]
  d__law_day:Def K mg "_law_day" s__law_day ["_law_pen_here","_law_many"]
  d__law_rest:Def K mg "_law_rest" s__law_rest ["_law_shop_here","_law_level","_law_fall"]
  d__law_order:Def K mg "_law_order" s__law_order ["_law_shop_here","_law_stock","_law_level"]
  d__law_end:Def K mg "_law_end" s__law_end ["_law_shop_here","_law_stock"]
  d__law_stocks:Def K mg "_law_stocks" s__law_stocks ["_law_shop_here"]
  d__law_level_cost:Def K mg "_law_level_cost" s__law_level_cost ["_law_shop_here","_law_one","_law_stock","_law_level","_law_later"]
  d__law_best:Def K mg "_law_best" s__law_best ["_law_shop_here","_law_one","_law_stock","_law_later"]
  d__law_ahead:Def K mg "_law_ahead" s__law_ahead ["_law_shop_here","_law_falls","_law_rows"]
  d__law_let:Def K mg "_law_let" s__law_let ["_law_shop_here","_law_falls","_law_paper"]
  d__law_with:Def K mg "_law_with" s__law_with ["_law_some","_law_at","_law_thing"]
  d__law_share:Def K mg "_law_share" s__law_share ["_law_top","_law_bottom"]
  d__law_other_cost:Def K mg "_law_other_cost" s__law_other_cost ["_law_pen_here","_law_cost"]
  d__law_exchanged:Def K mg "_law_exchanged" s__law_exchanged ["_law_pen_here","_law_some"]
  d__law_mixed:Def K mg "_law_mixed" s__law_mixed ["_law_pen_here","_law_shop_here","_law_falls","_law_paper"]
  d__law_bent:Def K mg "_law_bent" s__law_bent ["_law_pen_here","_law_shop_here","_law_falls","_law_paper"]
  d_law:Def K mg "law" s_law ["_law_script"]
set_option maxHeartbeats 4000000 in
theorem txt_mk {K:PySem.W.Frag} {mg:Str→Option Value} {h:Heap} (X:K.In h) (G:h.Ns mainGlobals mg)
    (z_len:PySem.W.nsIn K mainGlobals "len"=some none)
    (z_abs:PySem.W.nsIn K mainGlobals "abs"=some none)
    (z_max:PySem.W.nsIn K mainGlobals "max"=some none)
    (z_repr:PySem.W.nsIn K mainGlobals "repr"=some none)
    (z_int:PySem.W.nsIn K mainGlobals "int"=some none)
    (z_list:PySem.W.nsIn K mainGlobals "list"=some none)
    (z_tuple:PySem.W.nsIn K mainGlobals "tuple"=some none)
    (z_bool:PySem.W.nsIn K mainGlobals "bool"=some none)
    (z_range:PySem.W.nsIn K mainGlobals "range"=some none)
    (z_isinstance:PySem.W.nsIn K mainGlobals "isinstance"=some none)
    (z_zip:PySem.W.nsIn K mainGlobals "zip"=some none)
    (z_sum:PySem.W.nsIn K mainGlobals "sum"=some none)
    (z_all:PySem.W.nsIn K mainGlobals "all"=some none)
    (z_enumerate:PySem.W.nsIn K mainGlobals "enumerate"=some none)
    (z_ValueError:PySem.W.nsIn K mainGlobals "ValueError"=some none)
    (z_reversed:PySem.W.nsIn K mainGlobals "reversed"=some none)
    {t_TOP:Tok} (z_TOP:PySem.W.nsIn K mainGlobals "TOP"=some (some (.int 0 t_TOP)))
    {t_DEPTH:Tok} (z_DEPTH:PySem.W.nsIn K mainGlobals "DEPTH"=some (some (.int 1 t_DEPTH)))
    {t_START:Tok} (z_START:PySem.W.nsIn K mainGlobals "START"=some (some (.int 2 t_START)))
    {t_PIECE:Tok} (z_PIECE:PySem.W.nsIn K mainGlobals "PIECE"=some (some (.int 3 t_PIECE)))
    {t_KEEP:Tok} (z_KEEP:PySem.W.nsIn K mainGlobals "KEEP"=some (some (.int 4 t_KEEP)))
    {t_LACK:Tok} (z_LACK:PySem.W.nsIn K mainGlobals "LACK"=some (some (.int 5 t_LACK)))
    {t_LOST:Tok} (z_LOST:PySem.W.nsIn K mainGlobals "LOST"=some (some (.int 6 t_LOST)))
    {t_BACK:Tok} (z_BACK:PySem.W.nsIn K mainGlobals "BACK"=some (some (.int 7 t_BACK)))
    {t_LATE:Tok} (z_LATE:PySem.W.nsIn K mainGlobals "LATE"=some (some (.int 8 t_LATE)))
    (z_is_whole:Def K mg "is_whole" s_is_whole ["thing"])
    (z_is_whole_within:Def K mg "is_whole_within" s_is_whole_within ["thing","lowest","highest"])
    (z_common_divisor:Def K mg "common_divisor" s_common_divisor ["one","other"])
    (z_is_share:Def K mg "is_share" s_is_share ["thing"])
    (z_share:Def K mg "share" s_share ["top","bottom"])
    (z_stocks:Def K mg "stocks" s_stocks ["shop"])
    (z_is_level:Def K mg "is_level" s_is_level ["shop","stock","thing"])
    (z_order_cost:Def K mg "order_cost" s_order_cost ["shop","stock","level"])
    (z_next_stock:Def K mg "next_stock" s_next_stock ["shop","level","fall"])
    (z_day_cost:Def K mg "day_cost" s_day_cost ["shop","level","fall"])
    (z_end_cost:Def K mg "end_cost" s_end_cost ["shop","stock"])
    (z_end_costs:Def K mg "end_costs" s_end_costs ["shop"])
    (z_weighed:Def K mg "weighed" s_weighed ["shop","day","level","ahead","scale"])
    (z_costs_by:Def K mg "costs_by" s_costs_by ["shop","day","levels","ahead","scale"])
    (z_is_entry:Def K mg "is_entry" s_is_entry ["shop","stock","thing"])
    (z_is_paper_day:Def K mg "is_paper_day" s_is_paper_day ["shop","thing"])
    (z_is_paper:Def K mg "is_paper" s_is_paper ["shop","falls","thing"])
    (z_none_less:Def K mg "none_less" s_none_less ["shop","day","costs","ahead","scale"])
    (z_lets:Def K mg "lets" s_lets ["shop","falls","thing"])
    (z__law_pen:Def K mg "_law_pen" s__law_pen ["_law_script"])
    (z__law_take:Def K mg "_law_take" s__law_take ["_law_pen_here","_law_many"])
    (z__law_price:Def K mg "_law_price" s__law_price ["_law_pen_here"])
    (z__law_shop:Def K mg "_law_shop" s__law_shop ["_law_pen_here","_law_most"])
    (z__law_day:Def K mg "_law_day" s__law_day ["_law_pen_here","_law_many"])
    (z__law_rest:Def K mg "_law_rest" s__law_rest ["_law_shop_here","_law_level","_law_fall"])
    (z__law_order:Def K mg "_law_order" s__law_order ["_law_shop_here","_law_stock","_law_level"])
    (z__law_end:Def K mg "_law_end" s__law_end ["_law_shop_here","_law_stock"])
    (z__law_stocks:Def K mg "_law_stocks" s__law_stocks ["_law_shop_here"])
    (z__law_level_cost:Def K mg "_law_level_cost" s__law_level_cost ["_law_shop_here","_law_one","_law_stock","_law_level","_law_later"])
    (z__law_best:Def K mg "_law_best" s__law_best ["_law_shop_here","_law_one","_law_stock","_law_later"])
    (z__law_ahead:Def K mg "_law_ahead" s__law_ahead ["_law_shop_here","_law_falls","_law_rows"])
    (z__law_let:Def K mg "_law_let" s__law_let ["_law_shop_here","_law_falls","_law_paper"])
    (z__law_with:Def K mg "_law_with" s__law_with ["_law_some","_law_at","_law_thing"])
    (z__law_share:Def K mg "_law_share" s__law_share ["_law_top","_law_bottom"])
    (z__law_other_cost:Def K mg "_law_other_cost" s__law_other_cost ["_law_pen_here","_law_cost"])
    (z__law_exchanged:Def K mg "_law_exchanged" s__law_exchanged ["_law_pen_here","_law_some"])
    (z__law_mixed:Def K mg "_law_mixed" s__law_mixed ["_law_pen_here","_law_shop_here","_law_falls","_law_paper"])
    (z__law_bent:Def K mg "_law_bent" s__law_bent ["_law_pen_here","_law_shop_here","_law_falls","_law_paper"])
    (z_law:Def K mg "law" s_law ["_law_script"])
    : Txt K mg:=⟨PySem.W.mg_none_of X G z_len,PySem.W.mg_none_of X G z_abs,PySem.W.mg_none_of X G z_max,PySem.W.mg_none_of X G z_repr,PySem.W.mg_none_of X G z_int,PySem.W.mg_none_of X G z_list,PySem.W.mg_none_of X G z_tuple,PySem.W.mg_none_of X G z_bool,PySem.W.mg_none_of X G z_range,PySem.W.mg_none_of X G z_isinstance,PySem.W.mg_none_of X G z_zip,PySem.W.mg_none_of X G z_sum,PySem.W.mg_none_of X G z_all,PySem.W.mg_none_of X G z_enumerate,PySem.W.mg_none_of X G z_ValueError,PySem.W.mg_none_of X G z_reversed,⟨_,PySem.W.mg_of X G z_TOP⟩,⟨_,PySem.W.mg_of X G z_DEPTH⟩,⟨_,PySem.W.mg_of X G z_START⟩,⟨_,PySem.W.mg_of X G z_PIECE⟩,⟨_,PySem.W.mg_of X G z_KEEP⟩,⟨_,PySem.W.mg_of X G z_LACK⟩,⟨_,PySem.W.mg_of X G z_LOST⟩,⟨_,PySem.W.mg_of X G z_BACK⟩,⟨_,PySem.W.mg_of X G z_LATE⟩,z_is_whole,z_is_whole_within,z_common_divisor,z_is_share,z_share,z_stocks,z_is_level,z_order_cost,z_next_stock,z_day_cost,z_end_cost,z_end_costs,z_weighed,z_costs_by,z_is_entry,z_is_paper_day,z_is_paper,z_none_less,z_lets,z__law_pen,z__law_take,z__law_price,z__law_shop,z__law_day,z__law_rest,z__law_order,z__law_end,z__law_stocks,z__law_level_cost,z__law_best,z__law_ahead,z__law_let,z__law_with,z__law_share,z__law_other_cost,z__law_exchanged,z__law_mixed,z__law_bent,z_law⟩

theorem cell_at (ns:List Int) (a:Nat) (h:ns≠[]):∃ z:Int,atI (ns.map V.int) ((a:Int) % ((ns.map V.int).length:Nat))=some (.int z):=by
  have hl:0 < ns.length:=List.length_pos_iff.mpr h
  have hl':(ns.map V.int).length=ns.length:=List.length_map ..
  have e:(a:Int) % ((ns.map V.int).length:Nat)=((a % ns.length:Nat):Int):=by rw [hl']; omega
  have hlt:a % ns.length < ns.length:=Nat.mod_lt _ hl
  rw [e]
  exact ⟨ns[a % ns.length],atI_nat (by rw [List.getElem?_map,List.getElem?_eq_getElem hlt]; rfl)⟩
theorem tk1 {z a:Int} (h0:0≤a) (h1:a≤500000):0≤z % 2147483629+83 * a * a+39373 * a+7∧z % 2147483629+83 * a * a+39373 * a+7 < 2 ^ 46:=by
  have p0:0≤83 * a * a:=Int.mul_nonneg (by omega) h0
  have p1:83 * a * a≤41500000 * 500000:=Int.mul_le_mul (by omega) h1 h0 (by omega)
  omega
theorem sql_upd {K:PySem.W.Frag} {H:Hp} {p c:Addr} {xs:List V} {d:List (Key×V)} {o:HO} (hd:H p=some (.dK d)) (hc:SqL K H c xs):SqL K (upd H p o) c xs:=by
  rcases hc with (hc | ⟨u,hc⟩) | hc
  · exact .inl (.inl (by rw [upd_ne (ne_of hc hd (by intro z; cases z))]; exact hc))
  · exact .inl (.inr ⟨u,by rw [upd_ne (ne_of hc hd (by intro z; cases z))]; exact hc⟩)
  · exact .inr hc
section
variable {P:Program} {w:World} {K:PySem.W.Frag} {mg:Str→Option Value} {base:Heap}
set_option maxHeartbeats 1000000 in
theorem ok_pen (T:Txt K mg):Callee P w K mg base "_law_pen" 1 ["_law_script"] (spPen4 K):=by
  refine T.d__law_pen.ok sc__law_pen (fun vs H Q E h=>?_) (fun f cdv A outer s H vs Q E hr h=>?_)
  · obtain ⟨a,ns,rfl,_⟩:=h
    rfl
  · obtain ⟨a,ns,rfl,hS,hlen,k⟩:=h
    have hu:=hu_of hr
    refine ⟨_,(pss_one (ps_ret (pe_disp (pps_cons pe_str (pv 0) (pps_cons pe_str pe_int (pps_cons pe_str pe_int pps_nil))) rfl rfl (by simp) (by decide)))),?_⟩
    intro p hp
    refine ⟨_,rfl,upd_same,penK a 0 0,rfl,(by show 3≤15; decide),?_⟩
    have s0:Same H (upd (upd H p (.dK [])) p (.dK (penK a 0 0))):=fun b o e=>by
      rw [upd_ne (ne_of_none e hp),upd_ne (ne_of_none e hp)]
      exact e
    exact k p _ hp ⟨⟨0,0,by rw [upd_same]; rfl,Nat.le_refl _,Int.le_refl _⟩,s0.seq hS,hlen⟩ s0
set_option maxHeartbeats 2000000 in
theorem ok_draw (T:Txt K mg):Callee P w K mg base "_law_take" 1 ["_law_pen_here","_law_many"] (spDraw4 K):=by
  refine T.d__law_take.ok sc__law_take (fun vs H Q E h=>?_) (fun f cdv A outer s H vs Q E hr h=>?_)
  · obtain ⟨p,c,ns,m,most,rfl,_⟩:=h
    rfl
  · obtain ⟨p,c,ns,m,most,rfl,hP,hm,h0,h1,k⟩:=h
    have hu:=hu_of hr
    refine ⟨_,(pss_cons (ps_if (pt_cmpR op_gt (pe_dget hu (pv 0) pe_str (fun _ _=>rfl)) pe_int (nomark _)) (pss_cons (ps_set (i:=2) sc__law_take.nd rfl (Or.inl rfl) (pe_op op_mod (pe_dget hu (pv 0) pe_str (fun _ _=>rfl)) (pv 1)))
 (pss_cons (ps_dput hu (pv 0) pe_str (pe_op op_fdiv (pe_dget hu (pv 0) pe_str (fun _ _=>rfl)) (pv 1)) rfl)
 (pss_one (ps_ret (pv 2))))) pss_nil)
 (pss_cons (ps_set (i:=3) sc__law_take.nd rfl (Or.inl rfl) (pe_dget hu (pv 0) pe_str (fun _ _=>rfl)))
 (pss_cons (ps_dput hu (pv 0) pe_str (pe_op op_add (pv 3) pe_int) rfl)
 (pss_cons (ps_set (i:=4) sc__law_take.nd rfl (Or.inl rfl) (pe_dget hu (pv 0) pe_str (fun _ _=>rfl)))
 (pss_cons (ps_set (i:=5) sc__law_take.nd rfl (Or.inl rfl) (pe_op op_add (pe_op op_mul pe_int (pv 3)) pe_int))
 (pss_cons (PS.join (ps_if (pt_cmpR op_gt (pe_callB (call_len_seq) rfl T.n_len boot_len (pa_cons (pv 4) pa_nil)) pe_int (nomark _)) (pss_one (ps_set (i:=5) sc__law_take.nd rfl (Or.inl rfl) (pe_ix ix_list (pv 4) (pe_op op_mod (pv 3) (pe_callB (call_len_seq) rfl T.n_len boot_len (pa_cons (pv 4) pa_nil))) (fun _ _=>rfl)))) pss_nil))
 (pss_cons (ps_if (PT.join (PW.pt (pw_and (pt_cmpR op_lt (pv 3) (pe_callB (call_len_seq) rfl T.n_len boot_len (pa_cons (pv 4) pa_nil)) (nomark _)) (pw_and1 (pt_cmpR op_ge (pe_callB (call_abs) rfl T.n_abs boot_abs (pa_cons (pv 5) pa_nil)) (pe_op op_pow pe_int pe_int) (nomark _)))))) (pss_cons (ps_dput hu (pv 0) pe_str (pe_op op_fdiv (pe_callB (call_abs) rfl T.n_abs boot_abs (pa_cons (pv 5) pa_nil)) (pv 1)) rfl)
 (pss_one (ps_ret (pe_op op_mod (pe_callB (call_abs) rfl T.n_abs boot_abs (pa_cons (pv 5) pa_nil)) (pv 1))))) pss_nil)
 (pss_cons (ps_set (i:=6) sc__law_take.nd rfl (Or.inl rfl) (pe_op op_add (pe_op op_add (pe_op op_add (pe_op op_mod (pv 5) pe_int) (pe_op op_mul (pe_op op_mul pe_int (pv 3)) (pv 3))) (pe_op op_mul pe_int (pv 3))) pe_int))
 (pss_cons (ps_set (i:=6) sc__law_take.nd rfl (Or.inl rfl) (pe_op op_add (pe_op op_add (pe_op op_mod (pe_op op_pow (pv 6) pe_int) pe_int) (pe_op op_mul pe_int (pv 3))) pe_int))
 (pss_one (ps_ret (pe_op op_mod (pe_op op_fdiv (pe_op op_mod (pe_op op_pow (pv 6) pe_int) pe_int) pe_int) (pv 1))))))))))))),?_⟩
    obtain ⟨⟨a,l,hd,ha,hl⟩,hc,hn⟩:=hP
    refine ⟨_,rfl,p,_,rfl,dg_left hd,_,_,rfl,rfl,_,rfl,?_⟩
    refine ite2 (fun hz=>?_) (fun hz=>?_)
    · refine ⟨_,rfl,p,_,rfl,dg_left hd,_,rfl,_,_,rfl,rfl,h0,?_⟩
      refine ⟨_,rfl,p,_,rfl,dg_left hd,_,rfl,_,_,rfl,rfl,⟨h0,h1⟩,_,rfl,p,_,rfl,dp_left hd,?_⟩
      exact ⟨_,rfl,k _ _ (Int.emod_nonneg _ (by omega)) (Int.emod_lt_of_pos _ h0) ⟨⟨a,_,upd_same,by omega,Int.ediv_nonneg hl (by omega)⟩,sql_upd hd hc,hn⟩ Kept.refl.pen⟩
    · refine ⟨_,rfl,p,_,rfl,dg_at hd,?_⟩
      refine ⟨_,rfl,_,_,rfl,rfl,_,rfl,p,_,rfl,dp_at hd,?_⟩
      have hd1:(upd H p (.dK (penK c ((a:Int)+1) l))) p=some (.dK (penK c ((a+1:Nat):Int) l)):=by
        rw [upd_same]
        rfl
      have hc1:SqL K (upd H p (.dK (penK c ((a:Int)+1) l))) c (ns.map V.int):=sql_upd hd hc
      have k1:Kept p H (upd H p (.dK (penK c ((a:Int)+1) l))):=Kept.refl.pen
      generalize upd H p (.dK (penK c ((a:Int)+1) l))=H1 at hd1 hc1 k1
      refine ⟨_,rfl,p,_,rfl,dg_script hd1,?_⟩
      refine ⟨_,rfl,_,_,rfl,rfl,.inl ⟨by decide,by decide⟩,_,_,rfl,rfl,?_⟩
      refine ⟨fun σ' H'=>∃ (z:Int),σ'=[some (.ref p),some (.int most),none,some (.int a),some (.ref c),some (.int z),none]∧H'=H1,?_,?_⟩
      · refine ⟨_,rfl,c,_,rfl,.inl hc1,_,_,rfl,rfl,_,rfl,?_⟩
        refine ite2 (fun hlen=>?_) (fun _=>⟨_,rfl,rfl⟩)
        have hlen':(0:Int) < ((ns.map V.int).length:Nat):=of_decide_eq_true hlen
        have hne':ns≠[]:=by
          rintro rfl
          simp at hlen'
        obtain ⟨z,hz2⟩:=cell_at ns a hne'
        refine ⟨_,rfl,_,rfl,_,rfl,c,_,rfl,.inl hc1,_,_,rfl,rfl,hlen',c,_,_,_,rfl,rfl,hc1,hz2,?_⟩
        exact ⟨z,rfl,rfl⟩
      · rintro σ2 H2 ⟨z,rfl,rfl⟩
        refine ⟨fun _ H'=>H'=H2,?_,?_⟩
        · refine ⟨_,rfl,_,rfl,c,_,rfl,.inl hc1,_,_,rfl,rfl,_,rfl,?_⟩
          refine ite2 (fun _=>?_) (fun _=>rfl)
          exact ⟨_,rfl,z,rfl,_,_,rfl,rfl,⟨by decide,by decide,by decide⟩,_,_,rfl,rfl,_,rfl,rfl⟩
        · rintro b H3 rfl
          have ab:0≤(if z < 0 then -z else z):=by split <;> omega
          refine ite2 (fun _=>?_) (fun _=>?_)
          · refine ⟨_,rfl,z,rfl,_,rfl,_,_,rfl,rfl,⟨h0,h1⟩,_,rfl,p,_,rfl,dp_left hd1,?_⟩
            refine ⟨_,rfl,z,rfl,_,rfl,_,_,rfl,rfl,h0,?_⟩
            exact k _ _ (Int.emod_nonneg _ (by omega)) (Int.emod_lt_of_pos _ h0) ⟨⟨a+1,_,upd_same,by omega,Int.ediv_nonneg ab (by omega)⟩,sql_upd hd1 hc1,hn⟩ k1.pen
          · have tb:=tk1 (z:=z) (a:=(a:Int)) (by omega) (by omega)
            refine ⟨_,rfl,_,_,rfl,rfl,(by show (0:Int) < 2147483629; decide),_,rfl,_,_,rfl,rfl,.inl ⟨by decide,by decide⟩,_,rfl,_,_,rfl,rfl,.inl ⟨by omega,by omega⟩,_,_,rfl,rfl,_,rfl,_,_,rfl,rfl,.inl ⟨by decide,by decide⟩,_,_,rfl,rfl,_,_,rfl,rfl,?_⟩
            refine ⟨_,rfl,_,_,rfl,rfl,⟨by decide,by decide,by omega⟩,_,_,rfl,rfl,(by show (0:Int) < 2147483647; decide),_,rfl,_,_,rfl,rfl,.inl ⟨by decide,by decide⟩,_,_,rfl,rfl,_,_,rfl,rfl,?_⟩
            have m0:0≤((z % 2147483629+83 * (a:Int) * (a:Int)+39373 * (a:Int)+7) ^ (5:Int).toNat) % 2147483647:=Int.emod_nonneg _ (by decide)
            have m1:((z % 2147483629+83 * (a:Int) * (a:Int)+39373 * (a:Int)+7) ^ (5:Int).toNat) % 2147483647 < 2147483647:=Int.emod_lt_of_pos _ (by decide)
            refine ⟨_,rfl,_,_,rfl,rfl,⟨by decide,by decide,?_⟩,_,_,rfl,rfl,(by show (0:Int) < 2147483587; decide),_,_,rfl,rfl,⟨by decide,by decide⟩,_,rfl,_,_,rfl,rfl,h0,?_⟩
            · generalize ((z % 2147483629+83 * (a:Int) * (a:Int)+39373 * (a:Int)+7) ^ (5:Int).toNat) % 2147483647=N at m0 m1
              omega
            · exact k _ _ (Int.emod_nonneg _ (by omega)) (Int.emod_lt_of_pos _ h0) ⟨⟨a+1,l,hd1,by omega,hl⟩,hc1,hn⟩ k1
end
end My
set_option Elab.async false
set_option linter.all false
set_option maxRecDepth 100000
namespace My
open PySem PySem.Spec PyProof.Rows L2
section
variable {cn:Addr×List Int} {P:Program} {w:World} {K:PySem.W.Frag} {mg:Str→Option Value} {base:Heap}
noncomputable def m_is_whole:List Sl→Tr Re:=aDef 1 0
 (aRet (aAndV (aIsi "int" (aVar 0)) (aNotV (aIsi "bool" (aVar 0)))))
set_option maxHeartbeats 2000000 in
theorem c_is_whole (T:Txt K mg):ACal (PK2 (K,cn)) P w K mg base "is_whole" 1 ["thing"] m_is_whole:=acal_of T.d_is_whole sc_is_whole rfl fun f cdv A outer sh H E hr=>by
  exact (ass_one (as_ret (ae_and (ae_isi (T:="int") (Or.inl rfl) rfl (pe_callB call_isi rfl T.n_isinstance boot_isinstance (pa_cons (ae_var (pv 0)) (pa_cons (pe_bltn (v:=.ty "int") rfl T.n_int boot_int rfl) pa_nil)))) (ae_one (ae_not (ae_isi (T:="bool") (Or.inr (Or.inl rfl)) rfl (pe_callB call_isi rfl T.n_isinstance boot_isinstance (pa_cons (ae_var (pv 0)) (pa_cons (pe_bltn (v:=.ty "bool") rfl T.n_bool boot_bool rfl) pa_nil)))))))))
noncomputable def w_common_divisor_1:List Sl→Tr Bool :=
 (aTru (aVar 1))
noncomputable def l_common_divisor_1:List Sl→Tr Ou :=
 (aPar 0 1 (aCons (aVar 1) (aCons (aBin modD (aVar 0) (aVar 1)) aNil)))
noncomputable def m_common_divisor:List Sl→Tr Re:=aDef 2 0
 (aSeq (aPar 0 1 (aCons (aCB absD (aCons (aVar 0) aNil)) (aCons (aCB absD (aCons (aVar 1) aNil)) aNil)))
 (aSeq (whL w_common_divisor_1 l_common_divisor_1 100000)
 (aRetV 0)))
set_option maxHeartbeats 2000000 in
theorem c_common_divisor (T:Txt K mg):ACal (PK2 (K,cn)) P w K mg base "common_divisor" 1 ["one","other"] m_common_divisor:=acal_of T.d_common_divisor sc_common_divisor rfl fun f cdv A outer sh H E hr=>by
  exact (ass_cons (as_par (ps_par (i:=0) (j:=1) rfl sc_common_divisor.nd rfl rfl (by decide) rfl rfl (ad_cons (ae_cb (t:=tNil) (pe_callB call_abs rfl T.n_abs boot_abs (ad_cons (ae_var (pv 0)) ad_nil)) vc_abs) (ad_cons (ae_cb (t:=tNil) (pe_callB call_abs rfl T.n_abs boot_abs (ad_cons (ae_var (pv 1)) ad_nil)) vc_abs) ad_nil)) rfl))
 (ass_cons (as_while 100000 PassesOwn.never (at_tru (ae_var (pv 1)))
  (ass_one (as_par (ps_par (i:=0) (j:=1) rfl sc_common_divisor.nd rfl rfl (by decide) rfl rfl (ad_cons (ae_var (pv 1)) (ad_cons (ae_op op_modN vo_mod (ae_var (pv 0)) (ae_var (pv 1))) ad_nil)) rfl))))
 (ass_one (as_retV (pv 0)))))
noncomputable def m_stocks:List Sl→Tr Re:=aDef 1 0
 (aRet (aTupR (aCons (aNeg (aBin ixD (aVar 0) (aC (.int 1)))) (aCons (aBin addD (aBin ixD (aVar 0) (aC (.int 0))) (aC (.int 1))) aNil))))
set_option maxHeartbeats 2000000 in
theorem c_stocks (T:Txt K mg):ACal (PK2 (K,cn)) P w K mg base "stocks" 1 ["shop"] m_stocks:=acal_of T.d_stocks sc_stocks rfl fun f cdv A outer sh H E hr=>by
  exact (ass_one (as_ret (ae_tupR (pe_callTy (call_tuple_rng hr.hd) rfl T.n_tuple boot_tuple (pa_cons (pe_callTy call_rangeV2 rfl T.n_range boot_range (ad_cons (ae_neg (ae_ix ix_seq vo_ix (ae_var (pv 0)) (ae_gint rfl T.g_DEPTH) (fun _ _=>rfl))) (ad_cons (ae_op op_addD vo_add (ae_ix ix_seq vo_ix (ae_var (pv 0)) (ae_gint rfl T.g_TOP) (fun _ _=>rfl)) ae_int) ad_nil))) pa_nil)))))
noncomputable def m_order_cost:List Sl→Tr Re:=aDef 3 0
 (aSeq (aIfS (aTest (aBin (cmpD fun i j=>decide (i≤j)) (aVar 2) (aVar 1)))
  (aRet (aC (.int 0)))
  aSkip)
 (aRet (aBin addD (aBin ixD (aVar 0) (aC (.int 2))) (aBin mulD' (aBin ixD (aVar 0) (aC (.int 3))) (aBin subD (aVar 2) (aVar 1))))))
set_option maxHeartbeats 2000000 in
theorem c_order_cost (T:Txt K mg):ACal (PK2 (K,cn)) P w K mg base "order_cost" 1 ["shop","stock","level"] m_order_cost:=acal_of T.d_order_cost sc_order_cost rfl fun f cdv A outer sh H E hr=>by
  exact (ass_cons (as_if (at_cmp op_le vo_cmp (ae_var (pv 2)) (ae_var (pv 1)) (nomark _))
  (ass_one (as_ret ae_int))
  ass_nil)
 (ass_one (as_ret (ae_op op_addD vo_add (ae_ix ix_seq vo_ix (ae_var (pv 0)) (ae_gint rfl T.g_START) (fun _ _=>rfl)) (ae_op op_mulD vo_mul (ae_ix ix_seq vo_ix (ae_var (pv 0)) (ae_gint rfl T.g_PIECE) (fun _ _=>rfl)) (ae_op op_sub vo_sub (ae_var (pv 2)) (ae_var (pv 1))))))))
noncomputable def m_next_stock:List Sl→Tr Re:=aDef 3 0
 (aRet (aCB max2D (aCons (aBin subD (aVar 1) (aVar 2)) (aCons (aNeg (aBin ixD (aVar 0) (aC (.int 1)))) aNil))))
set_option maxHeartbeats 2000000 in
theorem c_next_stock (T:Txt K mg):ACal (PK2 (K,cn)) P w K mg base "next_stock" 1 ["shop","level","fall"] m_next_stock:=acal_of T.d_next_stock sc_next_stock rfl fun f cdv A outer sh H E hr=>by
  exact (ass_one (as_ret (ae_cb (t:=tNil) (pe_callB (call_max2 rfl) rfl T.n_max boot_max (ad_cons (ae_op op_sub vo_sub (ae_var (pv 1)) (ae_var (pv 2))) (ad_cons (ae_neg (ae_ix ix_seq vo_ix (ae_var (pv 0)) (ae_gint rfl T.g_DEPTH) (fun _ _=>rfl))) ad_nil))) vc_max2)))
noncomputable def m_end_cost:List Sl→Tr Re:=aDef 2 0
 (aSeq (aIfS (aTest (aBin (cmpD fun i j=>decide (i > j)) (aVar 1) (aC (.int 0))))
  (aRet (aBin mulD' (aNeg (aBin ixD (aVar 0) (aC (.int 7)))) (aVar 1)))
  aSkip)
 (aRet (aBin mulD' (aBin ixD (aVar 0) (aC (.int 8))) (aNeg (aVar 1)))))
set_option maxHeartbeats 2000000 in
theorem c_end_cost (T:Txt K mg):ACal (PK2 (K,cn)) P w K mg base "end_cost" 1 ["shop","stock"] m_end_cost:=acal_of T.d_end_cost sc_end_cost rfl fun f cdv A outer sh H E hr=>by
  exact (ass_cons (as_if (at_cmp op_gt vo_cmp (ae_var (pv 1)) ae_int (nomark _))
  (ass_one (as_ret (ae_op op_mulD vo_mul (ae_neg (ae_ix ix_seq vo_ix (ae_var (pv 0)) (ae_gint rfl T.g_BACK) (fun _ _=>rfl))) (ae_var (pv 1)))))
  ass_nil)
 (ass_one (as_ret (ae_op op_mulD vo_mul (ae_ix ix_seq vo_ix (ae_var (pv 0)) (ae_gint rfl T.g_LATE) (fun _ _=>rfl)) (ae_neg (ae_var (pv 1)))))))
noncomputable abbrev m_law_take:=m_draw
theorem c_law_take (T:Txt K mg):ACal (PK2 (K,cn)) P w K mg base "_law_take" 1 ["_law_pen_here","_law_many"] m_law_take:=draw1 rfl (ok_draw T)
noncomputable def m_law_rest:List Sl→Tr Re:=aDef 3 2
 (aSeq (aSet 3 (aCB max2D (aCons (aBin subD (aVar 1) (aVar 2)) (aCons (aBin subD (aC (.int 0)) (aBin ixD (aVar 0) (aC (.int 1)))) aNil))))
 (aSeq (aSet 4 (aBin addD (aBin mulD' (aBin ixD (aVar 0) (aC (.int 4))) (aCB max2D (aCons (aVar 3) (aCons (aC (.int 0)) aNil)))) (aBin mulD' (aBin ixD (aVar 0) (aC (.int 5))) (aCB max2D (aCons (aBin subD (aC (.int 0)) (aVar 3)) (aCons (aC (.int 0)) aNil))))))
 (aRet (aTup (aCons (aBin addD (aVar 4) (aBin mulD' (aBin ixD (aVar 0) (aC (.int 6))) (aBin addD (aBin subD (aVar 3) (aVar 1)) (aVar 2)))) (aCons (aVar 3) aNil))))))
set_option maxHeartbeats 2000000 in
theorem c_law_rest (T:Txt K mg):ACal (PK2 (K,cn)) P w K mg base "_law_rest" 1 ["_law_shop_here","_law_level","_law_fall"] m_law_rest:=acal_of T.d__law_rest sc__law_rest rfl fun f cdv A outer sh H E hr=>by
  exact (ass_cons (as_set (ps_set (i:=3) sc__law_rest.nd rfl (Or.inl rfl) (ae_cb (t:=tNil) (pe_callB (call_max2 rfl) rfl T.n_max boot_max (ad_cons (ae_op op_sub vo_sub (ae_var (pv 1)) (ae_var (pv 2))) (ad_cons (ae_op op_sub vo_sub ae_int (ae_ix ix_seq vo_ix (ae_var (pv 0)) ae_int (fun _ _=>rfl))) ad_nil))) vc_max2)))
 (ass_cons (as_set (ps_set (i:=4) sc__law_rest.nd rfl (Or.inl rfl) (ae_op op_addD vo_add (ae_op op_mulD vo_mul (ae_ix ix_seq vo_ix (ae_var (pv 0)) ae_int (fun _ _=>rfl)) (ae_cb (t:=tNil) (pe_callB (call_max2 rfl) rfl T.n_max boot_max (ad_cons (ae_var (pv 3)) (ad_cons ae_int ad_nil))) vc_max2)) (ae_op op_mulD vo_mul (ae_ix ix_seq vo_ix (ae_var (pv 0)) ae_int (fun _ _=>rfl)) (ae_cb (t:=tNil) (pe_callB (call_max2 rfl) rfl T.n_max boot_max (ad_cons (ae_op op_sub vo_sub ae_int (ae_var (pv 3))) (ad_cons ae_int ad_nil))) vc_max2)))))
 (ass_one (as_ret (ae_tup (ad_cons (ae_op op_addD vo_add (ae_var (pv 4)) (ae_op op_mulD vo_mul (ae_ix ix_seq vo_ix (ae_var (pv 0)) ae_int (fun _ _=>rfl)) (ae_op op_addD vo_add (ae_op op_sub vo_sub (ae_var (pv 3)) (ae_var (pv 1))) (ae_var (pv 2))))) (ad_cons (ae_var (pv 3)) ad_nil)))))))
noncomputable def m_law_order:List Sl→Tr Re:=aDef 3 0
 (aRet (aBin addD (aBin mulD' (aBin ixD (aVar 0) (aC (.int 2))) (aCB intD (aCons (aBin (cmpD fun i j=>decide (i > j)) (aVar 2) (aVar 1)) aNil))) (aBin mulD' (aBin ixD (aVar 0) (aC (.int 3))) (aBin subD (aVar 2) (aVar 1)))))
set_option maxHeartbeats 2000000 in
theorem c_law_order (T:Txt K mg):ACal (PK2 (K,cn)) P w K mg base "_law_order" 1 ["_law_shop_here","_law_stock","_law_level"] m_law_order:=acal_of T.d__law_order sc__law_order rfl fun f cdv A outer sh H E hr=>by
  exact (ass_one (as_ret (ae_op op_addD vo_add (ae_op op_mulD vo_mul (ae_ix ix_seq vo_ix (ae_var (pv 0)) ae_int (fun _ _=>rfl)) (ae_cb (t:=tNil) (pe_callTy call_int1 rfl T.n_int boot_int (ad_cons (ae_cmp op_gt vo_cmp (ae_var (pv 2)) (ae_var (pv 1)) (nomark _)) ad_nil)) vc_int)) (ae_op op_mulD vo_mul (ae_ix ix_seq vo_ix (ae_var (pv 0)) ae_int (fun _ _=>rfl)) (ae_op op_sub vo_sub (ae_var (pv 2)) (ae_var (pv 1)))))))
noncomputable def m_law_end:List Sl→Tr Re:=aDef 2 0
 (aRet (aBin subD (aBin mulD' (aBin ixD (aVar 0) (aC (.int 8))) (aCB max2D (aCons (aBin subD (aC (.int 0)) (aVar 1)) (aCons (aC (.int 0)) aNil)))) (aBin mulD' (aBin ixD (aVar 0) (aC (.int 7))) (aCB max2D (aCons (aVar 1) (aCons (aC (.int 0)) aNil))))))
set_option maxHeartbeats 2000000 in
theorem c_law_end (T:Txt K mg):ACal (PK2 (K,cn)) P w K mg base "_law_end" 1 ["_law_shop_here","_law_stock"] m_law_end:=acal_of T.d__law_end sc__law_end rfl fun f cdv A outer sh H E hr=>by
  exact (ass_one (as_ret (ae_op op_sub vo_sub (ae_op op_mulD vo_mul (ae_ix ix_seq vo_ix (ae_var (pv 0)) ae_int (fun _ _=>rfl)) (ae_cb (t:=tNil) (pe_callB (call_max2 rfl) rfl T.n_max boot_max (ad_cons (ae_op op_sub vo_sub ae_int (ae_var (pv 1))) (ad_cons ae_int ad_nil))) vc_max2)) (ae_op op_mulD vo_mul (ae_ix ix_seq vo_ix (ae_var (pv 0)) ae_int (fun _ _=>rfl)) (ae_cb (t:=tNil) (pe_callB (call_max2 rfl) rfl T.n_max boot_max (ad_cons (ae_var (pv 1)) (ad_cons ae_int ad_nil))) vc_max2)))))
noncomputable def m_law_stocks:List Sl→Tr Re:=aDef 1 0
 (aRetO (aLstR (aCons (aBin subD (aC (.int 0)) (aBin ixD (aVar 0) (aC (.int 1)))) (aCons (aBin addD (aBin ixD (aVar 0) (aC (.int 0))) (aC (.int 1))) aNil))))
set_option maxHeartbeats 2000000 in
theorem c_law_stocks (T:Txt K mg):ACal (PK2 (K,cn)) P w K mg base "_law_stocks" 1 ["_law_shop_here"] m_law_stocks:=acal_of T.d__law_stocks sc__law_stocks rfl fun f cdv A outer sh H E hr=>by
  exact (ass_one (as_retO (ao_lstR (pe_callTy (call_list_rng hr.hd) rfl T.n_list boot_list (pa_cons (pe_callTy call_rangeV2 rfl T.n_range boot_range (ad_cons (ae_op op_sub vo_sub ae_int (ae_ix ix_seq vo_ix (ae_var (pv 0)) ae_int (fun _ _=>rfl))) (ad_cons (ae_op op_addD vo_add (ae_ix ix_seq vo_ix (ae_var (pv 0)) ae_int (fun _ _=>rfl)) ae_int) ad_nil))) pa_nil)))))
noncomputable def m_law_with:List Sl→Tr Re:=aDef 3 0
 (aRet (aBin addD (aBin addE (aSl (aVar 0) aP0 (aP1 (aVar 1))) (aTup (aCons (aVar 2) aNil))) (aSl (aVar 0) (aP1 (aBin addD (aVar 1) (aC (.int 1)))) aP0)))
set_option maxHeartbeats 2000000 in
theorem c_law_with (T:Txt K mg):ACal (PK2 (K,cn)) P w K mg base "_law_with" 1 ["_law_some","_law_at","_law_thing"] m_law_with:=acal_of T.d__law_with sc__law_with rfl fun f cdv A outer sh H E hr=>by
  exact (ass_one (as_ret (ae_op op_addD vo_add (ae_op op_addE vo_addE (ae_sl (ae_var (pv 0)) ap_none (ap_some (ae_var (pv 1)))) (ae_tup (ad_cons (ae_var (pv 2)) ad_nil))) (ae_sl (ae_var (pv 0)) (ap_some (ae_op op_addD vo_add (ae_var (pv 1)) ae_int)) ap_none))))
noncomputable def w_law_share_1:List Sl→Tr Bool :=
 (aTest (aBin (cmpD fun i j=>decide (i > j)) (aVar 3) (aC (.int 0))))
noncomputable def l_law_share_1:List Sl→Tr Ou :=
 (aPar 2 3 (aCons (aVar 3) (aCons (aBin modD (aVar 2) (aVar 3)) aNil)))
noncomputable def m_law_share:List Sl→Tr Re:=aDef 2 2
 (aSeq (aSet 2 (aCB absD (aCons (aVar 0) aNil)))
 (aSeq (aSet 3 (aVar 1))
 (aSeq (whL w_law_share_1 l_law_share_1 100000)
 (aRet (aTup (aCons (aBin fdivD (aVar 0) (aVar 2)) (aCons (aBin fdivD (aVar 1) (aVar 2)) aNil)))))))
set_option maxHeartbeats 2000000 in
theorem c_law_share (T:Txt K mg):ACal (PK2 (K,cn)) P w K mg base "_law_share" 1 ["_law_top","_law_bottom"] m_law_share:=acal_of T.d__law_share sc__law_share rfl fun f cdv A outer sh H E hr=>by
  exact (ass_cons (as_set (ps_set (i:=2) sc__law_share.nd rfl (Or.inl rfl) (ae_cb (t:=tNil) (pe_callB call_abs rfl T.n_abs boot_abs (ad_cons (ae_var (pv 0)) ad_nil)) vc_abs)))
 (ass_cons (as_set (ps_set (i:=3) sc__law_share.nd rfl (Or.inl rfl) (ae_var (pv 1))))
 (ass_cons (as_while 100000 PassesOwn.never (at_cmp op_gt vo_cmp (ae_var (pv 3)) ae_int (nomark _))
  (ass_one (as_par (ps_par (i:=2) (j:=3) rfl sc__law_share.nd rfl rfl (by decide) rfl rfl (ad_cons (ae_var (pv 3)) (ad_cons (ae_op op_modN vo_mod (ae_var (pv 2)) (ae_var (pv 3))) ad_nil)) rfl))))
 (ass_one (as_ret (ae_tup (ad_cons (ae_op op_fdivG vo_fdiv (ae_var (pv 0)) (ae_var (pv 2))) (ad_cons (ae_op op_fdivG vo_fdiv (ae_var (pv 1)) (ae_var (pv 2))) ad_nil))))))))
noncomputable def m_is_whole_within:List Sl→Tr Re:=aDef 3 0
 (aRet (aAndV (aRe (aCall m_is_whole (aaCons (aVar 0) aaNil))) (aChain (cmpD fun i j=>decide (i≤j)) (cmpD fun i j=>decide (i≤j)) (aVar 1) (aVar 0) (aVar 2))))
set_option maxHeartbeats 2000000 in
theorem c_is_whole_within (T:Txt K mg):ACal (PK2 (K,cn)) P w K mg base "is_whole_within" 2 ["thing","lowest","highest"] m_is_whole_within:=acal_of T.d_is_whole_within sc_is_whole_within rfl fun f cdv A outer sh H E hr=>by
  exact (ass_one (as_ret (ae_and (ae_r (ar_call (c_is_whole T) (hr.mono (by decide)) rfl (aa_cons (ae_var (pv 0)) aa_nil))) (ae_one (ae_chain op_le vo_cmp op_le vo_cmp (ae_var (pv 1)) (ae_var (pv 0)) (ae_var (pv 2)))))))
noncomputable def m_is_share:List Sl→Tr Re:=aDef 1 2
 (aSeq (aIfS (aOr (aNot (aTru (aIsi "tuple" (aVar 0)))) (aTest (aBin neD (aCB lenD (aCons (aVar 0) aNil)) (aC (.int 2)))))
  (aRet (aC (.bool false)))
  aSkip)
 (aSeq (aAsg (gTupD (gsCons (gSet 1) (gsCons (gSet 2) gsNil))) (aVar 0))
 (aSeq (aIfS (aOr (aNot (aTru (aRe (aCall m_is_whole (aaCons (aVar 1) aaNil))))) (aOr (aNot (aTru (aRe (aCall m_is_whole (aaCons (aVar 2) aaNil))))) (aTest (aBin (cmpD fun i j=>decide (i < j)) (aVar 2) (aC (.int 1))))))
  (aRet (aC (.bool false)))
  aSkip)
 (aRet (aBin eqD (aRe (aCall m_common_divisor (aaCons (aVar 1) (aaCons (aVar 2) aaNil)))) (aC (.int 1)))))))
set_option maxHeartbeats 2000000 in
theorem c_is_share (T:Txt K mg):ACal (PK2 (K,cn)) P w K mg base "is_share" 2 ["thing"] m_is_share:=acal_of T.d_is_share sc_is_share rfl fun f cdv A outer sh H E hr=>by
  exact (ass_cons (as_if (at_w (aw_or (at_not (at_tru (ae_isi (T:="tuple") (Or.inr (Or.inr (Or.inr (Or.inr (Or.inl rfl))))) rfl (pe_callB call_isi rfl T.n_isinstance boot_isinstance (pa_cons (ae_var (pv 0)) (pa_cons (pe_bltn (v:=.ty "tuple") rfl T.n_tuple boot_tuple rfl) pa_nil)))))) (aw_or1 (at_cmp (op_neA hr) vo_ne (ae_cb (t:=tNil) (pe_callB call_len_seq rfl T.n_len boot_len (ad_cons (ae_var (pv 0)) ad_nil)) vc_len) ae_int (nomark _)))))
  (ass_one (as_ret ae_bl))
  ass_nil)
 (ass_cons (as_asg (ps_asg (ae_var (pv 0)) (ag_tup rfl (ags_cons (ag_name (pg_name (i:=1) sc_is_share.nd rfl (Or.inl rfl))) (ags_cons (ag_name (pg_name (i:=2) sc_is_share.nd rfl (Or.inl rfl))) ags_nil)) (gsLen_cons (gsLen_cons gsLen_nil)))))
 (ass_cons (as_if (at_w (aw_or (at_not (at_tru (ae_r (ar_call (c_is_whole T) (hr.mono (by decide)) rfl (aa_cons (ae_var (pv 1)) aa_nil))))) (aw_or (at_not (at_tru (ae_r (ar_call (c_is_whole T) (hr.mono (by decide)) rfl (aa_cons (ae_var (pv 2)) aa_nil))))) (aw_or1 (at_cmp op_lt vo_cmp (ae_var (pv 2)) ae_int (nomark _))))))
  (ass_one (as_ret ae_bl))
  ass_nil)
 (ass_one (as_ret (ae_cmp (op_eqA hr) vo_eq (ae_r (ar_call (c_common_divisor T) (hr.mono (by decide)) rfl (aa_cons (ae_var (pv 1)) (aa_cons (ae_var (pv 2)) aa_nil)))) ae_int (nomark _)))))))
noncomputable def m_share:List Sl→Tr Re:=aDef 2 1
 (aSeq (aIfS (aTest (aBin eqD (aVar 1) (aC (.int 0))))
  aNever
  aSkip)
 (aSeq (aSet 2 (aRe (aCall m_common_divisor (aaCons (aVar 0) (aaCons (aVar 1) aaNil)))))
 (aSeq (aIfS (aTest (aBin (cmpD fun i j=>decide (i < j)) (aVar 1) (aC (.int 0))))
  (aSet 2 (aNeg (aVar 2)))
  aSkip)
 (aRet (aTup (aCons (aBin fdivD (aVar 0) (aVar 2)) (aCons (aBin fdivD (aVar 1) (aVar 2)) aNil)))))))
set_option maxHeartbeats 2000000 in
theorem c_share (T:Txt K mg):ACal (PK2 (K,cn)) P w K mg base "share" 2 ["top","bottom"] m_share:=acal_of T.d_share sc_share rfl fun f cdv A outer sh H E hr=>by
  exact (ass_cons (as_if (at_cmp (op_eqA hr) vo_eq (ae_var (pv 1)) ae_int (nomark _))
  (ass_one as_never)
  ass_nil)
 (ass_cons (as_set (ps_set (i:=2) sc_share.nd rfl (Or.inl rfl) (ae_r (ar_call (c_common_divisor T) (hr.mono (by decide)) rfl (aa_cons (ae_var (pv 0)) (aa_cons (ae_var (pv 1)) aa_nil))))))
 (ass_cons (as_if (at_cmp op_lt vo_cmp (ae_var (pv 1)) ae_int (nomark _))
  (ass_one (as_set (ps_set (i:=2) sc_share.nd rfl (Or.inl rfl) (ae_neg (ae_var (pv 2))))))
  ass_nil)
 (ass_one (as_ret (ae_tup (ad_cons (ae_op op_fdivG vo_fdiv (ae_var (pv 0)) (ae_var (pv 2))) (ad_cons (ae_op op_fdivG vo_fdiv (ae_var (pv 1)) (ae_var (pv 2))) ad_nil))))))))
noncomputable def m_day_cost:List Sl→Tr Re:=aDef 3 3
 (aSeq (aSet 3 (aRe (aCall m_next_stock (aaCons (aVar 0) (aaCons (aVar 1) (aaCons (aVar 2) aaNil))))))
 (aSeq (aSet 4 (aBin subD (aVar 3) (aBin subD (aVar 1) (aVar 2))))
 (aSeq (aSet 5 (aIf (aTest (aBin (cmpD fun i j=>decide (i > j)) (aVar 3) (aC (.int 0)))) (aBin mulD' (aBin ixD (aVar 0) (aC (.int 4))) (aVar 3)) (aBin mulD' (aBin ixD (aVar 0) (aC (.int 5))) (aNeg (aVar 3)))))
 (aRet (aBin addD (aVar 5) (aBin mulD' (aBin ixD (aVar 0) (aC (.int 6))) (aVar 4)))))))
set_option maxHeartbeats 2000000 in
theorem c_day_cost (T:Txt K mg):ACal (PK2 (K,cn)) P w K mg base "day_cost" 2 ["shop","level","fall"] m_day_cost:=acal_of T.d_day_cost sc_day_cost rfl fun f cdv A outer sh H E hr=>by
  exact (ass_cons (as_set (ps_set (i:=3) sc_day_cost.nd rfl (Or.inl rfl) (ae_r (ar_call (c_next_stock T) (hr.mono (by decide)) rfl (aa_cons (ae_var (pv 0)) (aa_cons (ae_var (pv 1)) (aa_cons (ae_var (pv 2)) aa_nil)))))))
 (ass_cons (as_set (ps_set (i:=4) sc_day_cost.nd rfl (Or.inl rfl) (ae_op op_sub vo_sub (ae_var (pv 3)) (ae_op op_sub vo_sub (ae_var (pv 1)) (ae_var (pv 2))))))
 (ass_cons (as_set (ps_set (i:=5) sc_day_cost.nd rfl (Or.inl rfl) (ae_if (at_cmp op_gt vo_cmp (ae_var (pv 3)) ae_int (nomark _)) (ae_op op_mulD vo_mul (ae_ix ix_seq vo_ix (ae_var (pv 0)) (ae_gint rfl T.g_KEEP) (fun _ _=>rfl)) (ae_var (pv 3))) (ae_op op_mulD vo_mul (ae_ix ix_seq vo_ix (ae_var (pv 0)) (ae_gint rfl T.g_LACK) (fun _ _=>rfl)) (ae_neg (ae_var (pv 3)))))))
 (ass_one (as_ret (ae_op op_addD vo_add (ae_var (pv 5)) (ae_op op_mulD vo_mul (ae_ix ix_seq vo_ix (ae_var (pv 0)) (ae_gint rfl T.g_LOST) (fun _ _=>rfl)) (ae_var (pv 4)))))))))
noncomputable def q_end_costs_1:List Sl→Tr PyData :=
 (aRe (aCall m_end_cost (aaCons (aVar 1) (aaCons (aVar 0) aaNil))))
noncomputable def m_end_costs:List Sl→Tr Re:=aDef 1 0
 (aRetO (aLc (aIt (aRe (aCall m_stocks (aaCons (aVar 0) aaNil)))) 1 [0] (gSet 0) q_end_costs_1))
set_option maxHeartbeats 2000000 in
theorem c_end_costs (T:Txt K mg):ACal (PK2 (K,cn)) P w K mg base "end_costs" 2 ["shop"] m_end_costs:=acal_of T.d_end_costs sc_end_costs rfl fun f cdv A outer sh H E hr=>by
  exact (ass_one (as_retO (ao_lc (pe_lc N_end_costs ["stock"] [0] rfl (ai_seq (ae_r (ar_call (c_stocks T) (hr.mono (by decide)) rfl (aa_cons (ae_var (pv 0)) aa_nil)))) (fun b=>(ag_name (pg_name (i:=0) (show ((bN N_end_costs ["stock"] [0])).Nodup by decide +kernel) rfl (Or.inl rfl)))) (fun b=>(ae_r (ar_call (c_end_cost T) (hr.mono (by decide)) rfl (aa_cons (ae_var (pv 1)) (aa_cons (ae_var (pv 0)) aa_nil))))) rfl (show BlkOk N_end_costs (defScope s_end_costs) _ [0] from ⟨rfl,by decide +kernel,by decide +kernel,by decide +kernel,by decide +kernel⟩)) (pres_set (by decide)))))
noncomputable def m_law_price:List Sl→Tr Re:=aDef 1 2
 (aSeq (aSet 1 (aRe (aCall m_law_take (aaPen 0 (aaCons (aC (.int 6)) aaNil)))))
 (aSeq (aSet 2 (aBin subD (aC (.int 1000000)) (aRe (aCall m_law_take (aaPen 0 (aaCons (aC (.int 3)) aaNil))))))
 (aRet (aBin ixD (aLst (aLo (aCons (aC (.int 0)) (aCons (aBin addD (aC (.int 1)) (aRe (aCall m_law_take (aaPen 0 (aaCons (aC (.int 3)) aaNil))))) (aCons (aRe (aCall m_law_take (aaPen 0 (aaCons (aC (.int 12)) aaNil)))) (aCons (aRe (aCall m_law_take (aaPen 0 (aaCons (aC (.int 60)) aaNil)))) (aCons (aRe (aCall m_law_take (aaPen 0 (aaCons (aC (.int 1000)) aaNil)))) (aCons (aVar 2) aNil)))))))) (aVar 1)))))
set_option maxHeartbeats 2000000 in
theorem c_law_price (T:Txt K mg):ACal (PK2 (K,cn)) P w K mg base "_law_price" 2 ["_law_pen_here"] m_law_price:=acal_of T.d__law_price sc__law_price rfl fun f cdv A outer sh H E hr=>by
  exact (ass_cons (as_set (ps_set (i:=1) sc__law_price.nd rfl (Or.inl rfl) (ae_r (ar_call (c_law_take T) (hr.mono (by decide)) rfl (aa_pen (pv 0) (aa_cons ae_int aa_nil))))))
 (ass_cons (as_set (ps_set (i:=2) sc__law_price.nd rfl (Or.inl rfl) (ae_op op_sub vo_sub ae_int (ae_r (ar_call (c_law_take T) (hr.mono (by decide)) rfl (aa_pen (pv 0) (aa_cons ae_int aa_nil)))))))
 (ass_one (as_ret (ae_ix ix_seq vo_ix (ae_o (ao_lst (ad_cons ae_int (ad_cons (ae_op op_addD vo_add ae_int (ae_r (ar_call (c_law_take T) (hr.mono (by decide)) rfl (aa_pen (pv 0) (aa_cons ae_int aa_nil))))) (ad_cons (ae_r (ar_call (c_law_take T) (hr.mono (by decide)) rfl (aa_pen (pv 0) (aa_cons ae_int aa_nil)))) (ad_cons (ae_r (ar_call (c_law_take T) (hr.mono (by decide)) rfl (aa_pen (pv 0) (aa_cons ae_int aa_nil)))) (ad_cons (ae_r (ar_call (c_law_take T) (hr.mono (by decide)) rfl (aa_pen (pv 0) (aa_cons ae_int aa_nil)))) (ad_cons (ae_var (pv 2)) ad_nil)))))))) (ae_var (pv 1)) (fun _ _=>rfl))))))
noncomputable def l_law_day_1:List Sl→Tr Ou :=
 (aSeq (aSet 4 (aRe (aCall m_law_take (aaPen 0 (aaCons (aC (.int 4)) aaNil)))))
 (aApp 2 (aBin ixD (aLst (aLo (aCons (aC (.int 0)) (aCons (aC (.int 1)) (aCons (aBin addD (aC (.int 1)) (aRe (aCall m_law_take (aaPen 0 (aaCons (aC (.int 5)) aaNil))))) (aCons (aRe (aCall m_law_take (aaPen 0 (aaCons (aC (.int 1001)) aaNil)))) aNil)))))) (aVar 4))))
noncomputable def m_law_day:List Sl→Tr Re:=aDef 2 4
 (aSeq (aSetO 2 (aLo aNil))
 (aSeq (aFor (aRng1 (aCons (aBin addD (aC (.int 1)) (aRe (aCall m_law_take (aaPen 0 (aaCons (aVar 1) aaNil))))) aNil)) (gSet 3) l_law_day_1)
 (aSeq (aSet 5 (aRe (aCall m_law_take (aaPen 0 (aaCons (aCBF lenD (aaLend 2 aaNil)) aaNil)))))
 (aSeq (aSetIx 2 (aVar 5) (aCB max2D (aCons (aC (.int 1)) (aCons (aIxO 2 (aVar 5)) aNil))))
 (aFz 2 (aRet (aCB tupD (aCons (aVar 2) aNil))))))))
set_option maxHeartbeats 2000000 in
theorem c_law_day (T:Txt K mg):ACal (PK2 (K,cn)) P w K mg base "_law_day" 2 ["_law_pen_here","_law_many"] m_law_day:=acal_of T.d__law_day sc__law_day rfl fun f cdv A outer sh H E hr=>by
  exact (ass_cons (as_setO (ps_set (i:=2) sc__law_day.nd rfl (Or.inl rfl) (ao_lst ad_nil)))
 (ass_cons (as_for PassesOwn.never rfl (ai_rng1 (pi_range1 rfl T.n_range (ad_cons (ae_op op_addD vo_add ae_int (ae_r (ar_call (c_law_take T) (hr.mono (by decide)) rfl (aa_pen (pv 0) (aa_cons (ae_var (pv 1)) aa_nil))))) ad_nil))) (ag_name (pg_name (i:=3) sc__law_day.nd rfl (Or.inl rfl)))
  (ass_cons (as_set (ps_set (i:=4) sc__law_day.nd rfl (Or.inl rfl) (ae_r (ar_call (c_law_take T) (hr.mono (by decide)) rfl (aa_pen (pv 0) (aa_cons ae_int aa_nil))))))
 (ass_one (as_app (ps_expr (pe_bm PySem.F.plainAttrs_list PySem.F.slot_list_append PySem.F.type_list_append mt_append (pv 2) (pa_cons (ae_ix ix_seq vo_ix (ae_o (ao_lst (ad_cons ae_int (ad_cons ae_int (ad_cons (ae_op op_addD vo_add ae_int (ae_r (ar_call (c_law_take T) (hr.mono (by decide)) rfl (aa_pen (pv 0) (aa_cons ae_int aa_nil))))) (ad_cons (ae_r (ar_call (c_law_take T) (hr.mono (by decide)) rfl (aa_pen (pv 0) (aa_cons ae_int aa_nil)))) ad_nil)))))) (ae_var (pv 4)) (fun _ _=>rfl)) pa_nil)))))))
 (ass_cons (as_set (ps_set (i:=5) sc__law_day.nd rfl (Or.inl rfl) (ae_r (ar_call (c_law_take T) (hr.mono (by decide)) rfl (aa_pen (pv 0) (aa_cons (ae_cbF pkLow (pe_callB call_len_seq rfl T.n_len boot_len (ab_lend (pv 2) ab_nil)) vc_len) aa_nil))))))
 (ass_cons (as_setIx (ps_asg (ae_cb (t:=tNil) (pe_callB (call_max2 rfl) rfl T.n_max boot_max (ad_cons ae_int (ad_cons (ae_ixO (ae_var (pv 5)) (pv 2) (fun _ _=>rfl)) ad_nil))) vc_max2) (pg_sub (pv 2) (ae_var (pv 5)) set_list)))
 (ass_one (as_fz (k:=2) (as_ret (ae_cb (t:=tNil) (pe_callTy call_tuple_of rfl T.n_tuple boot_tuple (ad_cons (ae_var (pv 2)) ad_nil)) vc_tup))))))))
noncomputable def l_law_level_cost_1:List Sl→Tr Ou :=
 (aSeq (aAsg (gTupD (gsCons (gSet 9) (gsCons (gSet 10) gsNil))) (aRe (aCall m_law_rest (aaCons (aVar 0) (aaCons (aVar 3) (aaCons (aVar 7) aaNil))))))
 (aSeq (aAsg (gTupD (gsCons (gSet 11) (gsCons (gSet 12) gsNil))) (aBin ixD (aVar 4) (aBin addD (aVar 10) (aBin ixD (aVar 0) (aC (.int 1))))))
 (aSeq (aSet 5 (aBin addD (aBin mulD' (aVar 5) (aVar 12)) (aBin mulD' (aBin mulD' (aVar 8) (aBin addD (aBin mulD' (aVar 9) (aVar 12)) (aVar 11))) (aVar 6))))
 (aSet 6 (aBin mulD' (aVar 6) (aVar 12))))))
noncomputable def m_law_level_cost:List Sl→Tr Re:=aDef 5 8
 (aSeq (aSet 5 (aC (.int 0)))
 (aSeq (aSet 6 (aC (.int 1)))
 (aSeq (aFor (aEnum (aVar 1)) (gTupD (gsCons (gSet 7) (gsCons (gSet 8) gsNil))) l_law_level_cost_1)
 (aSeq (aSet 6 (aBin mulD' (aVar 6) (aCB sumD (aCons (aVar 1) aNil))))
 (aRet (aTup (aCons (aBin addD (aVar 5) (aBin mulD' (aRe (aCall m_law_order (aaCons (aVar 0) (aaCons (aVar 2) (aaCons (aVar 3) aaNil))))) (aVar 6))) (aCons (aVar 6) aNil))))))))
set_option maxHeartbeats 2000000 in
theorem c_law_level_cost (T:Txt K mg):ACal (PK2 (K,cn)) P w K mg base "_law_level_cost" 2 ["_law_shop_here","_law_one","_law_stock","_law_level","_law_later"] m_law_level_cost:=acal_of T.d__law_level_cost sc__law_level_cost rfl fun f cdv A outer sh H E hr=>by
  exact (ass_cons (as_set (ps_set (i:=5) sc__law_level_cost.nd rfl (Or.inl rfl) ae_int))
 (ass_cons (as_set (ps_set (i:=6) sc__law_level_cost.nd rfl (Or.inl rfl) ae_int))
 (ass_cons (as_for PassesOwn.never rfl (ai_enum (pi_enum rfl rfl T.n_enumerate (ae_var (pv 1)))) (ag_tup rfl (ags_cons (ag_name (pg_name (i:=7) sc__law_level_cost.nd rfl (Or.inl rfl))) (ags_cons (ag_name (pg_name (i:=8) sc__law_level_cost.nd rfl (Or.inl rfl))) ags_nil)) (gsLen_cons (gsLen_cons gsLen_nil)))
  (ass_cons (as_asg (ps_asg (ae_r (ar_call (c_law_rest T) (hr.mono (by decide)) rfl (aa_cons (ae_var (pv 0)) (aa_cons (ae_var (pv 3)) (aa_cons (ae_var (pv 7)) aa_nil))))) (ag_tup rfl (ags_cons (ag_name (pg_name (i:=9) sc__law_level_cost.nd rfl (Or.inl rfl))) (ags_cons (ag_name (pg_name (i:=10) sc__law_level_cost.nd rfl (Or.inl rfl))) ags_nil)) (gsLen_cons (gsLen_cons gsLen_nil)))))
 (ass_cons (as_asg (ps_asg (ae_ix ix_seq vo_ix (ae_var (pv 4)) (ae_op op_addD vo_add (ae_var (pv 10)) (ae_ix ix_seq vo_ix (ae_var (pv 0)) ae_int (fun _ _=>rfl))) (fun _ _=>rfl)) (ag_tup rfl (ags_cons (ag_name (pg_name (i:=11) sc__law_level_cost.nd rfl (Or.inl rfl))) (ags_cons (ag_name (pg_name (i:=12) sc__law_level_cost.nd rfl (Or.inl rfl))) ags_nil)) (gsLen_cons (gsLen_cons gsLen_nil)))))
 (ass_cons (as_set (ps_set (i:=5) sc__law_level_cost.nd rfl (Or.inl rfl) (ae_op op_addD vo_add (ae_op op_mulD vo_mul (ae_var (pv 5)) (ae_var (pv 12))) (ae_op op_mulD vo_mul (ae_op op_mulD vo_mul (ae_var (pv 8)) (ae_op op_addD vo_add (ae_op op_mulD vo_mul (ae_var (pv 9)) (ae_var (pv 12))) (ae_var (pv 11)))) (ae_var (pv 6))))))
 (ass_one (as_set (ps_set (i:=6) sc__law_level_cost.nd rfl (Or.inl rfl) (ae_op op_mulD vo_mul (ae_var (pv 6)) (ae_var (pv 12))))))))))
 (ass_cons (as_set (ps_set (i:=6) sc__law_level_cost.nd rfl (Or.inl rfl) (ae_op op_mulD vo_mul (ae_var (pv 6)) (ae_cb (t:=tNil) (pe_callB (call_sumD rfl) rfl T.n_sum boot_sum (ad_cons (ae_var (pv 1)) ad_nil)) vc_sum))))
 (ass_one (as_ret (ae_tup (ad_cons (ae_op op_addD vo_add (ae_var (pv 5)) (ae_op op_mulD vo_mul (ae_r (ar_call (c_law_order T) (hr.mono (by decide)) rfl (aa_cons (ae_var (pv 0)) (aa_cons (ae_var (pv 2)) (aa_cons (ae_var (pv 3)) aa_nil))))) (ae_var (pv 6)))) (ad_cons (ae_var (pv 6)) ad_nil)))))))))
noncomputable def m_law_other_cost:List Sl→Tr Re:=aDef 2 1
 (aSeq (aSet 2 (aBin ixD (aLst (aLo (aCons (aTup (aCons (aC (.int 1)) (aCons (aC (.int 1)) aNil))) (aCons (aTup (aCons (aBin subD (aC (.int 0)) (aC (.int 1))) (aCons (aC (.int 1)) aNil))) (aCons (aTup (aCons (aC (.int 1)) (aCons (aBin ixD (aVar 1) (aC (.int 1))) aNil))) (aCons (aTup (aCons (aBin subD (aC (.int 0)) (aC (.int 1))) (aCons (aBin ixD (aVar 1) (aC (.int 1))) aNil))) (aCons (aTup (aCons (aC (.int 1)) (aCons (aBin powD (aC (.int 10)) (aC (.int 20))) aNil))) (aCons (aTup (aCons (aBin powD (aC (.int 10)) (aC (.int 25))) (aCons (aC (.int 1)) aNil))) aNil)))))))) (aRe (aCall m_law_take (aaPen 0 (aaCons (aC (.int 6)) aaNil))))))
 (aRetR (aCall m_law_share (aaCons (aBin addD (aBin mulD' (aBin ixD (aVar 1) (aC (.int 0))) (aBin ixD (aVar 2) (aC (.int 1)))) (aBin mulD' (aBin ixD (aVar 2) (aC (.int 0))) (aBin ixD (aVar 1) (aC (.int 1))))) (aaCons (aBin mulD' (aBin ixD (aVar 1) (aC (.int 1))) (aBin ixD (aVar 2) (aC (.int 1)))) aaNil)))))
set_option maxHeartbeats 2000000 in
theorem c_law_other_cost (T:Txt K mg):ACal (PK2 (K,cn)) P w K mg base "_law_other_cost" 2 ["_law_pen_here","_law_cost"] m_law_other_cost:=acal_of T.d__law_other_cost sc__law_other_cost rfl fun f cdv A outer sh H E hr=>by
  exact (ass_cons (as_set (ps_set (i:=2) sc__law_other_cost.nd rfl (Or.inl rfl) (ae_ix ix_seq vo_ix (ae_o (ao_lst (ad_cons (ae_tup (ad_cons ae_int (ad_cons ae_int ad_nil))) (ad_cons (ae_tup (ad_cons (ae_op op_sub vo_sub ae_int ae_int) (ad_cons ae_int ad_nil))) (ad_cons (ae_tup (ad_cons ae_int (ad_cons (ae_ix ix_seq vo_ix (ae_var (pv 1)) ae_int (fun _ _=>rfl)) ad_nil))) (ad_cons (ae_tup (ad_cons (ae_op op_sub vo_sub ae_int ae_int) (ad_cons (ae_ix ix_seq vo_ix (ae_var (pv 1)) ae_int (fun _ _=>rfl)) ad_nil))) (ad_cons (ae_tup (ad_cons ae_int (ad_cons (ae_op op_pow vo_pow ae_int ae_int) ad_nil))) (ad_cons (ae_tup (ad_cons (ae_op op_pow vo_pow ae_int ae_int) (ad_cons ae_int ad_nil))) ad_nil)))))))) (ae_r (ar_call (c_law_take T) (hr.mono (by decide)) rfl (aa_pen (pv 0) (aa_cons ae_int aa_nil)))) (fun _ _=>rfl))))
 (ass_one (as_retR (ar_call (c_law_share T) (hr.mono (by decide)) rfl (aa_cons (ae_op op_addD vo_add (ae_op op_mulD vo_mul (ae_ix ix_seq vo_ix (ae_var (pv 1)) ae_int (fun _ _=>rfl)) (ae_ix ix_seq vo_ix (ae_var (pv 2)) ae_int (fun _ _=>rfl))) (ae_op op_mulD vo_mul (ae_ix ix_seq vo_ix (ae_var (pv 2)) ae_int (fun _ _=>rfl)) (ae_ix ix_seq vo_ix (ae_var (pv 1)) ae_int (fun _ _=>rfl)))) (aa_cons (ae_op op_mulD vo_mul (ae_ix ix_seq vo_ix (ae_var (pv 1)) ae_int (fun _ _=>rfl)) (ae_ix ix_seq vo_ix (ae_var (pv 2)) ae_int (fun _ _=>rfl))) aa_nil))))))
noncomputable def m_law_exchanged:List Sl→Tr Re:=aDef 2 2
 (aSeq (aSet 2 (aRe (aCall m_law_take (aaPen 0 (aaCons (aCB lenD (aCons (aVar 1) aNil)) aaNil)))))
 (aSeq (aSet 3 (aRe (aCall m_law_take (aaPen 0 (aaCons (aCB lenD (aCons (aVar 1) aNil)) aaNil)))))
 (aRetR (aCall m_law_with (aaCons (aRe (aCall m_law_with (aaCons (aVar 1) (aaCons (aVar 2) (aaCons (aBin ixD (aVar 1) (aVar 3)) aaNil))))) (aaCons (aVar 3) (aaCons (aBin ixD (aVar 1) (aVar 2)) aaNil)))))))
set_option maxHeartbeats 2000000 in
theorem c_law_exchanged (T:Txt K mg):ACal (PK2 (K,cn)) P w K mg base "_law_exchanged" 2 ["_law_pen_here","_law_some"] m_law_exchanged:=acal_of T.d__law_exchanged sc__law_exchanged rfl fun f cdv A outer sh H E hr=>by
  exact (ass_cons (as_set (ps_set (i:=2) sc__law_exchanged.nd rfl (Or.inl rfl) (ae_r (ar_call (c_law_take T) (hr.mono (by decide)) rfl (aa_pen (pv 0) (aa_cons (ae_cb (t:=tNil) (pe_callB call_len_seq rfl T.n_len boot_len (ad_cons (ae_var (pv 1)) ad_nil)) vc_len) aa_nil))))))
 (ass_cons (as_set (ps_set (i:=3) sc__law_exchanged.nd rfl (Or.inl rfl) (ae_r (ar_call (c_law_take T) (hr.mono (by decide)) rfl (aa_pen (pv 0) (aa_cons (ae_cb (t:=tNil) (pe_callB call_len_seq rfl T.n_len boot_len (ad_cons (ae_var (pv 1)) ad_nil)) vc_len) aa_nil))))))
 (ass_one (as_retR (ar_call (c_law_with T) (hr.mono (by decide)) rfl (aa_cons (ae_r (ar_call (c_law_with T) (hr.mono (by decide)) rfl (aa_cons (ae_var (pv 1)) (aa_cons (ae_var (pv 2)) (aa_cons (ae_ix ix_seq vo_ix (ae_var (pv 1)) (ae_var (pv 3)) (fun _ _=>rfl)) aa_nil))))) (aa_cons (ae_var (pv 3)) (aa_cons (ae_ix ix_seq vo_ix (ae_var (pv 1)) (ae_var (pv 2)) (fun _ _=>rfl)) aa_nil))))))))
noncomputable def m_is_level:List Sl→Tr Re:=aDef 3 0
 (aRetR (aCall m_is_whole_within (aaCons (aVar 2) (aaCons (aVar 1) (aaCons (aBin ixD (aVar 0) (aC (.int 0))) aaNil)))))
set_option maxHeartbeats 2000000 in
theorem c_is_level (T:Txt K mg):ACal (PK2 (K,cn)) P w K mg base "is_level" 3 ["shop","stock","thing"] m_is_level:=acal_of T.d_is_level sc_is_level rfl fun f cdv A outer sh H E hr=>by
  exact (ass_one (as_retR (ar_call (c_is_whole_within T) (hr.mono (by decide)) rfl (aa_cons (ae_var (pv 2)) (aa_cons (ae_var (pv 1)) (aa_cons (ae_ix ix_seq vo_ix (ae_var (pv 0)) (ae_gint rfl T.g_TOP) (fun _ _=>rfl)) aa_nil))))))
noncomputable def l_weighed_1:List Sl→Tr Ou :=
 (aSeq (aSet 8 (aBin ixD (aVar 3) (aBin addD (aRe (aCall m_next_stock (aaCons (aVar 0) (aaCons (aVar 2) (aaCons (aVar 6) aaNil))))) (aBin ixD (aVar 0) (aC (.int 1))))))
 (aAug iaddD 5 (aBin mulD' (aVar 7) (aBin addD (aBin mulD' (aVar 4) (aRe (aCall m_day_cost (aaCons (aVar 0) (aaCons (aVar 2) (aaCons (aVar 6) aaNil)))))) (aVar 8)))))
noncomputable def m_weighed:List Sl→Tr Re:=aDef 5 4
 (aSeq (aSet 5 (aC (.int 0)))
 (aSeq (aFor (aEnum (aVar 1)) (gTupD (gsCons (gSet 6) (gsCons (gSet 7) gsNil))) l_weighed_1)
 (aRetV 5)))
set_option maxHeartbeats 2000000 in
theorem c_weighed (T:Txt K mg):ACal (PK2 (K,cn)) P w K mg base "weighed" 3 ["shop","day","level","ahead","scale"] m_weighed:=acal_of T.d_weighed sc_weighed rfl fun f cdv A outer sh H E hr=>by
  exact (ass_cons (as_set (ps_set (i:=5) sc_weighed.nd rfl (Or.inl rfl) ae_int))
 (ass_cons (as_for PassesOwn.never rfl (ai_enum (pi_enum rfl rfl T.n_enumerate (ae_var (pv 1)))) (ag_tup rfl (ags_cons (ag_name (pg_name (i:=6) sc_weighed.nd rfl (Or.inl rfl))) (ags_cons (ag_name (pg_name (i:=7) sc_weighed.nd rfl (Or.inl rfl))) ags_nil)) (gsLen_cons (gsLen_cons gsLen_nil)))
  (ass_cons (as_set (ps_set (i:=8) sc_weighed.nd rfl (Or.inl rfl) (ae_ix ix_seq vo_ix (ae_var (pv 3)) (ae_op op_addD vo_add (ae_r (ar_call (c_next_stock T) (hr.mono (by decide)) rfl (aa_cons (ae_var (pv 0)) (aa_cons (ae_var (pv 2)) (aa_cons (ae_var (pv 6)) aa_nil))))) (ae_ix ix_seq vo_ix (ae_var (pv 0)) (ae_gint rfl T.g_DEPTH) (fun _ _=>rfl))) (fun _ _=>rfl))))
 (ass_one (as_aug vo_iadd (ps_aug (i:=5) sc_weighed.nd rfl (Or.inl rfl) (ae_op op_mulD vo_mul (ae_var (pv 7)) (ae_op op_addD vo_add (ae_op op_mulD vo_mul (ae_var (pv 4)) (ae_r (ar_call (c_day_cost T) (hr.mono (by decide)) rfl (aa_cons (ae_var (pv 0)) (aa_cons (ae_var (pv 2)) (aa_cons (ae_var (pv 6)) aa_nil)))))) (ae_var (pv 8)))) (pip iop_add))))))
 (ass_one (as_retV (pv 5)))))
noncomputable def q_law_shop_1:List Sl→Tr PyData :=
 (aRe (aCall m_law_price (aaPen 1 aaNil)))
noncomputable def m_law_shop:List Sl→Tr Re:=aDef 2 2
 (aSeq (aSet 2 (aRe (aCall m_law_take (aaPen 0 (aaCons (aBin addD (aVar 1) (aC (.int 1))) aaNil)))))
 (aSeq (aSet 3 (aRe (aCall m_law_take (aaPen 0 (aaCons (aBin subD (aBin addD (aVar 1) (aC (.int 1))) (aVar 2)) aaNil)))))
 (aRet (aBin addD (aTup (aCons (aVar 2) (aCons (aVar 3) aNil))) (aCB tupD (aCons (aLst (aLc (aRng1 (aCons (aC (.int 7)) aNil)) 1 [0] (gSet 0) q_law_shop_1)) aNil))))))
set_option maxHeartbeats 2000000 in
theorem c_law_shop (T:Txt K mg):ACal (PK2 (K,cn)) P w K mg base "_law_shop" 3 ["_law_pen_here","_law_most"] m_law_shop:=acal_of T.d__law_shop sc__law_shop rfl fun f cdv A outer sh H E hr=>by
  exact (ass_cons (as_set (ps_set (i:=2) sc__law_shop.nd rfl (Or.inl rfl) (ae_r (ar_call (c_law_take T) (hr.mono (by decide)) rfl (aa_pen (pv 0) (aa_cons (ae_op op_addD vo_add (ae_var (pv 1)) ae_int) aa_nil))))))
 (ass_cons (as_set (ps_set (i:=3) sc__law_shop.nd rfl (Or.inl rfl) (ae_r (ar_call (c_law_take T) (hr.mono (by decide)) rfl (aa_pen (pv 0) (aa_cons (ae_op op_sub vo_sub (ae_op op_addD vo_add (ae_var (pv 1)) ae_int) (ae_var (pv 2))) aa_nil))))))
 (ass_one (as_ret (ae_op op_addD vo_add (ae_tup (ad_cons (ae_var (pv 2)) (ad_cons (ae_var (pv 3)) ad_nil))) (ae_cb (t:=tNil) (pe_callTy call_tuple_of rfl T.n_tuple boot_tuple (ad_cons (ae_o (ao_lc (pe_lc N__law_shop ["_law_k"] [0] rfl (ai_rng1 (pi_range1 rfl T.n_range (ad_cons ae_int ad_nil))) (fun b=>(ag_name (pg_name (i:=0) (show ((bN N__law_shop ["_law_k"] [0])).Nodup by decide +kernel) rfl (Or.inl rfl)))) (fun b=>(ae_r (ar_call (c_law_price T) (hr.mono (by decide)) rfl (aa_pen (pv 1) aa_nil)))) rfl (show BlkOk N__law_shop (defScope s__law_shop) _ [0] from ⟨rfl,by decide +kernel,by decide +kernel,by decide +kernel,by decide +kernel⟩)) (pres_set (by decide)))) ad_nil)) vc_tup))))))
noncomputable def l_law_best_1:List Sl→Tr Ou :=
 (aSeq (aAsg (gTupD (gsCons (gSet 6) (gsCons (gSet 7) gsNil))) (aRe (aCall m_law_level_cost (aaCons (aVar 0) (aaCons (aVar 1) (aaCons (aVar 2) (aaCons (aVar 5) (aaCons (aVar 3) aaNil))))))))
 (aIfS (aOr (aTest (aBin isND (aVar 4) (aC .none))) (aTest (aBin (cmpD fun i j=>decide (i < j)) (aBin mulD' (aVar 6) (aBin ixD (aBin ixD (aVar 4) (aC (.int 0))) (aC (.int 1)))) (aBin mulD' (aBin ixD (aBin ixD (aVar 4) (aC (.int 0))) (aC (.int 0))) (aVar 7)))))
  (aSet 4 (aTup (aCons (aRe (aCall m_law_share (aaCons (aVar 6) (aaCons (aVar 7) aaNil)))) (aCons (aVar 5) aNil))))
  aSkip))
noncomputable def m_law_best:List Sl→Tr Re:=aDef 4 4
 (aSeq (aSet 4 (aC .none))
 (aSeq (aFor (aRng2 (aCons (aVar 2) (aCons (aBin addD (aBin ixD (aVar 0) (aC (.int 0))) (aC (.int 1))) aNil))) (gSet 5) l_law_best_1)
 (aRetV 4)))
set_option maxHeartbeats 2000000 in
theorem c_law_best (T:Txt K mg):ACal (PK2 (K,cn)) P w K mg base "_law_best" 3 ["_law_shop_here","_law_one","_law_stock","_law_later"] m_law_best:=acal_of T.d__law_best sc__law_best rfl fun f cdv A outer sh H E hr=>by
  exact (ass_cons (as_set (ps_set (i:=4) sc__law_best.nd rfl (Or.inl rfl) ae_non))
 (ass_cons (as_for PassesOwn.never rfl (ai_rng2 (pi_range2 rfl T.n_range (ad_cons (ae_var (pv 2)) (ad_cons (ae_op op_addD vo_add (ae_ix ix_seq vo_ix (ae_var (pv 0)) ae_int (fun _ _=>rfl)) ae_int) ad_nil)))) (ag_name (pg_name (i:=5) sc__law_best.nd rfl (Or.inl rfl)))
  (ass_cons (as_asg (ps_asg (ae_r (ar_call (c_law_level_cost T) (hr.mono (by decide)) rfl (aa_cons (ae_var (pv 0)) (aa_cons (ae_var (pv 1)) (aa_cons (ae_var (pv 2)) (aa_cons (ae_var (pv 5)) (aa_cons (ae_var (pv 3)) aa_nil))))))) (ag_tup rfl (ags_cons (ag_name (pg_name (i:=6) sc__law_best.nd rfl (Or.inl rfl))) (ags_cons (ag_name (pg_name (i:=7) sc__law_best.nd rfl (Or.inl rfl))) ags_nil)) (gsLen_cons (gsLen_cons gsLen_nil)))))
 (ass_one (as_if (at_w (aw_or (at_cmp op_isN vo_isN (ae_var (pv 4)) ae_non (nomark _)) (aw_or1 (at_cmp op_lt vo_cmp (ae_op op_mulD vo_mul (ae_var (pv 6)) (ae_ix ix_seq vo_ix (ae_ix ix_seq vo_ix (ae_var (pv 4)) ae_int (fun _ _=>rfl)) ae_int (fun _ _=>rfl))) (ae_op op_mulD vo_mul (ae_ix ix_seq vo_ix (ae_ix ix_seq vo_ix (ae_var (pv 4)) ae_int (fun _ _=>rfl)) ae_int (fun _ _=>rfl)) (ae_var (pv 7))) (nomark _)))))
  (ass_one (as_set (ps_set (i:=4) sc__law_best.nd rfl (Or.inl rfl) (ae_tup (ad_cons (ae_r (ar_call (c_law_share T) (hr.mono (by decide)) rfl (aa_cons (ae_var (pv 6)) (aa_cons (ae_var (pv 7)) aa_nil)))) (ad_cons (ae_var (pv 5)) ad_nil))))))
  ass_nil))))
 (ass_one (as_retV (pv 4)))))
noncomputable def q_law_let_1:List Sl→Tr PyData :=
 (aTup (aCons (aRe (aCall m_law_end (aaCons (aVar 1) (aaCons (aVar 0) aaNil)))) (aCons (aC (.int 1)) aNil)))
noncomputable def l_law_let_1:List Sl→Tr Ou :=
 (aSeq (aAsg (gTupD (gsCons (gSet 9) (gsCons (gSet 10) gsNil))) (aRe (aCall m_law_level_cost (aaCons (aVar 0) (aaCons (aVar 4) (aaCons (aVar 6) (aaCons (aVar 11) (aaCons (aVar 3) aaNil))))))))
 (aIfS (aTest (aBin (cmpD fun i j=>decide (i < j)) (aBin mulD' (aVar 9) (aBin ixD (aVar 7) (aC (.int 1)))) (aBin mulD' (aBin ixD (aVar 7) (aC (.int 0))) (aVar 10))))
  (aRet (aC (.bool false)))
  aSkip))
noncomputable def l_law_let_2:List Sl→Tr Ou :=
 (aSeq (aAsg (gTupD (gsCons (gSet 9) (gsCons (gSet 10) gsNil))) (aRe (aCall m_law_level_cost (aaCons (aVar 0) (aaCons (aVar 4) (aaCons (aVar 6) (aaCons (aVar 8) (aaCons (aVar 3) aaNil))))))))
 (aSeq (aIfS (aOr (aTest (aBin neD (aBin mulD' (aVar 9) (aBin ixD (aVar 7) (aC (.int 1)))) (aBin mulD' (aBin ixD (aVar 7) (aC (.int 0))) (aVar 10)))) (aNot (aTest (aChain (cmpD fun i j=>decide (i≤j)) (cmpD fun i j=>decide (i≤j)) (aVar 6) (aVar 8) (aBin ixD (aVar 0) (aC (.int 0)))))))
  (aRet (aC (.bool false)))
  aSkip)
 (aFor (aRng2 (aCons (aVar 6) (aCons (aBin addD (aBin ixD (aVar 0) (aC (.int 0))) (aC (.int 1))) aNil))) (gSet 11) l_law_let_1)))
noncomputable def q_law_let_2:List Sl→Tr PyData :=
 (aVar 0)
noncomputable def l_law_let_3:List Sl→Tr Ou :=
 (aSeq (aFor (aZip (aRe (aCall m_law_stocks (aaCons (aVar 0) aaNil))) (aVar 5)) (gTupD (gsCons (gSet 6) (gsCons (gTupD (gsCons (gSet 7) (gsCons (gSet 8) gsNil))) gsNil))) l_law_let_2)
 (aSet 3 (aLst (aLc (aIt (aVar 5)) 2 [] (gTupD (gsCons (gSet 0) (gsCons (gSet 1) gsNil))) q_law_let_2))))
noncomputable def m_law_let:List Sl→Tr Re:=aDef 3 9
 (aSeq (aSet 3 (aLst (aLc (aIt (aRe (aCall m_law_stocks (aaCons (aVar 0) aaNil)))) 1 [0] (gSet 0) q_law_let_1)))
 (aSeq (aFor (aZip (aBin revD (aVar 1) (aNeg (aC (.int 1)))) (aBin revD (aVar 2) (aNeg (aC (.int 1))))) (gTupD (gsCons (gSet 4) (gsCons (gSet 5) gsNil))) l_law_let_3)
 (aRet (aC (.bool true)))))
set_option maxHeartbeats 2000000 in
theorem c_law_let (T:Txt K mg):ACal (PK2 (K,cn)) P w K mg base "_law_let" 3 ["_law_shop_here","_law_falls","_law_paper"] m_law_let:=acal_of T.d__law_let sc__law_let rfl fun f cdv A outer sh H E hr=>by
  exact (ass_cons (as_setLcD (ps_setLc (i:=3) N__law_let ["_law_stock"] [0] rfl sc__law_let.nd rfl rfl (ai_seq (ae_r (ar_call (c_law_stocks T) (hr.mono (by decide)) rfl (aa_cons (ae_var (pv 0)) aa_nil)))) (fun b=>(ag_name (pg_name (i:=0) (show ((bN N__law_let ["_law_stock"] [0])).Nodup by decide +kernel) rfl (Or.inl rfl)))) (fun b=>(ae_tup (ad_cons (ae_r (ar_call (c_law_end T) (hr.mono (by decide)) rfl (aa_cons (ae_var (pv 1)) (aa_cons (ae_var (pv 0)) aa_nil)))) (ad_cons ae_int ad_nil)))) rfl (show BlkOk N__law_let (defScope s__law_let) _ [0] from ⟨rfl,by decide +kernel,by decide +kernel,by decide +kernel,by decide +kernel⟩) rfl) (pres_set (by decide)))
 (ass_cons (as_for PassesOwn.never rfl (ai_zip (pi_zip rfl rfl T.n_zip (ae_slv (ae_var (pv 1)) (ae_neg ae_int)) (ae_slv (ae_var (pv 2)) (ae_neg ae_int)))) (ag_tup rfl (ags_cons (ag_name (pg_name (i:=4) sc__law_let.nd rfl (Or.inl rfl))) (ags_cons (ag_name (pg_name (i:=5) sc__law_let.nd rfl (Or.inl rfl))) ags_nil)) (gsLen_cons (gsLen_cons gsLen_nil)))
  (ass_cons (as_for PassesOwn.never rfl (ai_zip (pi_zip rfl rfl T.n_zip (ae_r (ar_call (c_law_stocks T) (hr.mono (by decide)) rfl (aa_cons (ae_var (pv 0)) aa_nil))) (ae_var (pv 5)))) (ag_tup rfl (ags_cons (ag_name (pg_name (i:=6) sc__law_let.nd rfl (Or.inl rfl))) (ags_cons (ag_tup rfl (ags_cons (ag_name (pg_name (i:=7) sc__law_let.nd rfl (Or.inl rfl))) (ags_cons (ag_name (pg_name (i:=8) sc__law_let.nd rfl (Or.inl rfl))) ags_nil)) (gsLen_cons (gsLen_cons gsLen_nil))) ags_nil)) (gsLen_cons (gsLen_cons gsLen_nil)))
  (ass_cons (as_asg (ps_asg (ae_r (ar_call (c_law_level_cost T) (hr.mono (by decide)) rfl (aa_cons (ae_var (pv 0)) (aa_cons (ae_var (pv 4)) (aa_cons (ae_var (pv 6)) (aa_cons (ae_var (pv 8)) (aa_cons (ae_var (pv 3)) aa_nil))))))) (ag_tup rfl (ags_cons (ag_name (pg_name (i:=9) sc__law_let.nd rfl (Or.inl rfl))) (ags_cons (ag_name (pg_name (i:=10) sc__law_let.nd rfl (Or.inl rfl))) ags_nil)) (gsLen_cons (gsLen_cons gsLen_nil)))))
 (ass_cons (as_if (at_w (aw_or (at_cmp (op_neA hr) vo_ne (ae_op op_mulD vo_mul (ae_var (pv 9)) (ae_ix ix_seq vo_ix (ae_var (pv 7)) ae_int (fun _ _=>rfl))) (ae_op op_mulD vo_mul (ae_ix ix_seq vo_ix (ae_var (pv 7)) ae_int (fun _ _=>rfl)) (ae_var (pv 10))) (nomark _)) (aw_or1 (at_not (at_chain op_le vo_cmp op_le vo_cmp (ae_var (pv 6)) (ae_var (pv 8)) (ae_ix ix_seq vo_ix (ae_var (pv 0)) ae_int (fun _ _=>rfl)))))))
  (ass_one (as_ret ae_bl))
  ass_nil)
 (ass_one (as_for PassesOwn.never rfl (ai_rng2 (pi_range2 rfl T.n_range (ad_cons (ae_var (pv 6)) (ad_cons (ae_op op_addD vo_add (ae_ix ix_seq vo_ix (ae_var (pv 0)) ae_int (fun _ _=>rfl)) ae_int) ad_nil)))) (ag_name (pg_name (i:=11) sc__law_let.nd rfl (Or.inl rfl)))
  (ass_cons (as_asg (ps_asg (ae_r (ar_call (c_law_level_cost T) (hr.mono (by decide)) rfl (aa_cons (ae_var (pv 0)) (aa_cons (ae_var (pv 4)) (aa_cons (ae_var (pv 6)) (aa_cons (ae_var (pv 11)) (aa_cons (ae_var (pv 3)) aa_nil))))))) (ag_tup rfl (ags_cons (ag_name (pg_name (i:=9) sc__law_let.nd rfl (Or.inl rfl))) (ags_cons (ag_name (pg_name (i:=10) sc__law_let.nd rfl (Or.inl rfl))) ags_nil)) (gsLen_cons (gsLen_cons gsLen_nil)))))
 (ass_one (as_if (at_cmp op_lt vo_cmp (ae_op op_mulD vo_mul (ae_var (pv 9)) (ae_ix ix_seq vo_ix (ae_var (pv 7)) ae_int (fun _ _=>rfl))) (ae_op op_mulD vo_mul (ae_ix ix_seq vo_ix (ae_var (pv 7)) ae_int (fun _ _=>rfl)) (ae_var (pv 10))) (nomark _))
  (ass_one (as_ret ae_bl))
  ass_nil))))))))
 (ass_one (as_setLcD (ps_setLc (i:=3) N__law_let ["_law_cost","_law_level"] [] rfl sc__law_let.nd rfl rfl (ai_seq (ae_var (pv 5))) (fun b=>(ag_tup rfl (ags_cons (ag_name (pg_name (i:=0) (show ((bN N__law_let ["_law_cost","_law_level"] [])).Nodup by decide +kernel) rfl (Or.inl rfl))) (ags_cons (ag_name (pg_name (i:=1) (show ((bN N__law_let ["_law_cost","_law_level"] [])).Nodup by decide +kernel) rfl (Or.inl rfl))) ags_nil)) (gsLen_cons (gsLen_cons gsLen_nil)))) (fun b=>(ae_var (pv 0))) rfl (show BlkOk N__law_let (defScope s__law_let) _ [] from ⟨rfl,by decide +kernel,by decide +kernel,by decide +kernel,by decide +kernel⟩) rfl) (pres_tup (pres_cons (pres_set (by decide)) (pres_cons (pres_set (by decide)) pres_nil)))))))
 (ass_one (as_ret ae_bl))))
noncomputable def l_costs_by_1:List Sl→Tr Ou :=
 (aApp 6 (aBin addD (aBin mulD' (aVar 5) (aRe (aCall m_order_cost (aaCons (aVar 0) (aaCons (aVar 7) (aaCons (aVar 8) aaNil)))))) (aRe (aCall m_weighed (aaCons (aVar 0) (aaCons (aVar 1) (aaCons (aVar 8) (aaCons (aVar 3) (aaCons (aVar 4) aaNil)))))))))
noncomputable def m_costs_by:List Sl→Tr Re:=aDef 5 4
 (aSeq (aSet 5 (aBin mulD' (aVar 4) (aCB sumD (aCons (aVar 1) aNil))))
 (aSeq (aSetO 6 (aLo aNil))
 (aSeq (aFor (aZip (aRe (aCall m_stocks (aaCons (aVar 0) aaNil))) (aVar 2)) (gTupD (gsCons (gSet 7) (gsCons (gSet 8) gsNil))) l_costs_by_1)
 (aRetV 6))))
set_option maxHeartbeats 2000000 in
theorem c_costs_by (T:Txt K mg):ACal (PK2 (K,cn)) P w K mg base "costs_by" 4 ["shop","day","levels","ahead","scale"] m_costs_by:=acal_of T.d_costs_by sc_costs_by rfl fun f cdv A outer sh H E hr=>by
  exact (ass_cons (as_set (ps_set (i:=5) sc_costs_by.nd rfl (Or.inl rfl) (ae_op op_mulD vo_mul (ae_var (pv 4)) (ae_cb (t:=tNil) (pe_callB (call_sumD rfl) rfl T.n_sum boot_sum (ad_cons (ae_var (pv 1)) ad_nil)) vc_sum))))
 (ass_cons (as_setO (ps_set (i:=6) sc_costs_by.nd rfl (Or.inl rfl) (ao_lst ad_nil)))
 (ass_cons (as_for PassesOwn.never rfl (ai_zip (pi_zip rfl rfl T.n_zip (ae_r (ar_call (c_stocks T) (hr.mono (by decide)) rfl (aa_cons (ae_var (pv 0)) aa_nil))) (ae_var (pv 2)))) (ag_tup rfl (ags_cons (ag_name (pg_name (i:=7) sc_costs_by.nd rfl (Or.inl rfl))) (ags_cons (ag_name (pg_name (i:=8) sc_costs_by.nd rfl (Or.inl rfl))) ags_nil)) (gsLen_cons (gsLen_cons gsLen_nil)))
  (ass_one (as_app (ps_expr (pe_bm PySem.F.plainAttrs_list PySem.F.slot_list_append PySem.F.type_list_append mt_append (pv 6) (pa_cons (ae_op op_addD vo_add (ae_op op_mulD vo_mul (ae_var (pv 5)) (ae_r (ar_call (c_order_cost T) (hr.mono (by decide)) rfl (aa_cons (ae_var (pv 0)) (aa_cons (ae_var (pv 7)) (aa_cons (ae_var (pv 8)) aa_nil)))))) (ae_r (ar_call (c_weighed T) (hr.mono (by decide)) rfl (aa_cons (ae_var (pv 0)) (aa_cons (ae_var (pv 1)) (aa_cons (ae_var (pv 8)) (aa_cons (ae_var (pv 3)) (aa_cons (ae_var (pv 4)) aa_nil)))))))) pa_nil))))))
 (ass_one (as_retV (pv 6))))))
noncomputable def m_is_entry:List Sl→Tr Re:=aDef 3 2
 (aSeq (aIfS (aOr (aNot (aTru (aIsi "tuple" (aVar 2)))) (aTest (aBin neD (aCB lenD (aCons (aVar 2) aNil)) (aC (.int 2)))))
  (aRet (aC (.bool false)))
  aSkip)
 (aSeq (aAsg (gTupD (gsCons (gSet 3) (gsCons (gSet 4) gsNil))) (aVar 2))
 (aRet (aAndV (aRe (aCall m_is_share (aaCons (aVar 3) aaNil))) (aRe (aCall m_is_level (aaCons (aVar 0) (aaCons (aVar 1) (aaCons (aVar 4) aaNil)))))))))
set_option maxHeartbeats 2000000 in
theorem c_is_entry (T:Txt K mg):ACal (PK2 (K,cn)) P w K mg base "is_entry" 4 ["shop","stock","thing"] m_is_entry:=acal_of T.d_is_entry sc_is_entry rfl fun f cdv A outer sh H E hr=>by
  exact (ass_cons (as_if (at_w (aw_or (at_not (at_tru (ae_isi (T:="tuple") (Or.inr (Or.inr (Or.inr (Or.inr (Or.inl rfl))))) rfl (pe_callB call_isi rfl T.n_isinstance boot_isinstance (pa_cons (ae_var (pv 2)) (pa_cons (pe_bltn (v:=.ty "tuple") rfl T.n_tuple boot_tuple rfl) pa_nil)))))) (aw_or1 (at_cmp (op_neA hr) vo_ne (ae_cb (t:=tNil) (pe_callB call_len_seq rfl T.n_len boot_len (ad_cons (ae_var (pv 2)) ad_nil)) vc_len) ae_int (nomark _)))))
  (ass_one (as_ret ae_bl))
  ass_nil)
 (ass_cons (as_asg (ps_asg (ae_var (pv 2)) (ag_tup rfl (ags_cons (ag_name (pg_name (i:=3) sc_is_entry.nd rfl (Or.inl rfl))) (ags_cons (ag_name (pg_name (i:=4) sc_is_entry.nd rfl (Or.inl rfl))) ags_nil)) (gsLen_cons (gsLen_cons gsLen_nil)))))
 (ass_one (as_ret (ae_and (ae_r (ar_call (c_is_share T) (hr.mono (by decide)) rfl (aa_cons (ae_var (pv 3)) aa_nil))) (ae_one (ae_r (ar_call (c_is_level T) (hr.mono (by decide)) rfl (aa_cons (ae_var (pv 0)) (aa_cons (ae_var (pv 1)) (aa_cons (ae_var (pv 4)) aa_nil)))))))))))
noncomputable def q_none_less_1:List Sl→Tr PyData :=
 (aRe (aCall m_weighed (aaCons (aVar 1) (aaCons (aVar 2) (aaCons (aVar 0) (aaCons (aVar 3) (aaCons (aVar 4) aaNil)))))))
noncomputable def l_none_less_1:List Sl→Tr Ou :=
 (aIfS (aTest (aBin (cmpD fun i j=>decide (i < j)) (aBin addD (aBin mulD' (aVar 5) (aRe (aCall m_order_cost (aaCons (aVar 0) (aaCons (aVar 7) (aaCons (aVar 9) aaNil)))))) (aBin ixD (aVar 6) (aBin addD (aVar 9) (aBin ixD (aVar 0) (aC (.int 1)))))) (aVar 8)))
  (aRet (aC (.bool false)))
  aSkip)
noncomputable def l_none_less_2:List Sl→Tr Ou :=
 (aFor (aRng2 (aCons (aVar 7) (aCons (aBin addD (aBin ixD (aVar 0) (aC (.int 0))) (aC (.int 1))) aNil))) (gSet 9) l_none_less_1)
noncomputable def m_none_less:List Sl→Tr Re:=aDef 5 5
 (aSeq (aSet 5 (aBin mulD' (aVar 4) (aCB sumD (aCons (aVar 1) aNil))))
 (aSeq (aSet 6 (aLst (aLc (aIt (aRe (aCall m_stocks (aaCons (aVar 0) aaNil)))) 1 [0,1,3,4] (gSet 0) q_none_less_1)))
 (aSeq (aFor (aZip (aRe (aCall m_stocks (aaCons (aVar 0) aaNil))) (aVar 2)) (gTupD (gsCons (gSet 7) (gsCons (gSet 8) gsNil))) l_none_less_2)
 (aRet (aC (.bool true))))))
set_option maxHeartbeats 2000000 in
theorem c_none_less (T:Txt K mg):ACal (PK2 (K,cn)) P w K mg base "none_less" 4 ["shop","day","costs","ahead","scale"] m_none_less:=acal_of T.d_none_less sc_none_less rfl fun f cdv A outer sh H E hr=>by
  exact (ass_cons (as_set (ps_set (i:=5) sc_none_less.nd rfl (Or.inl rfl) (ae_op op_mulD vo_mul (ae_var (pv 4)) (ae_cb (t:=tNil) (pe_callB (call_sumD rfl) rfl T.n_sum boot_sum (ad_cons (ae_var (pv 1)) ad_nil)) vc_sum))))
 (ass_cons (as_setLcD (ps_setLc (i:=6) N_none_less ["level"] [0,1,3,4] rfl sc_none_less.nd rfl rfl (ai_seq (ae_r (ar_call (c_stocks T) (hr.mono (by decide)) rfl (aa_cons (ae_var (pv 0)) aa_nil)))) (fun b=>(ag_name (pg_name (i:=0) (show ((bN N_none_less ["level"] [0,1,3,4])).Nodup by decide +kernel) rfl (Or.inl rfl)))) (fun b=>(ae_r (ar_call (c_weighed T) (hr.mono (by decide)) rfl (aa_cons (ae_var (pv 1)) (aa_cons (ae_var (pv 2)) (aa_cons (ae_var (pv 0)) (aa_cons (ae_var (pv 3)) (aa_cons (ae_var (pv 4)) aa_nil)))))))) rfl (show BlkOk N_none_less (defScope s_none_less) _ [0,1,3,4] from ⟨rfl,by decide +kernel,by decide +kernel,by decide +kernel,by decide +kernel⟩) rfl) (pres_set (by decide)))
 (ass_cons (as_for PassesOwn.never rfl (ai_zip (pi_zip rfl rfl T.n_zip (ae_r (ar_call (c_stocks T) (hr.mono (by decide)) rfl (aa_cons (ae_var (pv 0)) aa_nil))) (ae_var (pv 2)))) (ag_tup rfl (ags_cons (ag_name (pg_name (i:=7) sc_none_less.nd rfl (Or.inl rfl))) (ags_cons (ag_name (pg_name (i:=8) sc_none_less.nd rfl (Or.inl rfl))) ags_nil)) (gsLen_cons (gsLen_cons gsLen_nil)))
  (ass_one (as_for PassesOwn.never rfl (ai_rng2 (pi_range2 rfl T.n_range (ad_cons (ae_var (pv 7)) (ad_cons (ae_op op_addD vo_add (ae_ix ix_seq vo_ix (ae_var (pv 0)) (ae_gint rfl T.g_TOP) (fun _ _=>rfl)) ae_int) ad_nil)))) (ag_name (pg_name (i:=9) sc_none_less.nd rfl (Or.inl rfl)))
  (ass_one (as_if (at_cmp op_lt vo_cmp (ae_op op_addD vo_add (ae_op op_mulD vo_mul (ae_var (pv 5)) (ae_r (ar_call (c_order_cost T) (hr.mono (by decide)) rfl (aa_cons (ae_var (pv 0)) (aa_cons (ae_var (pv 7)) (aa_cons (ae_var (pv 9)) aa_nil)))))) (ae_ix ix_seq vo_ix (ae_var (pv 6)) (ae_op op_addD vo_add (ae_var (pv 9)) (ae_ix ix_seq vo_ix (ae_var (pv 0)) (ae_gint rfl T.g_DEPTH) (fun _ _=>rfl))) (fun _ _=>rfl))) (ae_var (pv 8)) (nomark _))
  (ass_one (as_ret ae_bl))
  ass_nil)))))
 (ass_one (as_ret ae_bl)))))
noncomputable def q_law_ahead_1:List Sl→Tr PyData :=
 (aTup (aCons (aRe (aCall m_law_end (aaCons (aVar 1) (aaCons (aVar 0) aaNil)))) (aCons (aC (.int 1)) aNil)))
noncomputable def q_law_ahead_2:List Sl→Tr PyData :=
 (aBin ixD (aVar 0) (aC (.int 0)))
noncomputable def q_law_ahead_3:List Sl→Tr PyData :=
 (aRe (aCall m_law_best (aaCons (aVar 1) (aaCons (aVar 2) (aaCons (aVar 0) (aaCons (aVar 3) aaNil))))))
noncomputable def l_law_ahead_1:List Sl→Tr Ou :=
 (aSeq (aSet 5 (aLst (aLc (aIt (aRe (aCall m_law_stocks (aaCons (aVar 0) aaNil)))) 1 [0] (gSet 0) q_law_ahead_1)))
 (aSeq (aIfS (aTest (aBin neD (aVar 3) (aLst (aLo aNil))))
  (aSet 5 (aLst (aLc (aIt (aBin ixD (aVar 3) (aC (.int 0)))) 1 [] (gSet 0) q_law_ahead_2)))
  aSkip)
 (aSet 3 (aBin addD (aLst (aLo (aCons (aCB tupD (aCons (aLst (aLc (aIt (aRe (aCall m_law_stocks (aaCons (aVar 0) aaNil)))) 1 [0,4,5] (gSet 0) q_law_ahead_3)) aNil)) aNil))) (aVar 3)))))
noncomputable def m_law_ahead:List Sl→Tr Re:=aDef 3 3
 (aSeq (aSet 3 (aLst (aCBo lstD (aCons (aVar 2) aNil))))
 (aSeq (aFor (aIt (aBin revD (aSl (aVar 1) aP0 (aP1 (aBin subD (aCB lenD (aCons (aVar 1) aNil)) (aCB lenD (aCons (aVar 2) aNil))))) (aNeg (aC (.int 1))))) (gSet 4) l_law_ahead_1)
 (aRet (aCB tupD (aCons (aVar 3) aNil)))))
set_option maxHeartbeats 2000000 in
theorem c_law_ahead (T:Txt K mg):ACal (PK2 (K,cn)) P w K mg base "_law_ahead" 4 ["_law_shop_here","_law_falls","_law_rows"] m_law_ahead:=acal_of T.d__law_ahead sc__law_ahead rfl fun f cdv A outer sh H E hr=>by
  exact (ass_cons (as_set (ps_set (i:=3) sc__law_ahead.nd rfl (Or.inl rfl) (ae_o (ao_cb (t:=tNil) (pe_callTy call_list_of rfl T.n_list boot_list (ad_cons (ae_var (pv 2)) ad_nil)) vc_lst))))
 (ass_cons (as_for PassesOwn.never rfl (ai_seq (ae_slv (ae_sl (ae_var (pv 1)) ap_none (ap_some (ae_op op_sub vo_sub (ae_cb (t:=tNil) (pe_callB call_len_seq rfl T.n_len boot_len (ad_cons (ae_var (pv 1)) ad_nil)) vc_len) (ae_cb (t:=tNil) (pe_callB call_len_seq rfl T.n_len boot_len (ad_cons (ae_var (pv 2)) ad_nil)) vc_len)))) (ae_neg ae_int))) (ag_name (pg_name (i:=4) sc__law_ahead.nd rfl (Or.inr rfl)))
  (ass_cons (as_set (ps_set (i:=5) sc__law_ahead.nd rfl (Or.inr rfl) (ae_o (ao_lc (pe_lc N__law_ahead ["_law_stock"] [0] rfl (ai_seq (ae_r (ar_call (c_law_stocks T) (hr.mono (by decide)) rfl (aa_cons (ae_var (pv 0)) aa_nil)))) (fun b=>(ag_name (pg_name (i:=0) (show ((bN N__law_ahead ["_law_stock"] [0])).Nodup by decide +kernel) rfl (Or.inl rfl)))) (fun b=>(ae_tup (ad_cons (ae_r (ar_call (c_law_end T) (hr.mono (by decide)) rfl (aa_cons (ae_var (pv 1)) (aa_cons (ae_var (pv 0)) aa_nil)))) (ad_cons ae_int ad_nil)))) rfl (show BlkOk N__law_ahead (defScope s__law_ahead) _ [0] from ⟨rfl,by decide +kernel,by decide +kernel,by decide +kernel,by decide +kernel⟩)) (pres_set (by decide))))))
 (ass_cons (as_if (at_cmp (op_neA hr) vo_ne (ae_var (pv 3)) (ae_o (ao_lst ad_nil)) (nomark _))
  (ass_one (as_set (ps_set (i:=5) sc__law_ahead.nd rfl (Or.inr rfl) (ae_o (ao_lc (pe_lc N__law_ahead ["_law_entry"] [] rfl (ai_seq (ae_ix ix_seq vo_ix (ae_var (pv 3)) ae_int (fun _ _=>rfl))) (fun b=>(ag_name (pg_name (i:=0) (show ((bN N__law_ahead ["_law_entry"] [])).Nodup by decide +kernel) rfl (Or.inl rfl)))) (fun b=>(ae_ix ix_seq vo_ix (ae_var (pv 0)) ae_int (fun _ _=>rfl))) rfl (show BlkOk N__law_ahead (defScope s__law_ahead) _ [] from ⟨rfl,by decide +kernel,by decide +kernel,by decide +kernel,by decide +kernel⟩)) (pres_set (by decide)))))))
  ass_nil)
 (ass_one (as_set (ps_set (i:=3) sc__law_ahead.nd rfl (Or.inl rfl) (ae_op op_addD vo_add (ae_o (ao_lst (ad_cons (ae_cb (t:=tNil) (pe_callTy call_tuple_of rfl T.n_tuple boot_tuple (ad_cons (ae_o (ao_lc (pe_lc N__law_ahead ["_law_stock"] [0,4,5] rfl (ai_seq (ae_r (ar_call (c_law_stocks T) (hr.mono (by decide)) rfl (aa_cons (ae_var (pv 0)) aa_nil)))) (fun b=>(ag_name (pg_name (i:=0) (show ((bN N__law_ahead ["_law_stock"] [0,4,5])).Nodup by decide +kernel) rfl (Or.inl rfl)))) (fun b=>(ae_r (ar_call (c_law_best T) (hr.mono (by decide)) rfl (aa_cons (ae_var (pv 1)) (aa_cons (ae_var (pv 2)) (aa_cons (ae_var (pv 0)) (aa_cons (ae_var (pv 3)) aa_nil))))))) rfl (show BlkOk N__law_ahead (defScope s__law_ahead) _ [0,4,5] from ⟨rfl,by decide +kernel,by decide +kernel,by decide +kernel,by decide +kernel⟩)) (pres_set (by decide)))) ad_nil)) vc_tup) ad_nil))) (ae_var (pv 3)))))))))
 (ass_one (as_ret (ae_cb (t:=tNil) (pe_callTy call_tuple_of rfl T.n_tuple boot_tuple (ad_cons (ae_var (pv 3)) ad_nil)) vc_tup)))))
noncomputable def q_law_mixed_1:List Sl→Tr PyData :=
 (aVar 0)
noncomputable def q_law_mixed_2:List Sl→Tr PyData :=
 (aRe (aCall m_law_best (aaCons (aVar 1) (aaCons (aBin ixD (aVar 3) (aVar 4)) (aaCons (aVar 0) (aaCons (aVar 2) aaNil))))))
noncomputable def m_law_mixed:List Sl→Tr Re:=aDef 4 4
 (aSeq (aSet 4 (aRe (aCall m_law_take (aaPen 0 (aaCons (aCB lenD (aCons (aVar 3) aNil)) aaNil)))))
 (aSeq (aSet 5 (aRe (aCall m_law_take (aaPen 0 (aaCons (aC (.int 3)) aaNil)))))
 (aSeq (aIfS (aTest (aBin eqD (aVar 5) (aC (.int 0))))
  (aRetR (aCall m_law_exchanged (aaPen 0 (aaCons (aVar 3) aaNil))))
  aSkip)
 (aSeq (aIfS (aTest (aBin eqD (aVar 5) (aC (.int 1))))
  (aRetR (aCall m_law_with (aaCons (aVar 3) (aaCons (aVar 4) (aaCons (aRe (aCall m_law_exchanged (aaPen 0 (aaCons (aBin ixD (aVar 3) (aVar 4)) aaNil)))) aaNil)))))
  aSkip)
 (aSeq (aSet 6 (aLst (aLc (aIt (aBin ixD (aVar 3) (aRe (aCall m_law_take (aaPen 0 (aaCons (aCB lenD (aCons (aVar 3) aNil)) aaNil)))))) 2 [] (gTupD (gsCons (gSet 0) (gsCons (gSet 1) gsNil))) q_law_mixed_1)))
 (aSeq (aSet 7 (aLst (aLc (aIt (aRe (aCall m_law_stocks (aaCons (aVar 1) aaNil)))) 1 [1,6,2,4] (gSet 0) q_law_mixed_2)))
 (aRetR (aCall m_law_with (aaCons (aVar 3) (aaCons (aVar 4) (aaCons (aCB tupD (aCons (aVar 7) aNil)) aaNil)))))))))))
set_option maxHeartbeats 2000000 in
theorem c_law_mixed (T:Txt K mg):ACal (PK2 (K,cn)) P w K mg base "_law_mixed" 4 ["_law_pen_here","_law_shop_here","_law_falls","_law_paper"] m_law_mixed:=acal_of T.d__law_mixed sc__law_mixed rfl fun f cdv A outer sh H E hr=>by
  exact (ass_cons (as_set (ps_set (i:=4) sc__law_mixed.nd rfl (Or.inr rfl) (ae_r (ar_call (c_law_take T) (hr.mono (by decide)) rfl (aa_pen (pv 0) (aa_cons (ae_cb (t:=tNil) (pe_callB call_len_seq rfl T.n_len boot_len (ad_cons (ae_var (pv 3)) ad_nil)) vc_len) aa_nil))))))
 (ass_cons (as_set (ps_set (i:=5) sc__law_mixed.nd rfl (Or.inl rfl) (ae_r (ar_call (c_law_take T) (hr.mono (by decide)) rfl (aa_pen (pv 0) (aa_cons ae_int aa_nil))))))
 (ass_cons (as_if (at_cmp (op_eqA hr) vo_eq (ae_var (pv 5)) ae_int (nomark _))
  (ass_one (as_retR (ar_call (c_law_exchanged T) (hr.mono (by decide)) rfl (aa_pen (pv 0) (aa_cons (ae_var (pv 3)) aa_nil)))))
  ass_nil)
 (ass_cons (as_if (at_cmp (op_eqA hr) vo_eq (ae_var (pv 5)) ae_int (nomark _))
  (ass_one (as_retR (ar_call (c_law_with T) (hr.mono (by decide)) rfl (aa_cons (ae_var (pv 3)) (aa_cons (ae_var (pv 4)) (aa_cons (ae_r (ar_call (c_law_exchanged T) (hr.mono (by decide)) rfl (aa_pen (pv 0) (aa_cons (ae_ix ix_seq vo_ix (ae_var (pv 3)) (ae_var (pv 4)) (fun _ _=>rfl)) aa_nil)))) aa_nil))))))
  ass_nil)
 (ass_cons (as_set (ps_set (i:=6) sc__law_mixed.nd rfl (Or.inr rfl) (ae_o (ao_lc (pe_lc N__law_mixed ["_law_cost","_law_level"] [] rfl (ai_seq (ae_ix ix_seq vo_ix (ae_var (pv 3)) (ae_r (ar_call (c_law_take T) (hr.mono (by decide)) rfl (aa_pen (pv 0) (aa_cons (ae_cb (t:=tNil) (pe_callB call_len_seq rfl T.n_len boot_len (ad_cons (ae_var (pv 3)) ad_nil)) vc_len) aa_nil)))) (fun _ _=>rfl))) (fun b=>(ag_tup rfl (ags_cons (ag_name (pg_name (i:=0) (show ((bN N__law_mixed ["_law_cost","_law_level"] [])).Nodup by decide +kernel) rfl (Or.inl rfl))) (ags_cons (ag_name (pg_name (i:=1) (show ((bN N__law_mixed ["_law_cost","_law_level"] [])).Nodup by decide +kernel) rfl (Or.inl rfl))) ags_nil)) (gsLen_cons (gsLen_cons gsLen_nil)))) (fun b=>(ae_var (pv 0))) rfl (show BlkOk N__law_mixed (defScope s__law_mixed) _ [] from ⟨rfl,by decide +kernel,by decide +kernel,by decide +kernel,by decide +kernel⟩)) (pres_tup (pres_cons (pres_set (by decide)) (pres_cons (pres_set (by decide)) pres_nil)))))))
 (ass_cons (as_setLcD (ps_setLc (i:=7) N__law_mixed ["_law_stock"] [1,6,2,4] rfl sc__law_mixed.nd rfl rfl (ai_seq (ae_r (ar_call (c_law_stocks T) (hr.mono (by decide)) rfl (aa_cons (ae_var (pv 1)) aa_nil)))) (fun b=>(ag_name (pg_name (i:=0) (show ((bN N__law_mixed ["_law_stock"] [1,6,2,4])).Nodup by decide +kernel) rfl (Or.inl rfl)))) (fun b=>(ae_r (ar_call (c_law_best T) (hr.mono (by decide)) rfl (aa_cons (ae_var (pv 1)) (aa_cons (ae_ix ix_seq vo_ix (ae_var (pv 3)) (ae_var (pv 4)) (fun _ _=>rfl)) (aa_cons (ae_var (pv 0)) (aa_cons (ae_var (pv 2)) aa_nil))))))) rfl (show BlkOk N__law_mixed (defScope s__law_mixed) _ [1,6,2,4] from ⟨rfl,by decide +kernel,by decide +kernel,by decide +kernel,by decide +kernel⟩) rfl) (pres_set (by decide)))
 (ass_one (as_retR (ar_call (c_law_with T) (hr.mono (by decide)) rfl (aa_cons (ae_var (pv 3)) (aa_cons (ae_var (pv 4)) (aa_cons (ae_cb (t:=tNil) (pe_callTy call_tuple_of rfl T.n_tuple boot_tuple (ad_cons (ae_var (pv 7)) ad_nil)) vc_tup) aa_nil))))))))))))
noncomputable def q_is_paper_day_1:List Sl→Tr PyData :=
 (aRe (aCall m_is_entry (aaCons (aVar 2) (aaCons (aVar 0) (aaCons (aVar 1) aaNil)))))
noncomputable def m_is_paper_day:List Sl→Tr Re:=aDef 2 1
 (aSeq (aSet 2 (aRe (aCall m_stocks (aaCons (aVar 0) aaNil))))
 (aSeq (aIfS (aOr (aNot (aTru (aIsi "tuple" (aVar 1)))) (aTest (aBin neD (aCB lenD (aCons (aVar 1) aNil)) (aCB lenD (aCons (aVar 2) aNil)))))
  (aRet (aC (.bool false)))
  aSkip)
 (aRet (aCB allD (aCons (aLst (aLc (aZip (aVar 2) (aVar 1)) 2 [0] (gTupD (gsCons (gSet 0) (gsCons (gSet 1) gsNil))) q_is_paper_day_1)) aNil)))))
set_option maxHeartbeats 2000000 in
theorem c_is_paper_day (T:Txt K mg):ACal (PK2 (K,cn)) P w K mg base "is_paper_day" 5 ["shop","thing"] m_is_paper_day:=acal_of T.d_is_paper_day sc_is_paper_day rfl fun f cdv A outer sh H E hr=>by
  exact (ass_cons (as_set (ps_set (i:=2) sc_is_paper_day.nd rfl (Or.inl rfl) (ae_r (ar_call (c_stocks T) (hr.mono (by decide)) rfl (aa_cons (ae_var (pv 0)) aa_nil)))))
 (ass_cons (as_if (at_w (aw_or (at_not (at_tru (ae_isi (T:="tuple") (Or.inr (Or.inr (Or.inr (Or.inr (Or.inl rfl))))) rfl (pe_callB call_isi rfl T.n_isinstance boot_isinstance (pa_cons (ae_var (pv 1)) (pa_cons (pe_bltn (v:=.ty "tuple") rfl T.n_tuple boot_tuple rfl) pa_nil)))))) (aw_or1 (at_cmp (op_neA hr) vo_ne (ae_cb (t:=tNil) (pe_callB call_len_seq rfl T.n_len boot_len (ad_cons (ae_var (pv 1)) ad_nil)) vc_len) (ae_cb (t:=tNil) (pe_callB call_len_seq rfl T.n_len boot_len (ad_cons (ae_var (pv 2)) ad_nil)) vc_len) (nomark _)))))
  (ass_one (as_ret ae_bl))
  ass_nil)
 (ass_one (as_ret (ae_cb (t:=tNil) (pe_callB (call_allD rfl) rfl T.n_all boot_all (ad_cons (ae_o (ao_lc (pe_lc N_is_paper_day ["stock","entry"] [0] rfl (ai_zip (pi_zip rfl rfl T.n_zip (ae_var (pv 2)) (ae_var (pv 1)))) (fun b=>(ag_tup rfl (ags_cons (ag_name (pg_name (i:=0) (show ((bN N_is_paper_day ["stock","entry"] [0])).Nodup by decide +kernel) rfl (Or.inl rfl))) (ags_cons (ag_name (pg_name (i:=1) (show ((bN N_is_paper_day ["stock","entry"] [0])).Nodup by decide +kernel) rfl (Or.inl rfl))) ags_nil)) (gsLen_cons (gsLen_cons gsLen_nil)))) (fun b=>(ae_r (ar_call (c_is_entry T) (hr.mono (by decide)) rfl (aa_cons (ae_var (pv 2)) (aa_cons (ae_var (pv 0)) (aa_cons (ae_var (pv 1)) aa_nil)))))) rfl (show BlkOk N_is_paper_day (defScope s_is_paper_day) _ [0] from ⟨rfl,by decide +kernel,by decide +kernel,by decide +kernel,by decide +kernel⟩)) (pres_tup (pres_cons (pres_set (by decide)) (pres_cons (pres_set (by decide)) pres_nil))))) ad_nil)) vc_all)))))
noncomputable def q_law_bent_1:List Sl→Tr PyData :=
 (aTup (aCons (aTup (aCons (aBin addD (aVar 1) (aBin mulD' (aVar 3) (aVar 2))) (aCons (aVar 2) aNil))) (aCons (aVar 0) aNil)))
noncomputable def m_law_bent:List Sl→Tr Re:=aDef 4 7
 (aSeq (aSet 4 (aRe (aCall m_law_take (aaPen 0 (aaCons (aC (.int 4)) aaNil)))))
 (aSeq (aSet 5 (aRe (aCall m_law_take (aaPen 0 (aaCons (aCB lenD (aCons (aVar 3) aNil)) aaNil)))))
 (aSeq (aSet 6 (aRe (aCall m_law_take (aaPen 0 (aaCons (aCB lenD (aCons (aBin ixD (aVar 3) (aVar 5)) aNil)) aaNil)))))
 (aSeq (aAsg (gTupD (gsCons (gSet 7) (gsCons (gSet 8) gsNil))) (aBin ixD (aBin ixD (aVar 3) (aVar 5)) (aVar 6)))
 (aSeq (aSet 9 (aRe (aCall m_law_with (aaCons (aBin ixD (aVar 3) (aVar 5)) (aaCons (aVar 6) (aaCons (aTup (aCons (aRe (aCall m_law_other_cost (aaPen 0 (aaCons (aVar 7) aaNil)))) (aCons (aVar 8) aNil))) aaNil))))))
 (aSeq (aIfS (aTest (aBin eqD (aVar 4) (aC (.int 0))))
  (aRetR (aCall m_law_with (aaCons (aVar 3) (aaCons (aVar 5) (aaCons (aVar 9) aaNil)))))
  aSkip)
 (aSeq (aIfS (aTest (aBin eqD (aVar 4) (aC (.int 1))))
  (aRetR (aCall m_law_ahead (aaCons (aVar 1) (aaCons (aVar 2) (aaCons (aBin addD (aTup (aCons (aVar 9) aNil)) (aSl (aVar 3) (aP1 (aBin addD (aVar 5) (aC (.int 1)))) aP0)) aaNil)))))
  aSkip)
 (aSeq (aIfS (aTest (aBin eqD (aVar 4) (aC (.int 2))))
  (aRetR (aCall m_law_mixed (aaPen 0 (aaCons (aVar 1) (aaCons (aVar 2) (aaCons (aVar 3) aaNil))))))
  aSkip)
 (aSeq (aSet 10 (aBin addD (aC (.int 1)) (aRe (aCall m_law_take (aaPen 0 (aaCons (aC (.int 9)) aaNil))))))
 (aSeq (aSet 9 (aCB tupD (aCons (aLst (aLc (aIt (aBin ixD (aVar 3) (aVar 5))) 3 [10] (gTupD (gsCons (gTupD (gsCons (gSet 1) (gsCons (gSet 2) gsNil))) (gsCons (gSet 0) gsNil))) q_law_bent_1)) aNil)))
 (aRetR (aCall m_law_ahead (aaCons (aVar 1) (aaCons (aVar 2) (aaCons (aBin addD (aTup (aCons (aVar 9) aNil)) (aSl (aVar 3) (aP1 (aBin addD (aVar 5) (aC (.int 1)))) aP0)) aaNil)))))))))))))))
set_option maxHeartbeats 2000000 in
theorem c_law_bent (T:Txt K mg):ACal (PK2 (K,cn)) P w K mg base "_law_bent" 5 ["_law_pen_here","_law_shop_here","_law_falls","_law_paper"] m_law_bent:=acal_of T.d__law_bent sc__law_bent rfl fun f cdv A outer sh H E hr=>by
  exact (ass_cons (as_set (ps_set (i:=4) sc__law_bent.nd rfl (Or.inl rfl) (ae_r (ar_call (c_law_take T) (hr.mono (by decide)) rfl (aa_pen (pv 0) (aa_cons ae_int aa_nil))))))
 (ass_cons (as_set (ps_set (i:=5) sc__law_bent.nd rfl (Or.inl rfl) (ae_r (ar_call (c_law_take T) (hr.mono (by decide)) rfl (aa_pen (pv 0) (aa_cons (ae_cb (t:=tNil) (pe_callB call_len_seq rfl T.n_len boot_len (ad_cons (ae_var (pv 3)) ad_nil)) vc_len) aa_nil))))))
 (ass_cons (as_set (ps_set (i:=6) sc__law_bent.nd rfl (Or.inl rfl) (ae_r (ar_call (c_law_take T) (hr.mono (by decide)) rfl (aa_pen (pv 0) (aa_cons (ae_cb (t:=tNil) (pe_callB call_len_seq rfl T.n_len boot_len (ad_cons (ae_ix ix_seq vo_ix (ae_var (pv 3)) (ae_var (pv 5)) (fun _ _=>rfl)) ad_nil)) vc_len) aa_nil))))))
 (ass_cons (as_asg (ps_asg (ae_ix ix_seq vo_ix (ae_ix ix_seq vo_ix (ae_var (pv 3)) (ae_var (pv 5)) (fun _ _=>rfl)) (ae_var (pv 6)) (fun _ _=>rfl)) (ag_tup rfl (ags_cons (ag_name (pg_name (i:=7) sc__law_bent.nd rfl (Or.inl rfl))) (ags_cons (ag_name (pg_name (i:=8) sc__law_bent.nd rfl (Or.inl rfl))) ags_nil)) (gsLen_cons (gsLen_cons gsLen_nil)))))
 (ass_cons (as_set (ps_set (i:=9) sc__law_bent.nd rfl (Or.inl rfl) (ae_r (ar_call (c_law_with T) (hr.mono (by decide)) rfl (aa_cons (ae_ix ix_seq vo_ix (ae_var (pv 3)) (ae_var (pv 5)) (fun _ _=>rfl)) (aa_cons (ae_var (pv 6)) (aa_cons (ae_tup (ad_cons (ae_r (ar_call (c_law_other_cost T) (hr.mono (by decide)) rfl (aa_pen (pv 0) (aa_cons (ae_var (pv 7)) aa_nil)))) (ad_cons (ae_var (pv 8)) ad_nil))) aa_nil)))))))
 (ass_cons (as_if (at_cmp (op_eqA hr) vo_eq (ae_var (pv 4)) ae_int (nomark _))
  (ass_one (as_retR (ar_call (c_law_with T) (hr.mono (by decide)) rfl (aa_cons (ae_var (pv 3)) (aa_cons (ae_var (pv 5)) (aa_cons (ae_var (pv 9)) aa_nil))))))
  ass_nil)
 (ass_cons (as_if (at_cmp (op_eqA hr) vo_eq (ae_var (pv 4)) ae_int (nomark _))
  (ass_one (as_retR (ar_call (c_law_ahead T) (hr.mono (by decide)) rfl (aa_cons (ae_var (pv 1)) (aa_cons (ae_var (pv 2)) (aa_cons (ae_op op_addD vo_add (ae_tup (ad_cons (ae_var (pv 9)) ad_nil)) (ae_sl (ae_var (pv 3)) (ap_some (ae_op op_addD vo_add (ae_var (pv 5)) ae_int)) ap_none)) aa_nil))))))
  ass_nil)
 (ass_cons (as_if (at_cmp (op_eqA hr) vo_eq (ae_var (pv 4)) ae_int (nomark _))
  (ass_one (as_retR (ar_call (c_law_mixed T) (hr.mono (by decide)) rfl (aa_pen (pv 0) (aa_cons (ae_var (pv 1)) (aa_cons (ae_var (pv 2)) (aa_cons (ae_var (pv 3)) aa_nil)))))))
  ass_nil)
 (ass_cons (as_set (ps_set (i:=10) sc__law_bent.nd rfl (Or.inr rfl) (ae_op op_addD vo_add ae_int (ae_r (ar_call (c_law_take T) (hr.mono (by decide)) rfl (aa_pen (pv 0) (aa_cons ae_int aa_nil)))))))
 (ass_cons (as_set (ps_set (i:=9) sc__law_bent.nd rfl (Or.inl rfl) (ae_cb (t:=tNil) (pe_callTy call_tuple_of rfl T.n_tuple boot_tuple (ad_cons (ae_o (ao_lc (pe_lc N__law_bent ["_law_own","_law_top","_law_bottom"] [10] rfl (ai_seq (ae_ix ix_seq vo_ix (ae_var (pv 3)) (ae_var (pv 5)) (fun _ _=>rfl))) (fun b=>(ag_tup rfl (ags_cons (ag_tup rfl (ags_cons (ag_name (pg_name (i:=1) (show ((bN N__law_bent ["_law_own","_law_top","_law_bottom"] [10])).Nodup by decide +kernel) rfl (Or.inl rfl))) (ags_cons (ag_name (pg_name (i:=2) (show ((bN N__law_bent ["_law_own","_law_top","_law_bottom"] [10])).Nodup by decide +kernel) rfl (Or.inl rfl))) ags_nil)) (gsLen_cons (gsLen_cons gsLen_nil))) (ags_cons (ag_name (pg_name (i:=0) (show ((bN N__law_bent ["_law_own","_law_top","_law_bottom"] [10])).Nodup by decide +kernel) rfl (Or.inl rfl))) ags_nil)) (gsLen_cons (gsLen_cons gsLen_nil)))) (fun b=>(ae_tup (ad_cons (ae_tup (ad_cons (ae_op op_addD vo_add (ae_var (pv 1)) (ae_op op_mulD vo_mul (ae_var (pv 3)) (ae_var (pv 2)))) (ad_cons (ae_var (pv 2)) ad_nil))) (ad_cons (ae_var (pv 0)) ad_nil)))) rfl (show BlkOk N__law_bent (defScope s__law_bent) _ [10] from ⟨rfl,by decide +kernel,by decide +kernel,by decide +kernel,by decide +kernel⟩)) (pres_tup (pres_cons (pres_tup (pres_cons (pres_set (by decide)) (pres_cons (pres_set (by decide)) pres_nil))) (pres_cons (pres_set (by decide)) pres_nil))))) ad_nil)) vc_tup)))
 (ass_one (as_retR (ar_call (c_law_ahead T) (hr.mono (by decide)) rfl (aa_cons (ae_var (pv 1)) (aa_cons (ae_var (pv 2)) (aa_cons (ae_op op_addD vo_add (ae_tup (ad_cons (ae_var (pv 9)) ad_nil)) (ae_sl (ae_var (pv 3)) (ap_some (ae_op op_addD vo_add (ae_var (pv 5)) ae_int)) ap_none)) aa_nil))))))))))))))))
noncomputable def q_is_paper_1:List Sl→Tr PyData :=
 (aRe (aCall m_is_paper_day (aaCons (aVar 1) (aaCons (aVar 0) aaNil))))
noncomputable def m_is_paper:List Sl→Tr Re:=aDef 3 0
 (aSeq (aIfS (aOr (aNot (aTru (aIsi "tuple" (aVar 2)))) (aTest (aBin neD (aCB lenD (aCons (aVar 2) aNil)) (aCB lenD (aCons (aVar 1) aNil)))))
  (aRet (aC (.bool false)))
  aSkip)
 (aRet (aCB allD (aCons (aLst (aLc (aIt (aVar 2)) 1 [0] (gSet 0) q_is_paper_1)) aNil))))
set_option maxHeartbeats 2000000 in
theorem c_is_paper (T:Txt K mg):ACal (PK2 (K,cn)) P w K mg base "is_paper" 6 ["shop","falls","thing"] m_is_paper:=acal_of T.d_is_paper sc_is_paper rfl fun f cdv A outer sh H E hr=>by
  exact (ass_cons (as_if (at_w (aw_or (at_not (at_tru (ae_isi (T:="tuple") (Or.inr (Or.inr (Or.inr (Or.inr (Or.inl rfl))))) rfl (pe_callB call_isi rfl T.n_isinstance boot_isinstance (pa_cons (ae_var (pv 2)) (pa_cons (pe_bltn (v:=.ty "tuple") rfl T.n_tuple boot_tuple rfl) pa_nil)))))) (aw_or1 (at_cmp (op_neA hr) vo_ne (ae_cb (t:=tNil) (pe_callB call_len_seq rfl T.n_len boot_len (ad_cons (ae_var (pv 2)) ad_nil)) vc_len) (ae_cb (t:=tNil) (pe_callB call_len_seq rfl T.n_len boot_len (ad_cons (ae_var (pv 1)) ad_nil)) vc_len) (nomark _)))))
  (ass_one (as_ret ae_bl))
  ass_nil)
 (ass_one (as_ret (ae_cb (t:=tNil) (pe_callB (call_allD rfl) rfl T.n_all boot_all (ad_cons (ae_o (ao_lc (pe_lc N_is_paper ["entries"] [0] rfl (ai_seq (ae_var (pv 2))) (fun b=>(ag_name (pg_name (i:=0) (show ((bN N_is_paper ["entries"] [0])).Nodup by decide +kernel) rfl (Or.inl rfl)))) (fun b=>(ae_r (ar_call (c_is_paper_day T) (hr.mono (by decide)) rfl (aa_cons (ae_var (pv 1)) (aa_cons (ae_var (pv 0)) aa_nil))))) rfl (show BlkOk N_is_paper (defScope s_is_paper) _ [0] from ⟨rfl,by decide +kernel,by decide +kernel,by decide +kernel,by decide +kernel⟩)) (pres_set (by decide)))) ad_nil)) vc_all))))
noncomputable def q_lets_1:List Sl→Tr PyData :=
 (aVar 1)
noncomputable def q_lets_2:List Sl→Tr PyData :=
 (aRe (aCall m_share (aaCons (aVar 0) (aaCons (aVar 1) aaNil))))
noncomputable def q_lets_3:List Sl→Tr PyData :=
 (aVar 0)
noncomputable def l_lets_1:List Sl→Tr Ou :=
 (aSeq (aSet 6 (aRe (aCall m_costs_by (aaCons (aVar 0) (aaCons (aBin ixD (aVar 1) (aVar 5)) (aaCons (aLst (aLc (aIt (aBin ixD (aVar 2) (aVar 5))) 2 [] (gTupD (gsCons (gSet 0) (gsCons (gSet 1) gsNil))) q_lets_1)) (aaCons (aVar 3) (aaCons (aVar 4) aaNil))))))))
 (aSeq (aSet 7 (aBin mulD' (aVar 4) (aCB sumD (aCons (aBin ixD (aVar 1) (aVar 5)) aNil))))
 (aSeq (aIfS (aTest (aBin neD (aLst (aLc (aIt (aVar 6)) 1 [7] (gSet 0) q_lets_2)) (aLst (aLc (aIt (aBin ixD (aVar 2) (aVar 5))) 2 [] (gTupD (gsCons (gSet 0) (gsCons (gSet 1) gsNil))) q_lets_3))))
  (aRet (aC (.bool false)))
  aSkip)
 (aSeq (aIfS (aNot (aTru (aRe (aCall m_none_less (aaCons (aVar 0) (aaCons (aBin ixD (aVar 1) (aVar 5)) (aaCons (aVar 6) (aaCons (aVar 3) (aaCons (aVar 4) aaNil)))))))))
  (aRet (aC (.bool false)))
  aSkip)
 (aSeq (aSet 3 (aVar 6))
 (aSet 4 (aVar 7)))))))
noncomputable def m_lets:List Sl→Tr Re:=aDef 3 5
 (aSeq (aIfS (aNot (aTru (aRe (aCall m_is_paper (aaCons (aVar 0) (aaCons (aVar 1) (aaCons (aVar 2) aaNil)))))))
  (aRet (aC (.bool false)))
  aSkip)
 (aSeq (aSet 3 (aRe (aCall m_end_costs (aaCons (aVar 0) aaNil))))
 (aSeq (aSet 4 (aC (.int 1)))
 (aSeq (aFor (aRevR1 (aCons (aCB lenD (aCons (aVar 1) aNil)) aNil)) (gSet 5) l_lets_1)
 (aRet (aC (.bool true)))))))
set_option maxHeartbeats 2000000 in
theorem c_lets (T:Txt K mg):ACal (PK2 (K,cn)) P w K mg base "lets" 7 ["shop","falls","thing"] m_lets:=acal_of T.d_lets sc_lets rfl fun f cdv A outer sh H E hr=>by
  exact (ass_cons (as_if (at_not (at_tru (ae_r (ar_call (c_is_paper T) (hr.mono (by decide)) rfl (aa_cons (ae_var (pv 0)) (aa_cons (ae_var (pv 1)) (aa_cons (ae_var (pv 2)) aa_nil)))))))
  (ass_one (as_ret ae_bl))
  ass_nil)
 (ass_cons (as_set (ps_set (i:=3) sc_lets.nd rfl (Or.inl rfl) (ae_r (ar_call (c_end_costs T) (hr.mono (by decide)) rfl (aa_cons (ae_var (pv 0)) aa_nil)))))
 (ass_cons (as_set (ps_set (i:=4) sc_lets.nd rfl (Or.inl rfl) ae_int))
 (ass_cons (as_for PassesOwn.never rfl (ai_revr1 (pi_rev rfl T.n_reversed (pe_callTy call_rangeV1 rfl T.n_range boot_range (ad_cons (ae_cb (t:=tNil) (pe_callB call_len_seq rfl T.n_len boot_len (ad_cons (ae_var (pv 1)) ad_nil)) vc_len) ad_nil)))) (ag_name (pg_name (i:=5) sc_lets.nd rfl (Or.inl rfl)))
  (ass_cons (as_set (ps_set (i:=6) sc_lets.nd rfl (Or.inl rfl) (ae_r (ar_call (c_costs_by T) (hr.mono (by decide)) rfl (aa_cons (ae_var (pv 0)) (aa_cons (ae_ix ix_seq vo_ix (ae_var (pv 1)) (ae_var (pv 5)) (fun _ _=>rfl)) (aa_cons (ae_o (ao_lc (pe_lc N_lets ["cost","level"] [] rfl (ai_seq (ae_ix ix_seq vo_ix (ae_var (pv 2)) (ae_var (pv 5)) (fun _ _=>rfl))) (fun b=>(ag_tup rfl (ags_cons (ag_name (pg_name (i:=0) (show ((bN N_lets ["cost","level"] [])).Nodup by decide +kernel) rfl (Or.inl rfl))) (ags_cons (ag_name (pg_name (i:=1) (show ((bN N_lets ["cost","level"] [])).Nodup by decide +kernel) rfl (Or.inl rfl))) ags_nil)) (gsLen_cons (gsLen_cons gsLen_nil)))) (fun b=>(ae_var (pv 1))) rfl (show BlkOk N_lets (defScope s_lets) _ [] from ⟨rfl,by decide +kernel,by decide +kernel,by decide +kernel,by decide +kernel⟩)) (pres_tup (pres_cons (pres_set (by decide)) (pres_cons (pres_set (by decide)) pres_nil))))) (aa_cons (ae_var (pv 3)) (aa_cons (ae_var (pv 4)) aa_nil)))))))))
 (ass_cons (as_set (ps_set (i:=7) sc_lets.nd rfl (Or.inr rfl) (ae_op op_mulD vo_mul (ae_var (pv 4)) (ae_cb (t:=tNil) (pe_callB (call_sumD rfl) rfl T.n_sum boot_sum (ad_cons (ae_ix ix_seq vo_ix (ae_var (pv 1)) (ae_var (pv 5)) (fun _ _=>rfl)) ad_nil)) vc_sum))))
 (ass_cons (as_if (at_cmp (op_neA hr) vo_ne (ae_o (ao_lc (pe_lc N_lets ["cost"] [7] rfl (ai_seq (ae_var (pv 6))) (fun b=>(ag_name (pg_name (i:=0) (show ((bN N_lets ["cost"] [7])).Nodup by decide +kernel) rfl (Or.inl rfl)))) (fun b=>(ae_r (ar_call (c_share T) (hr.mono (by decide)) rfl (aa_cons (ae_var (pv 0)) (aa_cons (ae_var (pv 1)) aa_nil))))) rfl (show BlkOk N_lets (defScope s_lets) _ [7] from ⟨rfl,by decide +kernel,by decide +kernel,by decide +kernel,by decide +kernel⟩)) (pres_set (by decide)))) (ae_o (ao_lc (pe_lc N_lets ["cost","level"] [] rfl (ai_seq (ae_ix ix_seq vo_ix (ae_var (pv 2)) (ae_var (pv 5)) (fun _ _=>rfl))) (fun b=>(ag_tup rfl (ags_cons (ag_name (pg_name (i:=0) (show ((bN N_lets ["cost","level"] [])).Nodup by decide +kernel) rfl (Or.inl rfl))) (ags_cons (ag_name (pg_name (i:=1) (show ((bN N_lets ["cost","level"] [])).Nodup by decide +kernel) rfl (Or.inl rfl))) ags_nil)) (gsLen_cons (gsLen_cons gsLen_nil)))) (fun b=>(ae_var (pv 0))) rfl (show BlkOk N_lets (defScope s_lets) _ [] from ⟨rfl,by decide +kernel,by decide +kernel,by decide +kernel,by decide +kernel⟩)) (pres_tup (pres_cons (pres_set (by decide)) (pres_cons (pres_set (by decide)) pres_nil))))) (nomark _))
  (ass_one (as_ret ae_bl))
  ass_nil)
 (ass_cons (as_if (at_not (at_tru (ae_r (ar_call (c_none_less T) (hr.mono (by decide)) rfl (aa_cons (ae_var (pv 0)) (aa_cons (ae_ix ix_seq vo_ix (ae_var (pv 1)) (ae_var (pv 5)) (fun _ _=>rfl)) (aa_cons (ae_var (pv 6)) (aa_cons (ae_var (pv 3)) (aa_cons (ae_var (pv 4)) aa_nil)))))))))
  (ass_one (as_ret ae_bl))
  ass_nil)
 (ass_cons (as_set (ps_set (i:=3) sc_lets.nd rfl (Or.inl rfl) (ae_var (pv 6))))
 (ass_one (as_set (ps_set (i:=4) sc_lets.nd rfl (Or.inl rfl) (ae_var (pv 7)))))))))))
 (ass_one (as_ret ae_bl))))))
noncomputable def q_law_1:List Sl→Tr PyData :=
 (aRe (aCall m_law_day (aaPen 1 (aaCons (aC (.int 3)) aaNil))))
noncomputable def l_law_1:List Sl→Tr Ou :=
 (aSeq (aSet 6 (aRe (aCall m_law_bent (aaPen 1 (aaCons (aVar 2) (aaCons (aVar 3) (aaCons (aVar 4) aaNil)))))))
 (aSeq (aSet 7 (aCB reprD (aCons (aTup (aCons (aVar 2) (aCons (aVar 3) (aCons (aVar 6) aNil)))) aNil)))
 (aSeq (aIfS (aTest (aBin neD (aCB reprD (aCons (aRe (aCall m_lets (aaCons (aVar 2) (aaCons (aVar 3) (aaCons (aVar 6) aaNil))))) aNil)) (aCB reprD (aCons (aRe (aCall m_law_let (aaCons (aVar 2) (aaCons (aVar 3) (aaCons (aVar 6) aaNil))))) aNil))))
  (aRet (aC (.bool false)))
  aSkip)
 (aIfS (aTest (aBin neD (aCB reprD (aCons (aTup (aCons (aVar 2) (aCons (aVar 3) (aCons (aVar 6) aNil)))) aNil)) (aVar 7)))
  (aRet (aC (.bool false)))
  aSkip))))
noncomputable def q_law_2:List Sl→Tr PyData :=
 (aRe (aCall m_law_price (aaPen 1 aaNil)))
noncomputable def m_law:List Sl→Tr Ou :=
 (aSeq (aSet 2 (aRe (aCall m_law_shop (aaPen 1 (aaCons (aC (.int 6)) aaNil)))))
 (aSeq (aSet 3 (aCB tupD (aCons (aLst (aLc (aRng1 (aCons (aBin addD (aC (.int 1)) (aRe (aCall m_law_take (aaPen 1 (aaCons (aC (.int 4)) aaNil))))) aNil)) 1 [1] (gSet 0) q_law_1)) aNil)))
 (aSeq (aSet 4 (aRe (aCall m_law_ahead (aaCons (aVar 2) (aaCons (aVar 3) (aaCons (aLst (aLo aNil)) aaNil))))))
 (aSeq (aFor (aRng1 (aCons (aC (.int 8)) aNil)) (gSet 5) l_law_1)
 (aSeq (aSet 8 (aBin addE (aSl (aVar 2) aP0 (aP1 (aC (.int 2)))) (aCB tupD (aCons (aLst (aLc (aIt (aSl (aVar 2) (aP1 (aC (.int 2))) aP0)) 1 [1] (gSet 0) q_law_2)) aNil))))
 (aSeq (aIfS (aTest (aBin neD (aCB reprD (aCons (aRe (aCall m_lets (aaCons (aVar 8) (aaCons (aVar 3) (aaCons (aVar 4) aaNil))))) aNil)) (aCB reprD (aCons (aRe (aCall m_law_let (aaCons (aVar 8) (aaCons (aVar 3) (aaCons (aVar 4) aaNil))))) aNil))))
  (aRet (aC (.bool false)))
  aSkip)
 (aRet (aBin isBD (aRe (aCall m_lets (aaCons (aVar 2) (aaCons (aVar 3) (aaCons (aVar 4) aaNil))))) (aC (.bool true))))))))))
noncomputable abbrev law0:List Sl:=.un::.pen::List.replicate 7 .un
set_option maxHeartbeats 4000000 in
theorem ok_law (T:Txt K mg) {f:Addr} {fd:FuncData} (F:Fun K "law" "law" s_law f fd) (hl:(m_law law0).ok 0 fun _ o=>o=.ret (.d (.bool true))):FnOk P w K mg base CX0 8 f fd ["_law_script"] (spLaw K):=by
  refine F.ok sc_law (fun vs H Q E h=>?_) (fun cdv A outer s H vs Q E hr h=>?_)
  · obtain ⟨a,ns,rfl,_⟩:=h
    rfl
  · obtain ⟨a,ns,rfl,hS,hlen,k⟩:=h
    have hu:=hu_of hr
    refine ⟨_,(pss_cons (ps_set (i:=1) sc_law.nd rfl (Or.inr rfl) (pe_callC (ok_pen T) (hr.mono (by decide)) rfl (pa_cons (pv 0) pa_nil)))
 (pss_ex (t:=fun cn=>TAs (PK2 (K,cn)) m_law) fun cn=>(ass_cons (as_set (ps_set (i:=2) sc_law.nd rfl (Or.inl rfl) (ae_r (ar_call (c_law_shop T) (hr.mono (by decide)) rfl (aa_pen (pv 1) (aa_cons ae_int aa_nil))))))
 (ass_cons (as_set (ps_set (i:=3) sc_law.nd rfl (Or.inl rfl) (ae_cb (t:=tNil) (pe_callTy call_tuple_of rfl T.n_tuple boot_tuple (ad_cons (ae_o (ao_lc (pe_lc N_law ["_law_k"] [1] rfl (ai_rng1 (pi_range1 rfl T.n_range (ad_cons (ae_op op_addD vo_add ae_int (ae_r (ar_call (c_law_take T) (hr.mono (by decide)) rfl (aa_pen (pv 1) (aa_cons ae_int aa_nil))))) ad_nil))) (fun b=>(ag_name (pg_name (i:=0) (show ((bN N_law ["_law_k"] [1])).Nodup by decide +kernel) rfl (Or.inl rfl)))) (fun b=>(ae_r (ar_call (c_law_day T) (hr.mono (by decide)) rfl (aa_pen (pv 1) (aa_cons ae_int aa_nil))))) rfl (show BlkOk N_law (defScope s_law) _ [1] from ⟨rfl,by decide +kernel,by decide +kernel,by decide +kernel,by decide +kernel⟩)) (pres_set (by decide)))) ad_nil)) vc_tup)))
 (ass_cons (as_set (ps_set (i:=4) sc_law.nd rfl (Or.inl rfl) (ae_r (ar_call (c_law_ahead T) (hr.mono (by decide)) rfl (aa_cons (ae_var (pv 2)) (aa_cons (ae_var (pv 3)) (aa_cons (ae_o (ao_lst ad_nil)) aa_nil)))))))
 (ass_cons (as_for PassesOwn.never rfl (ai_rng1 (pi_range1 rfl T.n_range (ad_cons ae_int ad_nil))) (ag_name (pg_name (i:=5) sc_law.nd rfl (Or.inl rfl)))
  (ass_cons (as_set (ps_set (i:=6) sc_law.nd rfl (Or.inl rfl) (ae_r (ar_call (c_law_bent T) (hr.mono (by decide)) rfl (aa_pen (pv 1) (aa_cons (ae_var (pv 2)) (aa_cons (ae_var (pv 3)) (aa_cons (ae_var (pv 4)) aa_nil))))))))
 (ass_cons (as_set (ps_set (i:=7) sc_law.nd rfl (Or.inl rfl) (ae_cb (t:=tNil) (pe_callB (call_repr hr) rfl T.n_repr boot_repr (ad_cons (ae_tup (ad_cons (ae_var (pv 2)) (ad_cons (ae_var (pv 3)) (ad_cons (ae_var (pv 6)) ad_nil)))) ad_nil)) vc_repr)))
 (ass_cons (as_if (at_cmp (op_neA hr) vo_ne (ae_cb (t:=tNil) (pe_callB (call_repr hr) rfl T.n_repr boot_repr (ad_cons (ae_r (ar_call (c_lets T) (hr.mono (by decide)) rfl (aa_cons (ae_var (pv 2)) (aa_cons (ae_var (pv 3)) (aa_cons (ae_var (pv 6)) aa_nil))))) ad_nil)) vc_repr) (ae_cb (t:=tNil) (pe_callB (call_repr hr) rfl T.n_repr boot_repr (ad_cons (ae_r (ar_call (c_law_let T) (hr.mono (by decide)) rfl (aa_cons (ae_var (pv 2)) (aa_cons (ae_var (pv 3)) (aa_cons (ae_var (pv 6)) aa_nil))))) ad_nil)) vc_repr) (nomark _))
  (ass_one (as_ret ae_bl))
  ass_nil)
 (ass_one (as_if (at_cmp (op_neA hr) vo_ne (ae_cb (t:=tNil) (pe_callB (call_repr hr) rfl T.n_repr boot_repr (ad_cons (ae_tup (ad_cons (ae_var (pv 2)) (ad_cons (ae_var (pv 3)) (ad_cons (ae_var (pv 6)) ad_nil)))) ad_nil)) vc_repr) (ae_var (pv 7)) (nomark _))
  (ass_one (as_ret ae_bl))
  ass_nil))))))
 (ass_cons (as_set (ps_set (i:=8) sc_law.nd rfl (Or.inl rfl) (ae_op op_addE vo_addE (ae_sl (ae_var (pv 2)) ap_none (ap_some ae_int)) (ae_cb (t:=tNil) (pe_callTy call_tuple_of rfl T.n_tuple boot_tuple (ad_cons (ae_o (ao_lc (pe_lc N_law ["_law_price_here"] [1] rfl (ai_seq (ae_sl (ae_var (pv 2)) (ap_some ae_int) ap_none)) (fun b=>(ag_name (pg_name (i:=0) (show ((bN N_law ["_law_price_here"] [1])).Nodup by decide +kernel) rfl (Or.inl rfl)))) (fun b=>(ae_r (ar_call (c_law_price T) (hr.mono (by decide)) rfl (aa_pen (pv 1) aa_nil)))) rfl (show BlkOk N_law (defScope s_law) _ [1] from ⟨rfl,by decide +kernel,by decide +kernel,by decide +kernel,by decide +kernel⟩)) (pres_set (by decide)))) ad_nil)) vc_tup))))
 (ass_cons (as_if (at_cmp (op_neA hr) vo_ne (ae_cb (t:=tNil) (pe_callB (call_repr hr) rfl T.n_repr boot_repr (ad_cons (ae_r (ar_call (c_lets T) (hr.mono (by decide)) rfl (aa_cons (ae_var (pv 8)) (aa_cons (ae_var (pv 3)) (aa_cons (ae_var (pv 4)) aa_nil))))) ad_nil)) vc_repr) (ae_cb (t:=tNil) (pe_callB (call_repr hr) rfl T.n_repr boot_repr (ad_cons (ae_r (ar_call (c_law_let T) (hr.mono (by decide)) rfl (aa_cons (ae_var (pv 8)) (aa_cons (ae_var (pv 3)) (aa_cons (ae_var (pv 4)) aa_nil))))) ad_nil)) vc_repr) (nomark _))
  (ass_one (as_ret ae_bl))
  ass_nil)
 (ass_one (as_ret (ae_cmp op_isB vo_isB (ae_r (ar_call (c_lets T) (hr.mono (by decide)) rfl (aa_cons (ae_var (pv 2)) (aa_cons (ae_var (pv 3)) (aa_cons (ae_var (pv 4)) aa_nil))))) ae_bl (nomark _)))))))))))),?_⟩
    refine ⟨_,rfl,a,ns,rfl,hS,hlen,fun p H' hp hP hs=>?_⟩
    exact law_start (n:=7) hP rfl rfl (fun H'=>k H') hl
end
end My
set_option Elab.async false
set_option linter.all false
set_option maxRecDepth 100000
local macro_rules | `(tactic| simp_arith [$ls,*] $[$loc]?) => do let b : Lean.TSyntaxArray ``Lean.Parser.Tactic.simpLemma ← (("L2.ev_var0 L2.ev_varS L2.ev_C L2.ev_bin L2.ev_bin1 L2.ev_add L2.ev_addT L2.ev_addL L2.ev_sub L2.ev_cmp L2.ev_eqI L2.ev_neI L2.ev_eqB L2.ev_eqS L2.ev_neS L2.ev_isB L2.ev_isN L2.ev_ixL L2.ev_ixT L2.at_0 L2.at_1 L2.at_2 L2.at_3 L2.at_4 L2.at_5 L2.at_6 L2.at_7 L2.at_8 L2.ev_neg L2.ev_neg1 L2.ev_test L2.ev_tst1 L2.ev_tru L2.ev_truB L2.ev_truI L2.ev_truL L2.ev_truT L2.ev_truN L2.ev_or L2.ev_not L2.ev_or1t L2.ev_or1f L2.ev_not1 L2.ev_andV L2.ev_notV L2.ev_andV1t L2.ev_andV1f L2.ev_notV1 L2.ev_if L2.ev_if1t L2.ev_if1f L2.ev_chain L2.ev_ch1 L2.ev_ch2 L2.ev_ch3 L2.ev_ch4t L2.ev_ch4f L2.ev_nil L2.ev_cons L2.ev_cons1 L2.ev_cons2 L2.ev_tup L2.ev_tup1 L2.ev_lst L2.ev_lst1 L2.ev_lo L2.ev_lo1 L2.small_le L2.ev_cb L2.ev_cbo L2.ev_lenL L2.ev_lenT L2.ev_abs L2.ev_max2 L2.ev_intI L2.ev_intB L2.ev_tupL L2.ev_tupT L2.ev_lstL L2.ev_lstT L2.ev_sumL L2.ev_sumT L2.ev_allL L2.ev_isi L2.ev_isi1 L2.ev_sl L2.ev_sl1 L2.ev_sl2 L2.ev_sl3L L2.ev_sl3T L2.ev_p0 L2.ev_p1 L2.ev_pa1 L2.ev_tupR L2.ev_tupR1 L2.ev_lstR L2.ev_lstR1 L2.ev_aaNil L2.ev_aaCons L2.ev_aa1 L2.ev_aa2 L2.ev_pen0 L2.ev_penS L2.ev_aaPen L2.ev_aap L2.ev_call L2.ev_re L2.ev_re1 L2.ev_def L2.ev_finN L2.ev_finR L2.ev_seq L2.ev_seqN L2.ev_seqR L2.ev_seqB L2.ev_seqC L2.ev_skip L2.ev_ifs L2.ev_ifst L2.ev_ifsf L2.ev_ret L2.ev_ret1 L2.ev_retO L2.ev_retO1 L2.ev_retR L2.ev_retR1 L2.ev_retVd L2.ev_retVo L2.ev_retVs L2.ev_set L2.ev_set1 L2.ev_setO L2.ev_setO1 L2.ls_0 L2.ls_S L2.ev_aug L2.ev_aug1 L2.ev_aug2 L2.ev_iadd L2.ev_own0 L2.ev_ownS L2.ev_app L2.ev_app1 L2.ev_app2 L2.ev_fz L2.fz_o L2.fz_d L2.fz_p L2.fz_u L2.fz_S L2.ev_asg L2.ev_asg1 L2.ev_nx1 L2.g_set L2.g_tup L2.g_nil L2.g_cons L2.g_some L2.ev_par L2.ev_par1 L2.ev_it L2.ev_it1L L2.ev_it1T L2.ev_rng1 L2.ev_rng2 L2.ev_zip L2.ev_zip0 L2.ev_zip1 L2.ev_zip2 L2.ev_zip3 L2.ev_enum L2.ev_enu1 L2.ev_enu2 L2.ev_for L2.ev_for1 L2.for_nil L2.ev_lc L2.ev_lc1 L2.ev_lc2 L2.mt_nil L2.mt_cons L2.mt_1 L2.mt_2 L2.ev_len0o L2.ev_len0d L2.ev_lenS L2.ev_lend L2.ev_cbF L2.ev_cbf1 L2.ev_fl1I L2.ev_six L2.ev_six1 L2.ev_six2 L2.ev_addE0 L2.ev_addE1 L2.ev_rvi2 L2.ev_revR1 L2.ev_rvr1 L2.ev_revL L2.ev_revT L2.ev_ixO L2.ev_ixo0 L2.ev_ixo0d L2.ev_ixoS Tw.shp_0 Tw.shp_1 Tw.shp_2 Tw.shp_3 Tw.shp_4 Tw.shp_5 Tw.shp_6 Tw.shp_7 Tw.shp_8 L2.ev_mul L2.rb2 L2.Tr.of_some L2.Tr.bind_assoc L2.Tr.draw_bind List.cons_append List.nil_append List.replicate_succ List.replicate_zero List.length_cons List.length_nil L2.Re.val_d L2.Re.val_own L2.blk L2.blS List.map_cons List.map_nil List.getElem?_cons_zero List.getElem?_cons_succ Option.getD_some Nat.reduceAdd Nat.reduceLeDiff List.isEmpty_cons".splitOn " ").toArray.map fun s => Lean.mkIdent s.toName).mapM fun i => `(Lean.Parser.Tactic.simpLemma| $i:ident); `(tactic| simp only [$b,*, $ls,*] $[$loc]?)
namespace My
open PySem PySem.Spec PyProof.Rows L2 Tw
theorem e_stocks {s:Shp} (h:s.Ok):m_stocks [.d s.d]=.ret (.d (.tuple (rngL (-s.depth) (s.top+1)))):=by
  have:=h.t0
  have:=h.d0
  have:=h.td
  have hr:rngOk (-s.depth) (s.top+1)=true:=by
    unfold rngOk
    rw [inR_of (by omega) (by omega),inR_of (by omega) (by omega)]
    simp
    omega
  simp_arith [m_stocks,ev_tupR1 hr]
theorem e_next (s:Shp) (y f:Int):m_next_stock [.d s.d,.d (.int y),.d (.int f)]=.ret (.d (.int (s.nx y f))):=by
  simp_arith [m_next_stock,Shp.nx]
theorem e_end {s:Shp} (h:s.Ok) {x:Int} (hx:nb 20 x):m_end_cost [.d s.d,.d (.int x)]=.ret (.d (.int (s.fin x))):=by
  have f1:=nb_fit (nb_neg h.back) (by decide)
  have f2:=nb_fit h.late (by decide)
  have f3:=nb_fit hx (by decide)
  have f4:=nb_fit (nb_neg hx) (by decide)
  by_cases hp:x > 0
  · simp_arith [m_end_cost,decide_eq_true hp,f1,f3,Shp.fin,if_pos hp]
  · simp_arith [m_end_cost,decide_eq_false hp,f2,f4,Shp.fin,if_neg hp]
theorem e_order {s:Shp} (h:s.Ok) {x y:Int} (hx:nb 20 x) (hy:nb 20 y):m_order_cost [.d s.d,.d (.int x),.d (.int y)]=.ret (.d (.int (s.ord x y))):=by
  have f1:=nb_fit h.piece (by decide)
  have f2:=nb_fit (nb_sub hy hx) (by decide)
  by_cases hp:y≤x
  · simp_arith [m_order_cost,decide_eq_true hp,Shp.ord,if_pos hp]
  · simp_arith [m_order_cost,decide_eq_false hp,f1,f2,Shp.ord,if_neg hp]
theorem e_day {s:Shp} (h:s.Ok) {y f:Int} (hy:nb 20 y) (hf:nb 40 f):m_day_cost [.d s.d,.d (.int y),.d (.int f)]=.ret (.d (.int (s.day y f))):=by
  have hd:nb 7 s.depth:=by have:=h.t0; have:=h.d0; have:=h.td; exact nb_of (by show -128 < _; omega) (by show _ < 128; omega)
  have hn:nb 50 (s.nx y f):=by
    unfold Shp.nx maxI
    exact nb_ite (nb_mono (nb_neg hd) (by decide)) (nb_mono (nb_sub hy hf) (by decide))
  have f1:=nb_fit h.keep (by decide)
  have f2:=nb_fit hn (by decide)
  have f3:=nb_fit (nb_neg hn) (by decide)
  have f4:=nb_fit h.lack (by decide)
  have f5:=nb_fit h.lost (by decide)
  have f6:=nb_fit (nb_sub hn (nb_sub hy hf)) (by decide)
  have e:=e_next s y f
  by_cases hp:s.nx y f > 0
  · simp_arith [m_day_cost,e,decide_eq_true hp,f1,f2,f5,f6,Shp.day,if_pos hp]
  · simp_arith [m_day_cost,e,decide_eq_false hp,f3,f4,f5,f6,Shp.day,if_neg hp]
theorem e_ends {s:Shp} (h:s.Ok):m_end_costs [.d s.d]=.ret (.own ((s.row s.fin).map PyData.int)):=by
  have:=h.t0
  have:=h.d0
  have:=h.td
  have hs:small (rngL (-s.depth) (s.top+1)).length=true:=small_le (by rw [rngL_len]; omega)
  have e:mapT (lc2 (gSet 0) q_end_costs_1 (blk 1 [0] [.d s.d])) (rngL (-s.depth) (s.top+1))=.ret ((s.row s.fin).map PyData.int):=by
    refine Eq.trans (mapT_rng (f:=fun x=>.int (s.fin x)) fun z h1 h2=>?_) ?_
    · have e1:=e_end h (x:=z) (nb_of (by show -1048576 < _; omega) (by show _ < 1048576; omega))
      simp_arith [q_end_costs_1,e1]
    · unfold Shp.row Shp.n
      rw [List.map_map]
      rfl
  simp_arith [m_end_costs,e_stocks h,hs] at e ⊢
  simp_arith [e]
end My
set_option Elab.async false
set_option linter.all false
set_option maxRecDepth 100000
namespace My
open PySem PySem.Spec PyProof.Rows L2 Tw
theorem lenI (l:List Int):(l.map PyData.int).length=l.length:=List.length_map ..
theorem e_weighed {s:Shp} (h:s.Ok) {day:List Int} (hd:DayB day) {y:Int} (y1:-s.depth≤y) (y2:y≤s.top) {A:Int→Int} {b:Nat} (hA:Bd s b A) {sc:Int} (hs:nb b sc) (hb:b≤2000) :
    m_weighed [.d s.d,.d (tI day),.d (.int y),.d (lI (s.row A)),.d (.int sc)]=.ret (.d (.int (s.wg day y A sc))):=by
  have:=h.t0
  have:=h.d0
  have:=h.td
  have hy:nb 20 y:=nb_of (by show -1048576 < _; omega) (by show _ < 1048576; omega)
  apply al_eq
  simp_arith [m_weighed,tI,lI]
  refine al_bind (n:=0) (n':=0) (P:=fun o=>∃ J1 J2 J3:Sl,o=.next [.d s.d,.d (.tuple (day.map PyData.int)),.d (.int y),.d (.list ((s.row A).map PyData.int)),.d (.int sc),.d (.int (s.wg day y A sc)),J1,J2,J3]) ?_ (by decide) ?_
  · refine al_forQ (n:=0) (fun pre ρ=>∃ J1 J2 J3:Sl,ρ=[.d s.d,.d (.tuple (day.map PyData.int)),.d (.int y),.d (.list ((s.row A).map PyData.int)),.d (.int sc),.d (.int (s.wg day y A sc - ws (fun f=>sc * s.day y f+A (s.nx y f)) pre.length (day.drop pre.length))),J1,J2,J3]) ⟨.un,.un,.un,?_⟩ (by simp) ?_ ?_
    · have:s.wg day y A sc - ws (fun f=>sc * s.day y f+A (s.nx y f)) 0 day=0:=by unfold Shp.wg; omega
      simp only [List.length_nil,List.drop_zero,this]
    · rintro pre x post ρ e ⟨J1,J2,J3,rfl⟩
      obtain ⟨w,hw,rfl⟩:=enum_mid e
      rw [List.getElem?_map] at hw
      obtain ⟨v,hv,rfl⟩:=Option.map_eq_some_iff.mp hw
      refine ⟨_,rfl,?_⟩
      have hl:pre.length < day.length:=(List.getElem?_eq_some_iff.mp hv).1
      have hlen:=hd.len
      have hf:nb 40 (pre.length:Int):=nb_of (by show -1099511627776 < _; omega) (by show _ < 1099511627776; omega)
      have e1:=e_next s y pre.length
      have e2:=e_day h hy hf
      have n1:=nx_ge s y pre.length
      have n2:=nx_le h y2 (show (0:Int)≤pre.length by omega)
      have e3:=row_atI (f:=A) n1 n2
      have v1:nb 30 v:=hd.nb v (List.mem_of_getElem? hv)
      have b1:=nb_mul hs (day_nb h hy hf)
      have f1:=nb_fit hs (by omega)
      have f2:=nb_fit (day_nb h hy hf) (by decide)
      have f3:=nb_fit v1 (by decide)
      have f4:=nb_fit (nb_add b1 (hA _ n1 n2)) (by omega)
      simp_arith [l_weighed_1,e1,e2,e3,f1,f2,f3,f4]
      have ed:day.drop pre.length=v::day.drop (pre.length+1):=by
        rw [List.drop_eq_getElem_cons hl]
        congr 1
        exact (List.getElem?_eq_some_iff.mp hv).2
      have el:(pre++[PyData.tuple [PyData.int pre.length,PyData.int v]]).length=pre.length+1:=by simp
      have ee:s.wg day y A sc - ws (fun f=>sc * s.day y f+A (s.nx y f)) pre.length (day.drop pre.length)+v * (sc * s.day y pre.length+A (s.nx y pre.length)) =
          s.wg day y A sc - ws (fun f=>sc * s.day y f+A (s.nx y f)) (pre++[PyData.tuple [PyData.int pre.length,PyData.int v]]).length (day.drop (pre++[PyData.tuple [PyData.int pre.length,PyData.int v]]).length):=by
        rw [el,ed,ws]
        omega
      rw [ee]
      exact al_ret ⟨_,rfl,_,_,_,rfl⟩
    · rintro ρ ⟨J1,J2,J3,rfl⟩
      refine ⟨J1,J2,J3,?_⟩
      rw [enumD_len,lenI,List.drop_length,ws,Int.sub_zero]
  · rintro _ ⟨J1,J2,J3,rfl⟩
    simp_arith [List.isEmpty_cons]
    exact al_ret rfl
end My
set_option Elab.async false
set_option linter.all false
set_option maxRecDepth 100000
set_option exponentiation.threshold 9000
namespace My
open PySem PySem.Spec PyProof.Rows L2 Tw
theorem zip_mid {xs ys pre post:List PyData} {x:PyData} (h:zipD xs ys=pre++x::post):∃ a b,xs[pre.length]?=some a∧ys[pre.length]?=some b∧x=.tuple [a,b]:=by
  have h1:(zipD xs ys)[pre.length]?=some x:=by rw [h]; simp
  unfold zipD at h1
  rw [List.getElem?_map] at h1
  obtain ⟨⟨a,b⟩,hz,rfl⟩:=Option.map_eq_some_iff.mp h1
  obtain ⟨z1,z2⟩:=List.getElem?_zip_eq_some.mp hz
  exact ⟨a,b,z1,z2,rfl⟩
theorem rngL_at {lo hi:Int} {k:Nat} {y:PyData} (h:(rngL lo hi)[k]?=some y):y=.int (lo+k)∧(k:Int) < hi - lo:=by
  have hk:=(List.getElem?_eq_some_iff.mp h).1
  rw [rngL_len] at hk
  unfold rngL rangeI at h
  rw [List.map_map,List.getElem?_map,List.getElem?_range hk] at h
  cases h
  exact ⟨rfl,by omega⟩
noncomputable def cby (s:Shp) (day:List Int) (A:Int→Int) (sc:Int) (g:Int→Int) (x:Int):Int:=sc * day.sum * s.ord x (g x)+s.wg day (g x) A sc
theorem cb1' {s:Shp} (h:s.Ok) {day:List Int} (hd:DayB day) {A:Int→Int} {b:Nat} (hA:Bd s b A) {sc:Int} (hs:nb b sc) (hb:b≤2000) {x y:Int} (x1:-s.depth≤x) (xy:x≤y) (y2:y≤s.top) {L:List PyData} (hL:L.length≤900) (LV:Sl) :
    l_costs_by_1 [.d s.d,.d (tI day),LV,.d (lI (s.row A)),.d (.int sc),.d (.int (sc * day.sum)),.own L,.d (.int x),.d (.int y)]=.ret (.next [.d s.d,.d (tI day),LV,.d (lI (s.row A)),.d (.int sc),.d (.int (sc * day.sum)),.own (L++[.int (sc * day.sum * s.ord x y+s.wg day y A sc)]),.d (.int x),.d (.int y)]):=by
  have hx:=st_nb h x1 (show x≤s.top by omega)
  have hy:=st_nb h (show -s.depth≤y by omega) y2
  have e1:=e_order h hx hy
  have e2:=e_weighed h hd (show -s.depth≤y by omega) y2 hA hs hb
  have hsm:small (L.length+1)=true:=small_le (by omega)
  have g1:=nb_fit (nb_mul hs (sum_nbD hd)) (by omega)
  have g2:=nb_fit (ord_nb h hx hy) (by decide)
  simp_arith [l_costs_by_1,e1,e2,hsm,g1,g2]
theorem e_costs_by {s:Shp} (h:s.Ok) {day:List Int} (hd:DayB day) {A:Int→Int} {b:Nat} (hA:Bd s b A) {sc:Int} (hs:nb b sc) (hb:b≤2000) {g:Int→Int} (hg:s.RlOk g) {LV:PyData} (hLV:it1 LV=.ret ((s.row g).map PyData.int)) :
    m_costs_by [.d s.d,.d (tI day),.d LV,.d (lI (s.row A)),.d (.int sc)]=.ret (.own ((s.row (cby s day A sc g)).map PyData.int)):=by
  have:=h.t0
  have:=h.d0
  have:=h.td
  have hn:=h.n_eq
  have g1:=nb_fit hs (by omega)
  have g2:=nb_fit (sum_nbD hd) (by decide)
  apply al_eq
  simp_arith [m_costs_by,sum_tI,g1,g2,e_stocks h,hLV]
  refine al_bind (n:=0) (n':=0) (P:=fun o=>∃ J7 J8:Sl,o=.next [.d s.d,.d (tI day),.d LV,.d (lI (s.row A)),.d (.int sc),.d (.int (sc * day.sum)),.own ((s.row (cby s day A sc g)).map PyData.int),J7,J8]) ?_ (by decide) ?_
  · refine al_forQ (n:=0) (fun pre ρ=>∃ J7 J8:Sl,ρ=[.d s.d,.d (tI day),.d LV,.d (lI (s.row A)),.d (.int sc),.d (.int (sc * day.sum)),.own (((s.row (cby s day A sc g)).map PyData.int).take pre.length),J7,J8]) ⟨_,_,rfl⟩ (by simp) ?_ ?_
    · rintro pre x post ρ e ⟨J7,J8,rfl⟩
      obtain ⟨a,c,ha,hc,rfl⟩:=zip_mid e
      obtain ⟨rfl,hpre⟩:=rngL_at ha
      have x1:-s.depth≤-s.depth+(pre.length:Int):=by omega
      have x2:-s.depth+(pre.length:Int)≤s.top:=by omega
      have ek:(-s.depth+(pre.length:Int)+s.depth).toNat=pre.length:=by omega
      have hr:=row_at (f:=g) x1 x2
      have hr3:=row_at (f:=cby s day A sc g) x1 x2
      rw [ek] at hr hr3
      rw [List.getElem?_map,hr] at hc
      cases hc
      have hr2:((s.row (cby s day A sc g)).map PyData.int)[pre.length]?=some (.int (cby s day A sc g (-s.depth+(pre.length:Int)))):=by rw [List.getElem?_map,hr3]; rfl
      have el:∀ z:PyData,(pre++[z]).length=pre.length+1:=fun z=>by simp
      rw [el,List.take_add_one,hr2]
      obtain ⟨q1,q2⟩:=hg _ x1 x2
      exact ⟨_,rfl,al_of (cb1' h hd hA hs hb x1 q1 q2 (by rw [List.length_take,List.length_map,row_len]; omega) _) ⟨_,rfl,_,_,rfl⟩⟩
    · rintro ρ ⟨J7,J8,rfl⟩
      refine ⟨J7,J8,?_⟩
      have el:(zipD (rngL (-s.depth) (s.top+1)) ((s.row g).map PyData.int)).length=s.n:=by
        unfold zipD
        rw [List.length_map,List.length_zip,rngL_len,List.length_map,row_len]
        unfold Shp.n
        omega
      rw [el,List.take_of_length_le (by rw [List.length_map,row_len]; exact Nat.le_refl _)]
  · rintro _ ⟨J7,J8,rfl⟩
    simp_arith [List.isEmpty_cons]
    exact al_ret rfl
end My
set_option Elab.async false
set_option linter.all false
set_option maxRecDepth 100000
set_option exponentiation.threshold 9000
namespace My
open PySem PySem.Spec PyProof.Rows L2 Tw
noncomputable def NoLess (s:Shp) (day:List Int) (C A:Int→Int) (sc:Int):Prop:=∀ x y,-s.depth≤x→x≤y→y≤s.top→C x≤sc * day.sum * s.ord x y+s.wg day y A sc
noncomputable abbrev nnE (s:Shp) (day:List Int) (C A:Int→Int) (sc:Int) (J7 J8 J9:Sl):List Sl:=[.d s.d,.d (tI day),.d (lI (s.row C)),.d (lI (s.row A)),.d (.int sc),.d (.int (sc * day.sum)),.d (lI (s.row fun y=>s.wg day y A sc)),J7,J8,J9]
theorem nn1 {s:Shp} (h:s.Ok) {day:List Int} (hd:DayB day) {C A:Int→Int} {b:Nat} {sc:Int} (hs:nb b sc) (hb:b≤2000) {x y c:Int} (x1:-s.depth≤x) (xy:x≤y) (y2:y≤s.top) :
    l_none_less_1 (nnE s day C A sc (.d (.int x)) (.d (.int c)) (.d (.int y)))=if sc * day.sum * s.ord x y+s.wg day y A sc < c then .ret (.ret (.d (.bool false))) else .ret (.next (nnE s day C A sc (.d (.int x)) (.d (.int c)) (.d (.int y)))):=by
  have hx:=st_nb h x1 (show x≤s.top by omega)
  have hy:=st_nb h (show -s.depth≤y by omega) y2
  have e1:=e_order h hx hy
  have e2:=row_atI (s:=s) (f:=fun y=>s.wg day y A sc) (x:=y) (by omega) y2
  have g1:=nb_fit (nb_mul hs (sum_nbD hd)) (by omega)
  have g2:=nb_fit (ord_nb h hx hy) (by decide)
  by_cases q:sc * day.sum * s.ord x y+s.wg day y A sc < c
  · rw [if_pos q]
    simp_arith [l_none_less_1,nnE,lI,e1,e2,g1,g2,decide_eq_true q]
  · rw [if_neg q]
    simp_arith [l_none_less_1,nnE,lI,e1,e2,g1,g2,decide_eq_false q]
theorem nn2 {s:Shp} (h:s.Ok) {day:List Int} (hd:DayB day) {C A:Int→Int} {b:Nat} {sc:Int} (hs:nb b sc) (hb:b≤2000) {x c:Int} (x1:-s.depth≤x) (x2:x≤s.top) (J9:Sl) :
    ((∃ y,x≤y∧y≤s.top∧sc * day.sum * s.ord x y+s.wg day y A sc < c)∧l_none_less_2 (nnE s day C A sc (.d (.int x)) (.d (.int c)) J9)=.ret (.ret (.d (.bool false))))∨((∀ y,x≤y→y≤s.top→¬ sc * day.sum * s.ord x y+s.wg day y A sc < c)∧∃ K9:Sl,l_none_less_2 (nnE s day C A sc (.d (.int x)) (.d (.int c)) J9)=.ret (.next (nnE s day C A sc (.d (.int x)) (.d (.int c)) K9))):=by
  have:=h.t0
  have:=h.d0
  have:=h.td
  have r1:rng2 [.int x,.int (s.top+1)]=.ret (rngL x (s.top+1)):=ev_rg2 (inR_of (by omega) (by omega)) (inR_of (by omega) (by omega))
  have key:=for_chk (g:=gSet 9) (s:=l_none_less_1) (r:=.d (.bool false)) (xs:=rngL x (s.top+1)) (ρ:=nnE s day C A sc (.d (.int x)) (.d (.int c)) J9) (fun pre _=>sc * day.sum * s.ord x (x+pre.length)+s.wg day (x+pre.length) A sc < c) (fun _ ρ=>∃ K9:Sl,ρ=nnE s day C A sc (.d (.int x)) (.d (.int c)) K9) ⟨_,rfl⟩ (by
    rintro pre z post ρ e ⟨K9,rfl⟩
    obtain ⟨rfl,hpre⟩:=rngL_mid e
    refine ⟨_,rfl,?_⟩
    have st:=nn1 h hd (C:=C) (A:=A) hs hb (c:=c) x1 (show x≤x+(pre.length:Int) by omega) (by omega)
    by_cases q:sc * day.sum * s.ord x (x+pre.length)+s.wg day (x+pre.length) A sc < c
    · rw [if_pos q] at st
      exact .inl ⟨q,st⟩
    · rw [if_neg q] at st
      exact .inr ⟨q,_,st,_,rfl⟩)
  have eL:l_none_less_2 (nnE s day C A sc (.d (.int x)) (.d (.int c)) J9)=forL (gSet 9) l_none_less_1 (rngL x (s.top+1)) (nnE s day C A sc (.d (.int x)) (.d (.int c)) J9):=by
    simp_arith [l_none_less_2,nnE,r1]
  rw [eL]
  rcases key with ⟨⟨p,z,q,e,hb⟩,k⟩ | ⟨hn,ρ2,k,K9,rfl⟩
  · obtain ⟨rfl,hpre⟩:=rngL_mid e
    exact .inl ⟨⟨x+p.length,by omega,by omega,hb⟩,k⟩
  · refine .inr ⟨fun y y1 y2=>?_,K9,k⟩
    have hlen:(y - x).toNat < (rngL x (s.top+1)).length:=by rw [rngL_len]; omega
    have hsp:rngL x (s.top+1)=(rngL x (s.top+1)).take (y - x).toNat++(rngL x (s.top+1))[(y - x).toNat]::(rngL x (s.top+1)).drop ((y - x).toNat+1):=by
      rw [← List.drop_eq_getElem_cons hlen,List.take_append_drop]
    have:=hn _ _ _ hsp
    rw [List.length_take,Nat.min_eq_left (by omega)] at this
    have e:x+((y - x).toNat:Int)=y:=by omega
    rwa [e] at this
theorem e_none_less {s:Shp} (h:s.Ok) {day:List Int} (hd:DayB day) {C A:Int→Int} {b:Nat} (hA:Bd s b A) {sc:Int} (hs:nb b sc) (hb:b≤2000) :
    (NoLess s day C A sc∧m_none_less [.d s.d,.d (tI day),.d (lI (s.row C)),.d (lI (s.row A)),.d (.int sc)]=.ret (.d (.bool true)))∨(¬ NoLess s day C A sc∧m_none_less [.d s.d,.d (tI day),.d (lI (s.row C)),.d (lI (s.row A)),.d (.int sc)]=.ret (.d (.bool false))):=by
  have:=h.t0
  have:=h.d0
  have:=h.td
  have hn:=h.n_eq
  have g1:=nb_fit hs (by omega)
  have g2:=nb_fit (sum_nbD hd) (by decide)
  have hsm:small (rngL (-s.depth) (s.top+1)).length=true:=small_le (by rw [rngL_len]; omega)
  have hmap:mapT (lc2 (gSet 0) q_none_less_1 [.un,.d s.d,.d (tI day),.d (lI (s.row A)),.d (.int sc)]) (rngL (-s.depth) (s.top+1))=.ret ((s.row fun y=>s.wg day y A sc).map PyData.int):=by
    rw [mapT_rng (f:=fun y=>.int (s.wg day y A sc)) fun z z1 z2=>?_]
    · unfold Shp.row
      rw [List.map_map]
      rfl
    · have e:=e_weighed h hd (y:=z) z1 (by omega) hA hs hb
      have e3:∀ q:List Sl→Tr PyData,lc2 (gSet 0) q [.un,.d s.d,.d (tI day),.d (lI (s.row A)),.d (.int sc)] (.int z)=q [.d (.int z),.d s.d,.d (tI day),.d (lI (s.row A)),.d (.int sc)]:=fun q=>rfl
      rw [e3]
      simp_arith [q_none_less_1,e]
  have key:=for_chk (g:=gTupD (gsCons (gSet 7) (gsCons (gSet 8) gsNil))) (s:=l_none_less_2) (r:=.d (.bool false)) (xs:=zipD (rngL (-s.depth) (s.top+1)) ((s.row C).map PyData.int)) (ρ:=nnE s day C A sc .un .un .un) (fun pre _=>∃ y,-s.depth+(pre.length:Int)≤y∧y≤s.top∧sc * day.sum * s.ord (-s.depth+pre.length) y+s.wg day y A sc < C (-s.depth+pre.length)) (fun _ ρ=>∃ K7 K8 K9:Sl,ρ=nnE s day C A sc K7 K8 K9) ⟨_,_,_,rfl⟩ (by
    rintro pre z post ρ e ⟨K7,K8,K9,rfl⟩
    obtain ⟨a,c,ha,hc,rfl⟩:=zip_mid e
    obtain ⟨rfl,hpre⟩:=rngL_at ha
    have x1:-s.depth≤-s.depth+(pre.length:Int):=by omega
    have x2:-s.depth+(pre.length:Int)≤s.top:=by omega
    have ek:(-s.depth+(pre.length:Int)+s.depth).toNat=pre.length:=by omega
    have hr:=row_at (f:=C) x1 x2
    rw [ek] at hr
    rw [List.getElem?_map,hr] at hc
    cases hc
    refine ⟨_,rfl,?_⟩
    rcases nn2 h hd (C:=C) (A:=A) hs hb (c:=C (-s.depth+(pre.length:Int))) x1 x2 K9 with ⟨q,st⟩ | ⟨q,K9',st⟩
    · exact .inl ⟨q,st⟩
    · exact .inr ⟨fun ⟨y,y1,y2,y3⟩=>q y y1 y2 y3,_,st,_,_,_,rfl⟩)
  rcases key with ⟨⟨p,z,q,e,y,y1,y2,y3⟩,k⟩ | ⟨hno,ρ2,k,K7,K8,K9,rfl⟩
  · refine .inr ⟨fun nl=>?_,?_⟩
    · have:=nl _ y (by omega) y1 y2
      omega
    · have ei:it1 (lI (s.row C))=.ret ((s.row C).map PyData.int):=rfl
      have el:PyData.list ((s.row fun y=>s.wg day y A sc).map PyData.int)=lI (s.row fun y=>s.wg day y A sc):=rfl
      simp_arith [m_none_less,sum_tI,g1,g2,e_stocks h,hsm,hmap,ei,el]
      simp only [nnE] at k
      simp_arith [k]
  · refine .inl ⟨fun x y x1 xy y2=>?_,?_⟩
    · have hlen:(x+s.depth).toNat < (zipD (rngL (-s.depth) (s.top+1)) ((s.row C).map PyData.int)).length:=by
        unfold zipD
        rw [List.length_map,List.length_zip,rngL_len,List.length_map,row_len]
        omega
      have hsp:zipD (rngL (-s.depth) (s.top+1)) ((s.row C).map PyData.int)=(zipD (rngL (-s.depth) (s.top+1)) ((s.row C).map PyData.int)).take (x+s.depth).toNat++(zipD (rngL (-s.depth) (s.top+1)) ((s.row C).map PyData.int))[(x+s.depth).toNat]::(zipD (rngL (-s.depth) (s.top+1)) ((s.row C).map PyData.int)).drop ((x+s.depth).toNat+1):=by
        rw [← List.drop_eq_getElem_cons hlen,List.take_append_drop]
      have:=hno _ _ _ hsp
      rw [List.length_take,Nat.min_eq_left (by omega)] at this
      have e:-s.depth+((x+s.depth).toNat:Int)=x:=by omega
      rw [e] at this
      by_cases q:C x≤sc * day.sum * s.ord x y+s.wg day y A sc
      · exact q
      · exact absurd ⟨y,xy,y2,by omega⟩ this
    · have ei:it1 (lI (s.row C))=.ret ((s.row C).map PyData.int):=rfl
      have el:PyData.list ((s.row fun y=>s.wg day y A sc).map PyData.int)=lI (s.row fun y=>s.wg day y A sc):=rfl
      simp_arith [m_none_less,sum_tI,g1,g2,e_stocks h,hsm,hmap,ei,el]
      simp only [nnE] at k
      simp_arith [k]
end My
set_option Elab.async false
set_option linter.all false
set_option maxRecDepth 100000
namespace My
open PySem PySem.Spec PyProof.Rows L2 Tw
end My
set_option Elab.async false
set_option linter.all false
set_option maxRecDepth 100000
set_option exponentiation.threshold 9000
namespace My
open PySem PySem.Spec PyProof.Rows L2 Tw
theorem e_gcd {a b:Int} (hb:nb 8000 b):m_common_divisor [.d (.int a),.d (.int b)]=.ret (.d (.int (Nat.gcd a.natAbs b.natAbs:Nat))):=by
  have key:=euclid (p:=w_common_divisor_1) (s:=l_common_divisor_1) (E:=fun a b=>[.d (.int a),.d (.int b)]) (fun a b=>by
    simp_arith [w_common_divisor_1]
    by_cases h:b=0
    · subst h; rfl
    · rw [decide_eq_true h]
      congr 1
      simp [h]) (fun a b h=>by
    have h':(b:Int)≠0:=by omega
    simp_arith [l_common_divisor_1,ev_mod h',fmod_nat]) 8000 83999 a.natAbs b.natAbs hb
  have e:2 * 8000+1+83999=100000:=rfl
  rw [e] at key
  simp_arith [m_common_divisor,absI_eq,key]
theorem e_share {t b:Int} (h0:b≠0) (hb:nb 7000 b):m_share [.d (.int t),.d (.int b)]=.ret (.d (shD t b)):=by
  have e:=e_gcd (a:=t) (b:=b) (nb_mono hb (by decide))
  have e0:(b == 0)=false:=beq_eq_false_iff_ne.mpr h0
  have hd:=Gc.den_ne (t:=t) h0
  have hf:=nb_fit (den_nb (t:=t) hb h0) (by decide)
  unfold shD Gc.lowT Gc.lowB
  by_cases hn:b < 0
  · have ed:Gc.den t b=-((Nat.gcd t.natAbs b.natAbs:Nat):Int):=by unfold Gc.den Gc.gcdI; rw [if_pos hn]
    rw [ed] at hd hf ⊢
    simp_arith [m_share,e0,e,decide_eq_true hn,ev_fdiv hd hf]
  · have ed:Gc.den t b=((Nat.gcd t.natAbs b.natAbs:Nat):Int):=by unfold Gc.den Gc.gcdI; rw [if_neg hn]
    rw [ed] at hd hf ⊢
    simp_arith [m_share,e0,e,decide_eq_false hn,ev_fdiv hd hf]
end My
set_option Elab.async false
set_option linter.all false
set_option maxRecDepth 100000
set_option exponentiation.threshold 9000
namespace My
open PySem PySem.Spec PyProof.Rows L2 Tw
structure Ent where
  t:Int
  b:Int
  l:Int
noncomputable def Ent.d (e:Ent):PyData:=.tuple [.tuple [.int e.t,.int e.b],.int e.l]
structure Ent.Sh (e:Ent):Prop where
  pos:1≤e.b
  one:Nat.gcd e.t.natAbs e.b.natAbs=1
  nb:nb 7000 e.b
theorem two_2:((((2:Nat):Int)) == 2)=true:=rfl
theorem isi_ii (n:Int):isiB "int" (tyD (.int n))=true:=rfl
theorem isi_ib (n:Int):isiB "bool" (tyD (.int n))=false:=rfl
theorem isi_tt (xs:List PyData):isiB "tuple" (tyD (.tuple xs))=true:=rfl
theorem e_whole (n:Int):m_is_whole [.d (.int n)]=.ret (.d (.bool true)):=by
  simp_arith [m_is_whole,isi_ii,isi_ib,Bool.not_false]
theorem e_within (n a b:Int):m_is_whole_within [.d (.int n),.d (.int a),.d (.int b)]=.ret (.d (.bool (decide (a≤n) && decide (n≤b)))):=by
  by_cases h1:a≤n
  · by_cases h2:n≤b
    · simp_arith [m_is_whole_within,e_whole,decide_eq_true h1,decide_eq_true h2,Bool.and_self]
    · simp_arith [m_is_whole_within,e_whole,decide_eq_true h1,decide_eq_false h2,Bool.and_false]
  · simp_arith [m_is_whole_within,e_whole,decide_eq_false h1,Bool.false_and]
theorem e_is_share {e:Ent} (h:e.Sh):m_is_share [.d (.tuple [.int e.t,.int e.b])]=.ret (.d (.bool true)):=by
  have h1:=e_gcd (a:=e.t) (b:=e.b) (nb_mono h.nb (by decide))
  have hp:=h.pos
  have h2:¬ e.b < 1:=by omega
  have h3:((Nat.gcd e.t.natAbs e.b.natAbs:Nat):Int)=1:=by rw [h.one]; rfl
  rw [h3] at h1
  simp_arith [m_is_share,isi_tt,two_2,Bool.not_true,e_whole,decide_eq_false h2,h1,beq_self_eq_true]
theorem e_level {s:Shp} {x l:Int}:m_is_level [.d s.d,.d (.int x),.d (.int l)]=.ret (.d (.bool (decide (x≤l) && decide (l≤s.top)))):=by
  simp_arith [m_is_level,e_within]
theorem e_entry {s:Shp} {x:Int} {e:Ent} (h:e.Sh):m_is_entry [.d s.d,.d (.int x),.d e.d]=.ret (.d (.bool (decide (x≤e.l) && decide (e.l≤s.top)))):=by
  unfold Ent.d
  simp_arith [m_is_entry,isi_tt,two_2,Bool.not_true,e_is_share h,e_level]
end My
set_option Elab.async false
set_option linter.all false
set_option maxRecDepth 100000
set_option exponentiation.threshold 9000
namespace My
open PySem PySem.Spec PyProof.Rows L2 Tw
noncomputable def dyD (s:Shp) (e:Int→Ent):PyData:=.tuple ((rangeI (-s.depth) s.n).map fun x=>(e x).d)
noncomputable def papD (s:Shp) (es:List (Int→Ent)):PyData:=.tuple (es.map (dyD s))
noncomputable def lvB (s:Shp) (e:Int→Ent):Bool:=(rangeI (-s.depth) s.n).all fun x=>decide (x≤(e x).l) && decide ((e x).l≤s.top)
theorem lvB_iff {s:Shp} {e:Int→Ent}:lvB s e=true ↔ s.RlOk fun x=>(e x).l:=by
  have hn:s.n=(s.top+1 - -s.depth).toNat:=rfl
  unfold lvB
  rw [List.all_eq_true]
  constructor
  · intro h x x1 x2
    have:=h x (by
      unfold rangeI
      exact List.mem_map.mpr ⟨(x+s.depth).toNat,List.mem_range.mpr (by omega),by omega⟩)
    simp at this
    exact this
  · intro h x hx
    have hx':=rangeI_mem hx
    have:=h x (by omega) (by omega)
    simp
    exact this
noncomputable def ShAll (s:Shp) (e:Int→Ent):Prop:=∀ x,-s.depth≤x→x≤s.top→(e x).Sh
theorem zip_rng (s:Shp) (f:Int→PyData):zipD (rngL (-s.depth) (s.top+1)) ((rangeI (-s.depth) s.n).map f)=(rangeI (-s.depth) s.n).map fun x=>.tuple [.int x,f x]:=by
  unfold zipD rngL
  have e:(s.top+1 - -s.depth).toNat=s.n:=rfl
  rw [e]
  generalize rangeI (-s.depth) s.n=l
  induction l with
  | nil=>rfl
  | cons a l ih=>rw [List.map_cons,List.map_cons,List.zip_cons_cons,List.map_cons,ih,List.map_cons]
theorem mapT_gen {α:Type} {h:PyData→Tr PyData} {D F:α→PyData}:∀ {l:List α},(∀ x∈l,h (D x)=.ret (F x))→mapT h (l.map D)=.ret (l.map F)
  | [],_=>rfl
  | x::l,hx=>by
    have ih:=mapT_gen (h:=h) (D:=D) (F:=F) (l:=l) fun q hq=>hx q (List.mem_cons_of_mem _ hq)
    rw [List.map_cons,mapT,hx x (by simp),Tr.ret_bind,ih]
    rfl
theorem e_paper_day {s:Shp} (h:s.Ok) {e:Int→Ent} (hs:ShAll s e):m_is_paper_day [.d s.d,.d (dyD s e)]=.ret (.d (.bool (lvB s e))):=by
  have:=h.t0
  have:=h.d0
  have:=h.td
  have hn:=h.n_eq
  have hl1:cb1 lenD [dyD s e]=.ret (.int s.n):=by
    show Tr.ret (PyData.int _)=_
    rw [List.length_map,rangeI_length]
  have hl2:(rngL (-s.depth) (s.top+1)).length=s.n:=by rw [rngL_len]; rfl
  have hi:isiB "tuple" (tyD (dyD s e))=true:=rfl
  have hit:it1 (dyD s e)=.ret ((rangeI (-s.depth) s.n).map fun x=>(e x).d):=rfl
  have hsm:small ((rangeI (-s.depth) s.n).map fun x=>PyData.tuple [.int x,(e x).d]).length=true:=small_le (by rw [List.length_map,rangeI_length]; omega)
  have hmap:=mapT_gen (h:=lc2 (gTupD (gsCons (gSet 0) (gsCons (gSet 1) gsNil))) q_is_paper_day_1 [.un,.un,.d s.d]) (D:=fun x=>PyData.tuple [.int x,(e x).d]) (F:=fun x=>PyData.bool (decide (x≤(e x).l) && decide ((e x).l≤s.top))) (l:=rangeI (-s.depth) s.n) fun x hx=>by
    have hx':=rangeI_mem hx
    have e1:=e_entry (s:=s) (x:=x) (hs x (by omega) (by omega))
    have e3:∀ (q:List Sl→Tr PyData) (a b:PyData),lc2 (gTupD (gsCons (gSet 0) (gsCons (gSet 1) gsNil))) q [.un,.un,.d s.d] (.tuple [a,b])=q [.d a,.d b,.d s.d]:=fun q a b=>rfl
    rw [e3]
    simp_arith [q_is_paper_day_1,e1]
  have em:(rangeI (-s.depth) s.n).map (fun x=>PyData.bool (decide (x≤(e x).l) && decide ((e x).l≤s.top)))=((rangeI (-s.depth) s.n).map fun x=>decide (x≤(e x).l) && decide ((e x).l≤s.top)).map PyData.bool:=by rw [List.map_map]; rfl
  rw [em] at hmap
  have hall:((rangeI (-s.depth) s.n).map fun x=>decide (x≤(e x).l) && decide ((e x).l≤s.top)).all id=lvB s e:=by
    unfold lvB
    rw [List.all_map]
    rfl
  simp_arith [m_is_paper_day,e_stocks h,hi,hl1,hl2,beq_self_eq_true,Bool.not_true,hit,zip_rng,hsm,hmap,hall]
theorem e_paper {s:Shp} (h:s.Ok) {fs:List (List Int)} {es:List (Int→Ent)} (hl:es.length=fs.length) (h6:fs.length≤100) (hs:∀ e∈es,ShAll s e):m_is_paper [.d s.d,.d (fD fs),.d (papD s es)]=.ret (.d (.bool (es.all (lvB s)))):=by
  have hl1:cb1 lenD [papD s es]=.ret (.int fs.length):=by
    show Tr.ret (PyData.int _)=_
    rw [List.length_map,hl]
  have hi:isiB "tuple" (tyD (papD s es))=true:=rfl
  have hit:it1 (papD s es)=.ret (es.map (dyD s)):=rfl
  have hsm:small (es.map (dyD s)).length=true:=small_le (by rw [List.length_map]; omega)
  have hmap:=mapT_gen (h:=lc2 (gSet 0) q_is_paper_1 [.un,.d s.d]) (D:=dyD s) (F:=fun e=>PyData.bool (lvB s e)) (l:=es) fun e he=>by
    have e1:=e_paper_day h (hs e he)
    have e3:∀ (q:List Sl→Tr PyData) (a:PyData),lc2 (gSet 0) q [.un,.d s.d] a=q [.d a,.d s.d]:=fun q a=>rfl
    rw [e3]
    simp_arith [q_is_paper_1,e1]
  have em:es.map (fun e=>PyData.bool (lvB s e))=(es.map (lvB s)).map PyData.bool:=by rw [List.map_map]; rfl
  rw [em] at hmap
  have hall:(es.map (lvB s)).all id=es.all (lvB s):=by rw [List.all_map]; rfl
  simp_arith [m_is_paper,hi,hl1,len_fD,beq_self_eq_true,Bool.not_true,hit,hsm,hmap,hall]
end My
set_option Elab.async false
set_option linter.all false
set_option maxRecDepth 100000
set_option exponentiation.threshold 9000
namespace My
open PySem PySem.Spec PyProof.Rows L2 Tw
noncomputable def ahP (s:Shp):List (List Int)→List (Int→Ent)→Int→Int
  | d::fs,e::es=>cby s d (ahP s fs es) (prd fs) fun x=>(e x).l
  | _,_=>s.fin
noncomputable def csOk (s:Shp) (C:Int→Int) (B:Int) (e:Int→Ent):Bool:=(rangeI (-s.depth) s.n).all fun x=>Gc.lowT (C x) B == (e x).t && Gc.lowB (C x) B == (e x).b
noncomputable def DyP (s:Shp):List (List Int)→List (Int→Ent)→Prop
  | d::fs,e::es=>csOk s (ahP s (d::fs) (e::es)) (prd (d::fs)) e=true∧NoLess s d (ahP s (d::fs) (e::es)) (ahP s fs es) (prd fs)
  | _,_=>True
theorem ahP_nb {s:Shp} (h:s.Ok):∀ {fs:List (List Int)} {es:List (Int→Ent)},(∀ l∈fs,DayB l)→(∀ e∈es,s.RlOk fun x=>(e x).l)→Bd s (100+300 * fs.length) (ahP s fs es)
  | [],es,_,_=>by
    have e:ahP s [] es=s.fin:=by cases es <;> rfl
    rw [e]
    exact fin_nb h
  | d::fs,[],_,_=>fun x x1 x2=>nb_mono (fin_nb h x x1 x2) (by omega)
  | d::fs,e::es,hf,he=>fun x x1 x2=>by
    have hf':∀ l∈fs,DayB l:=fun l hl=>hf l (List.mem_cons_of_mem _ hl)
    have ih:=ahP_nb h (fs:=fs) (es:=es) hf' fun g hg=>he g (List.mem_cons_of_mem _ hg)
    have hd:=hf d (by simp)
    obtain ⟨g1,g2⟩:x≤(e x).l∧(e x).l≤s.top:=he e (by simp) x x1 x2
    have hp:nb (100+300 * fs.length) (prd fs):=by rw [prd_bk s]; exact (bk_nb h hf').2
    have k1:=wg_nb h hd (show -s.depth≤(e x).l by omega) g2 ih hp
    have k2:=nb_mul (nb_mul hp (sum_nbD hd)) (ord_nb h (st_nb h x1 x2) (st_nb h (show -s.depth≤(e x).l by omega) g2))
    rw [List.length_cons]
    exact nb_mono (nb_add k2 k1) (by omega)
theorem sh_prs {α:Type} (a b:α→Int) (l:List α):SeqAt.shaped (.list (l.map fun x=>.tuple [.int (a x),.int (b x)]))=true:=by
  have h1:PyData.canLayAll0 (l.map fun x=>.tuple [.int (a x),.int (b x)])=true:=by
    induction l with
    | nil=>rfl
    | cons x l ih=>rw [List.map_cons,PyData.canLayAll0,ih]; rfl
  have h2:PyData.depthAll (l.map fun x=>.tuple [.int (a x),.int (b x)])≤1:=by
    clear h1
    induction l with
    | nil=>exact Nat.zero_le 1
    | cons x l ih =>
      rw [List.map_cons,PyData.depthAll]
      have:PyData.depth (.tuple [.int (a x),.int (b x)])=1:=rfl
      rw [this]
      omega
  unfold SeqAt.shaped
  rw [PyData.canLay0,PyData.depth,h1]
  simp
  omega
theorem eqv_prs {α:Type} (a b c d:α→Int):∀ l:List α,PyData.eqvAll (l.map fun x=>.tuple [.int (a x),.int (b x)]) (l.map fun x=>.tuple [.int (c x),.int (d x)])=l.all fun x=>a x == c x && b x == d x
  | []=>rfl
  | x::l=>by
    have ih:=eqv_prs a b c d l
    rw [List.map_cons,List.map_cons,PyData.eqvAll,ih,List.all_cons]
    congr 1
    show (a x == c x && (b x == d x && true))=_
    rw [Bool.and_true]
noncomputable abbrev leE (s:Shp) (fs:List (List Int)) (es:List (Int→Ent)) (A:Int→Int) (sc:Int) (J5 J6 J7:Sl):List Sl:=[.d s.d,.d (fD fs),.d (papD s es),.d (lI (s.row A)),.d (.int sc),J5,J6,J7]
theorem le1 {s:Shp} (h:s.Ok) {fs:List (List Int)} {es:List (Int→Ent)} {d:List Int} {rest:List (List Int)} {e:Int→Ent} {er:List (Int→Ent)} (hf:∀ l∈d::rest,DayB l) (hl:(d::rest).length≤6) (he:∀ g∈e::er,s.RlOk fun x=>(g x).l) {t:Int} (i1:bin2 ixD (fD fs) (.int t)=.ret (tI d)) (i2:bin2 ixD (papD s es) (.int t)=.ret (dyD s e)) (J6 J7:Sl) :
    (DyP s (d::rest) (e::er)∧∃ K6 K7:Sl,l_lets_1 (leE s fs es (ahP s rest er) (prd rest) (.d (.int t)) J6 J7)=.ret (.next (leE s fs es (ahP s (d::rest) (e::er)) (prd (d::rest)) (.d (.int t)) K6 K7)))∨(¬ DyP s (d::rest) (e::er)∧l_lets_1 (leE s fs es (ahP s rest er) (prd rest) (.d (.int t)) J6 J7)=.ret (.ret (.d (.bool false)))):=by
  have hd:=hf d (by simp)
  have hf':∀ l∈rest,DayB l:=fun l hl=>hf l (List.mem_cons_of_mem _ hl)
  have hl':rest.length≤5:=by rw [List.length_cons] at hl; omega
  have hn:=h.n_eq
  have:=h.td
  have hA:=ahP_nb h (fs:=rest) (es:=er) hf' fun g hg=>he g (List.mem_cons_of_mem _ hg)
  have hp:nb (100+300 * rest.length) (prd rest):=by rw [prd_bk s]; exact (bk_nb h hf').2
  have hp0:0 < prd (d::rest):=by rw [prd_bk s]; exact bk_sc hf
  have hpn:nb 7000 (prd (d::rest)):=by rw [prd_bk s]; exact nb_mono (bk_nb h hf).2 (by omega)
  have hg:=he e (by simp)
  have it:it1 (dyD s e)=.ret ((rangeI (-s.depth) s.n).map fun x=>(e x).d):=rfl
  have hsm:small ((rangeI (-s.depth) s.n).map fun x=>(e x).d).length=true:=small_le (by rw [List.length_map,rangeI_length]; omega)
  have m1:=mapT_gen (h:=lc2 (gTupD (gsCons (gSet 0) (gsCons (gSet 1) gsNil))) q_lets_1 [.un,.un]) (D:=fun x=>(e x).d) (F:=fun x=>PyData.int (e x).l) (l:=rangeI (-s.depth) s.n) fun x hx=>rfl
  have m3:=mapT_gen (h:=lc2 (gTupD (gsCons (gSet 0) (gsCons (gSet 1) gsNil))) q_lets_3 [.un,.un]) (D:=fun x=>(e x).d) (F:=fun x=>PyData.tuple [.int (e x).t,.int (e x).b]) (l:=rangeI (-s.depth) s.n) fun x hx=>rfl
  have em:(rangeI (-s.depth) s.n).map (fun x=>PyData.int (e x).l)=(s.row fun x=>(e x).l).map PyData.int:=by unfold Shp.row; rw [List.map_map]; rfl
  rw [em] at m1
  have e1:=e_costs_by h hd hA hp (by omega) hg (LV:=.list ((s.row fun x=>(e x).l).map PyData.int)) rfl
  have eC:cby s d (ahP s rest er) (prd rest) (fun x=>(e x).l)=ahP s (d::rest) (e::er):=rfl
  rw [eC] at e1
  have eB:prd rest * d.sum=prd (d::rest):=rfl
  have e2:=e_none_less h hd (C:=ahP s (d::rest) (e::er)) hA hp (by omega)
  have g1:=nb_fit hp (by omega)
  have g2:=nb_fit (sum_nbD hd) (by decide)
  have hdp:DyP s (d::rest) (e::er) ↔ csOk s (ahP s (d::rest) (e::er)) (prd (d::rest)) e=true∧NoLess s d (ahP s (d::rest) (e::er)) (ahP s rest er) (prd rest):=Iff.rfl
  generalize ahP s (d::rest) (e::er)=C at *
  generalize prd (d::rest)=B at *
  have m2:=mapT_gen (h:=lc2 (gSet 0) q_lets_2 [.un,.d (.int B)]) (D:=fun x=>PyData.int (C x)) (F:=fun x=>PyData.tuple [.int (Gc.lowT (C x) B),.int (Gc.lowB (C x) B)]) (l:=rangeI (-s.depth) s.n) fun x hx=>by
    have es:=e_share (t:=C x) (b:=B) (by omega) hpn
    have e3:∀ (q:List Sl→Tr PyData) (a:PyData),lc2 (gSet 0) q [.un,.d (.int B)] a=q [.d a,.d (.int B)]:=fun q a=>rfl
    rw [e3]
    simp_arith [q_lets_2,es]
    rfl
  have em2:(rangeI (-s.depth) s.n).map (fun x=>PyData.int (C x))=(s.row C).map PyData.int:=by unfold Shp.row; rw [List.map_map]; rfl
  rw [em2] at m2
  have itc:it1 (.list ((s.row C).map PyData.int))=.ret ((s.row C).map PyData.int):=rfl
  have hsm2:small ((s.row C).map PyData.int).length=true:=small_le (by rw [List.length_map,row_len]; omega)
  have hne:bin2 neD (.list ((rangeI (-s.depth) s.n).map fun x=>PyData.tuple [.int (Gc.lowT (C x) B),.int (Gc.lowB (C x) B)])) (.list ((rangeI (-s.depth) s.n).map fun x=>PyData.tuple [.int (e x).t,.int (e x).b]))=.ret (.bool (!csOk s C B e)):=by
    rw [ev_neL (sh_prs _ _ _) (sh_prs _ _ _),eqv_prs]
    rfl
  have eLC:PyData.list ((s.row C).map PyData.int)=lI (s.row C):=rfl
  by_cases hc:csOk s C B e=true
  · rcases e2 with ⟨q,e2⟩ | ⟨q,e2⟩
    · refine .inl ⟨hdp.mpr ⟨hc,q⟩,.d (lI (s.row C)),.d (.int B),?_⟩
      simp_arith [l_lets_1,leE,i1,i2,it,hsm,m1,m3,e1,sum_tI,g1,g2,eB,itc,hsm2,m2,hne,hc,Bool.not_true]
      simp_arith [eLC,e2,Bool.not_true]
    · refine .inr ⟨fun z=>q (hdp.mp z).2,?_⟩
      simp_arith [l_lets_1,leE,i1,i2,it,hsm,m1,m3,e1,sum_tI,g1,g2,eB,itc,hsm2,m2,hne,hc,Bool.not_true]
      simp_arith [eLC,e2,Bool.not_false]
  · have hc':csOk s C B e=false:=by simpa using hc
    refine .inr ⟨fun z=>hc (hdp.mp z).1,?_⟩
    simp_arith [l_lets_1,leE,i1,i2,it,hsm,m1,m3,e1,sum_tI,g1,g2,eB,itc,hsm2,m2,hne,hc',Bool.not_false]
noncomputable def LetP (s:Shp) (fs:List (List Int)) (es:List (Int→Ent)):Prop:=∀ k,k < fs.length→DyP s (fs.drop k) (es.drop k)
theorem e_lets {s:Shp} (h:s.Ok) {fs:List (List Int)} {es:List (Int→Ent)} (hl:es.length=fs.length) (h6:fs.length≤6) (hf:∀ l∈fs,DayB l) (hs:∀ e∈es,ShAll s e) :
    (((∀ e∈es,s.RlOk fun x=>(e x).l)∧LetP s fs es)∧m_lets [.d s.d,.d (fD fs),.d (papD s es)]=.ret (.d (.bool true)))∨(¬ ((∀ e∈es,s.RlOk fun x=>(e x).l)∧LetP s fs es)∧m_lets [.d s.d,.d (fD fs),.d (papD s es)]=.ret (.d (.bool false))):=by
  have e1:=e_paper h hl (by omega) hs
  by_cases hb:es.all (lvB s)=true
  · have hok:∀ e∈es,s.RlOk fun x=>(e x).l:=fun e he=>lvB_iff.mp (List.all_eq_true.mp hb e he)
    rw [hb] at e1
    have r1:rng1 [.int (fs.length:Int)]=.ret (rngL 0 fs.length):=ev_rg1 (inR_of (by omega) (by omega))
    have key:=for_chk (g:=gSet 5) (s:=l_lets_1) (r:=.d (.bool false)) (xs:=(rngL 0 (fs.length:Int)).reverse) (ρ:=leE s fs es s.fin 1 .un .un .un) (fun pre _=>¬ DyP s (fs.drop (fs.length - 1 - pre.length)) (es.drop (fs.length - 1 - pre.length))) (fun pre ρ=>∃ J5 J6 J7:Sl,ρ=leE s fs es (ahP s (fs.drop (fs.length - pre.length)) (es.drop (fs.length - pre.length))) (prd (fs.drop (fs.length - pre.length))) J5 J6 J7) ⟨.un,.un,.un,by
        show _=leE s fs es (ahP s (fs.drop fs.length) _) (prd (fs.drop fs.length)) _ _ _
        rw [List.drop_length]
        rfl⟩ (by
      rintro pre x post ρ e ⟨J5,J6,J7,rfl⟩
      obtain ⟨rfl,hpre⟩:=rngR_mid e
      have hk:fs.length - 1 - pre.length < fs.length:=by omega
      have ej:fs.length - 1 - pre.length+1=fs.length - pre.length:=by omega
      have ez:(fs.length:Int) - 1 - (pre.length:Int)=((fs.length - 1 - pre.length:Nat):Int):=by omega
      have el:∀ z:PyData,(pre++[z]).length=pre.length+1:=fun z=>by simp
      have ej2:fs.length - (pre.length+1)=fs.length - 1 - pre.length:=by omega
      rw [el,ej2,ez]
      have d1:fs.drop (fs.length - 1 - pre.length)=fs[fs.length - 1 - pre.length]::fs.drop (fs.length - pre.length):=by rw [List.drop_eq_getElem_cons hk,ej]
      have d2:es.drop (fs.length - 1 - pre.length)=es[fs.length - 1 - pre.length]'(by omega)::es.drop (fs.length - pre.length):=by rw [List.drop_eq_getElem_cons (by omega),ej]
      have i1:bin2 ixD (fD fs) (.int ((fs.length - 1 - pre.length:Nat):Int))=.ret (tI fs[fs.length - 1 - pre.length]):=by
        unfold fD
        rw [ev_ixT,atI_ge (v:=tI fs[fs.length - 1 - pre.length]) (by omega) (by rw [Int.toNat_natCast,List.getElem?_map,List.getElem?_eq_getElem hk]; rfl)]
        rfl
      have i2:bin2 ixD (papD s es) (.int ((fs.length - 1 - pre.length:Nat):Int))=.ret (dyD s (es[fs.length - 1 - pre.length]'(by omega))):=by
        unfold papD
        rw [ev_ixT,atI_ge (v:=dyD s (es[fs.length - 1 - pre.length]'(by omega))) (by omega) (by rw [Int.toNat_natCast,List.getElem?_map,List.getElem?_eq_getElem (by omega)]; rfl)]
        rfl
      have hfd:∀ l∈fs.drop (fs.length - 1 - pre.length),DayB l:=fun l hl=>hf l (List.mem_of_mem_drop hl)
      have hed:∀ e∈es.drop (fs.length - 1 - pre.length),s.RlOk fun x=>(e x).l:=fun e he=>hok e (List.mem_of_mem_drop he)
      have hld:(fs.drop (fs.length - 1 - pre.length)).length≤6:=by rw [List.length_drop]; omega
      rw [d1] at hfd hld
      rw [d2] at hed
      refine ⟨_,rfl,?_⟩
      rcases le1 h hfd hld hed i1 i2 J6 J7 with ⟨q,K6,K7,st⟩ | ⟨q,st⟩
      · rw [d1,d2]
        exact .inr ⟨fun z=>z q,_,st,_,_,_,rfl⟩
      · rw [d1,d2]
        exact .inl ⟨q,st⟩)
    have ef:PyData.list ((s.row s.fin).map PyData.int)=lI (s.row s.fin):=rfl
    rcases key with ⟨⟨p,z,q,e,hbad⟩,k⟩ | ⟨hno,ρ2,k,J5,J6,J7,rfl⟩
    · obtain ⟨rfl,hpre⟩:=rngR_mid e
      refine .inr ⟨fun z=>hbad (z.2 _ (by omega)),?_⟩
      simp -implicitDefEqProofs only [m_lets,ev_var0,ev_varS,ev_C,ev_bin,ev_bin1,ev_add,ev_addT,ev_addL,ev_sub,ev_cmp,ev_eqI,ev_neI,ev_eqB,ev_eqS,ev_neS,ev_isB,ev_isN,ev_ixL,ev_ixT,at_0,at_1,at_2,at_3,at_4,at_5,at_6,at_7,at_8,ev_neg,ev_neg1,ev_test,ev_tst1,ev_tru,ev_truB,ev_truI,ev_truL,ev_truT,ev_truN,ev_or,ev_not,ev_or1t,ev_or1f,ev_not1,ev_andV,ev_notV,ev_andV1t,ev_andV1f,ev_notV1,ev_if,ev_if1t,ev_if1f,ev_chain,ev_ch1,ev_ch2,ev_ch3,ev_ch4t,ev_ch4f,ev_nil,ev_cons,ev_cons1,ev_cons2,ev_tup,ev_tup1,ev_lst,ev_lst1,ev_lo,ev_lo1,small_le,ev_cb,ev_cbo,ev_lenL,ev_lenT,ev_abs,ev_max2,ev_intI,ev_intB,ev_tupL,ev_tupT,ev_lstL,ev_lstT,ev_sumL,ev_sumT,ev_allL,ev_isi,ev_isi1,ev_sl,ev_sl1,ev_sl2,ev_sl3L,ev_sl3T,ev_p0,ev_p1,ev_pa1,ev_tupR,ev_tupR1,ev_lstR,ev_lstR1,ev_aaNil,ev_aaCons,ev_aa1,ev_aa2,ev_pen0,ev_penS,ev_aaPen,ev_aap,ev_call,ev_re,ev_re1,ev_def,ev_finN,ev_finR,ev_seq,ev_seqN,ev_seqR,ev_seqB,ev_seqC,ev_skip,ev_ifs,ev_ifst,ev_ifsf,ev_ret,ev_ret1,ev_retO,ev_retO1,ev_retR,ev_retR1,ev_retVd,ev_retVo,ev_retVs,ev_set,ev_set1,ev_setO,ev_setO1,ls_0,ls_S,ev_aug,ev_aug1,ev_aug2,ev_iadd,ev_own0,ev_ownS,ev_app,ev_app1,ev_app2,ev_fz,fz_o,fz_d,fz_p,fz_u,fz_S,ev_asg,ev_asg1,ev_nx1,g_set,g_tup,g_nil,g_cons,g_some,ev_par,ev_par1,ev_it,ev_it1L,ev_it1T,ev_rng1,ev_rng2,ev_zip,ev_zip0,ev_zip1,ev_zip2,ev_zip3,ev_enum,ev_enu1,ev_enu2,ev_for,ev_for1,for_nil,ev_lc,ev_lc1,ev_lc2,mt_nil,mt_cons,mt_1,mt_2,ev_len0o,ev_len0d,ev_lenS,ev_lend,ev_cbF,ev_cbf1,ev_fl1I,ev_six,ev_six1,ev_six2,ev_addE0,ev_addE1,ev_rvi2,ev_revR1,ev_rvr1,ev_revL,ev_revT,ev_ixO,ev_ixo0,ev_ixo0d,ev_ixoS,Tw.shp_0,Tw.shp_1,Tw.shp_2,Tw.shp_3,Tw.shp_4,Tw.shp_5,Tw.shp_6,Tw.shp_7,Tw.shp_8,ev_mul,rb2,Tr.of_some,Tr.bind_assoc,Tr.draw_bind,List.cons_append,List.nil_append,List.replicate_succ,List.replicate_zero,List.length_cons,List.length_nil,Re.val_d,Re.val_own,blk,blS,List.map_cons,List.map_nil,List.getElem?_cons_zero,List.getElem?_cons_succ,Option.getD_some,Nat.reduceAdd,Nat.reduceLeDiff,List.isEmpty_cons,e1,Bool.not_true,e_ends h,ef,len_fD,r1]
      simp only [leE] at k
      simp -implicitDefEqProofs only [k,ev_var0,ev_varS,ev_C,ev_bin,ev_bin1,ev_add,ev_addT,ev_addL,ev_sub,ev_cmp,ev_eqI,ev_neI,ev_eqB,ev_eqS,ev_neS,ev_isB,ev_isN,ev_ixL,ev_ixT,at_0,at_1,at_2,at_3,at_4,at_5,at_6,at_7,at_8,ev_neg,ev_neg1,ev_test,ev_tst1,ev_tru,ev_truB,ev_truI,ev_truL,ev_truT,ev_truN,ev_or,ev_not,ev_or1t,ev_or1f,ev_not1,ev_andV,ev_notV,ev_andV1t,ev_andV1f,ev_notV1,ev_if,ev_if1t,ev_if1f,ev_chain,ev_ch1,ev_ch2,ev_ch3,ev_ch4t,ev_ch4f,ev_nil,ev_cons,ev_cons1,ev_cons2,ev_tup,ev_tup1,ev_lst,ev_lst1,ev_lo,ev_lo1,small_le,ev_cb,ev_cbo,ev_lenL,ev_lenT,ev_abs,ev_max2,ev_intI,ev_intB,ev_tupL,ev_tupT,ev_lstL,ev_lstT,ev_sumL,ev_sumT,ev_allL,ev_isi,ev_isi1,ev_sl,ev_sl1,ev_sl2,ev_sl3L,ev_sl3T,ev_p0,ev_p1,ev_pa1,ev_tupR,ev_tupR1,ev_lstR,ev_lstR1,ev_aaNil,ev_aaCons,ev_aa1,ev_aa2,ev_pen0,ev_penS,ev_aaPen,ev_aap,ev_call,ev_re,ev_re1,ev_def,ev_finN,ev_finR,ev_seq,ev_seqN,ev_seqR,ev_seqB,ev_seqC,ev_skip,ev_ifs,ev_ifst,ev_ifsf,ev_ret,ev_ret1,ev_retO,ev_retO1,ev_retR,ev_retR1,ev_retVd,ev_retVo,ev_retVs,ev_set,ev_set1,ev_setO,ev_setO1,ls_0,ls_S,ev_aug,ev_aug1,ev_aug2,ev_iadd,ev_own0,ev_ownS,ev_app,ev_app1,ev_app2,ev_fz,fz_o,fz_d,fz_p,fz_u,fz_S,ev_asg,ev_asg1,ev_nx1,g_set,g_tup,g_nil,g_cons,g_some,ev_par,ev_par1,ev_it,ev_it1L,ev_it1T,ev_rng1,ev_rng2,ev_zip,ev_zip0,ev_zip1,ev_zip2,ev_zip3,ev_enum,ev_enu1,ev_enu2,ev_for,ev_for1,for_nil,ev_lc,ev_lc1,ev_lc2,mt_nil,mt_cons,mt_1,mt_2,ev_len0o,ev_len0d,ev_lenS,ev_lend,ev_cbF,ev_cbf1,ev_fl1I,ev_six,ev_six1,ev_six2,ev_addE0,ev_addE1,ev_rvi2,ev_revR1,ev_rvr1,ev_revL,ev_revT,ev_ixO,ev_ixo0,ev_ixo0d,ev_ixoS,Tw.shp_0,Tw.shp_1,Tw.shp_2,Tw.shp_3,Tw.shp_4,Tw.shp_5,Tw.shp_6,Tw.shp_7,Tw.shp_8,ev_mul,rb2,Tr.of_some,Tr.bind_assoc,Tr.draw_bind,List.cons_append,List.nil_append,List.replicate_succ,List.replicate_zero,List.length_cons,List.length_nil,Re.val_d,Re.val_own,blk,blS,List.map_cons,List.map_nil,List.getElem?_cons_zero,List.getElem?_cons_succ,Option.getD_some,Nat.reduceAdd,Nat.reduceLeDiff,List.isEmpty_cons]
    · refine .inl ⟨⟨hok,fun j hj=>?_⟩,?_⟩
      · have hlen:fs.length - 1 - j < (rngL 0 (fs.length:Int)).reverse.length:=by rw [List.length_reverse,rngL_len]; omega
        have hsp:(rngL 0 (fs.length:Int)).reverse=(rngL 0 (fs.length:Int)).reverse.take (fs.length - 1 - j)++(rngL 0 (fs.length:Int)).reverse[fs.length - 1 - j]::(rngL 0 (fs.length:Int)).reverse.drop (fs.length - 1 - j+1):=by
          rw [← List.drop_eq_getElem_cons hlen,List.take_append_drop]
        have:=hno _ _ _ hsp
        rw [List.length_take,Nat.min_eq_left (by omega)] at this
        have e:fs.length - 1 - (fs.length - 1 - j)=j:=by omega
        rw [e] at this
        by_cases q:DyP s (fs.drop j) (es.drop j)
        · exact q
        · exact absurd q this
      · simp -implicitDefEqProofs only [m_lets,ev_var0,ev_varS,ev_C,ev_bin,ev_bin1,ev_add,ev_addT,ev_addL,ev_sub,ev_cmp,ev_eqI,ev_neI,ev_eqB,ev_eqS,ev_neS,ev_isB,ev_isN,ev_ixL,ev_ixT,at_0,at_1,at_2,at_3,at_4,at_5,at_6,at_7,at_8,ev_neg,ev_neg1,ev_test,ev_tst1,ev_tru,ev_truB,ev_truI,ev_truL,ev_truT,ev_truN,ev_or,ev_not,ev_or1t,ev_or1f,ev_not1,ev_andV,ev_notV,ev_andV1t,ev_andV1f,ev_notV1,ev_if,ev_if1t,ev_if1f,ev_chain,ev_ch1,ev_ch2,ev_ch3,ev_ch4t,ev_ch4f,ev_nil,ev_cons,ev_cons1,ev_cons2,ev_tup,ev_tup1,ev_lst,ev_lst1,ev_lo,ev_lo1,small_le,ev_cb,ev_cbo,ev_lenL,ev_lenT,ev_abs,ev_max2,ev_intI,ev_intB,ev_tupL,ev_tupT,ev_lstL,ev_lstT,ev_sumL,ev_sumT,ev_allL,ev_isi,ev_isi1,ev_sl,ev_sl1,ev_sl2,ev_sl3L,ev_sl3T,ev_p0,ev_p1,ev_pa1,ev_tupR,ev_tupR1,ev_lstR,ev_lstR1,ev_aaNil,ev_aaCons,ev_aa1,ev_aa2,ev_pen0,ev_penS,ev_aaPen,ev_aap,ev_call,ev_re,ev_re1,ev_def,ev_finN,ev_finR,ev_seq,ev_seqN,ev_seqR,ev_seqB,ev_seqC,ev_skip,ev_ifs,ev_ifst,ev_ifsf,ev_ret,ev_ret1,ev_retO,ev_retO1,ev_retR,ev_retR1,ev_retVd,ev_retVo,ev_retVs,ev_set,ev_set1,ev_setO,ev_setO1,ls_0,ls_S,ev_aug,ev_aug1,ev_aug2,ev_iadd,ev_own0,ev_ownS,ev_app,ev_app1,ev_app2,ev_fz,fz_o,fz_d,fz_p,fz_u,fz_S,ev_asg,ev_asg1,ev_nx1,g_set,g_tup,g_nil,g_cons,g_some,ev_par,ev_par1,ev_it,ev_it1L,ev_it1T,ev_rng1,ev_rng2,ev_zip,ev_zip0,ev_zip1,ev_zip2,ev_zip3,ev_enum,ev_enu1,ev_enu2,ev_for,ev_for1,for_nil,ev_lc,ev_lc1,ev_lc2,mt_nil,mt_cons,mt_1,mt_2,ev_len0o,ev_len0d,ev_lenS,ev_lend,ev_cbF,ev_cbf1,ev_fl1I,ev_six,ev_six1,ev_six2,ev_addE0,ev_addE1,ev_rvi2,ev_revR1,ev_rvr1,ev_revL,ev_revT,ev_ixO,ev_ixo0,ev_ixo0d,ev_ixoS,Tw.shp_0,Tw.shp_1,Tw.shp_2,Tw.shp_3,Tw.shp_4,Tw.shp_5,Tw.shp_6,Tw.shp_7,Tw.shp_8,ev_mul,rb2,Tr.of_some,Tr.bind_assoc,Tr.draw_bind,List.cons_append,List.nil_append,List.replicate_succ,List.replicate_zero,List.length_cons,List.length_nil,Re.val_d,Re.val_own,blk,blS,List.map_cons,List.map_nil,List.getElem?_cons_zero,List.getElem?_cons_succ,Option.getD_some,Nat.reduceAdd,Nat.reduceLeDiff,List.isEmpty_cons,e1,Bool.not_true,e_ends h,ef,len_fD,r1]
        simp only [leE] at k
        simp -implicitDefEqProofs only [k,ev_var0,ev_varS,ev_C,ev_bin,ev_bin1,ev_add,ev_addT,ev_addL,ev_sub,ev_cmp,ev_eqI,ev_neI,ev_eqB,ev_eqS,ev_neS,ev_isB,ev_isN,ev_ixL,ev_ixT,at_0,at_1,at_2,at_3,at_4,at_5,at_6,at_7,at_8,ev_neg,ev_neg1,ev_test,ev_tst1,ev_tru,ev_truB,ev_truI,ev_truL,ev_truT,ev_truN,ev_or,ev_not,ev_or1t,ev_or1f,ev_not1,ev_andV,ev_notV,ev_andV1t,ev_andV1f,ev_notV1,ev_if,ev_if1t,ev_if1f,ev_chain,ev_ch1,ev_ch2,ev_ch3,ev_ch4t,ev_ch4f,ev_nil,ev_cons,ev_cons1,ev_cons2,ev_tup,ev_tup1,ev_lst,ev_lst1,ev_lo,ev_lo1,small_le,ev_cb,ev_cbo,ev_lenL,ev_lenT,ev_abs,ev_max2,ev_intI,ev_intB,ev_tupL,ev_tupT,ev_lstL,ev_lstT,ev_sumL,ev_sumT,ev_allL,ev_isi,ev_isi1,ev_sl,ev_sl1,ev_sl2,ev_sl3L,ev_sl3T,ev_p0,ev_p1,ev_pa1,ev_tupR,ev_tupR1,ev_lstR,ev_lstR1,ev_aaNil,ev_aaCons,ev_aa1,ev_aa2,ev_pen0,ev_penS,ev_aaPen,ev_aap,ev_call,ev_re,ev_re1,ev_def,ev_finN,ev_finR,ev_seq,ev_seqN,ev_seqR,ev_seqB,ev_seqC,ev_skip,ev_ifs,ev_ifst,ev_ifsf,ev_ret,ev_ret1,ev_retO,ev_retO1,ev_retR,ev_retR1,ev_retVd,ev_retVo,ev_retVs,ev_set,ev_set1,ev_setO,ev_setO1,ls_0,ls_S,ev_aug,ev_aug1,ev_aug2,ev_iadd,ev_own0,ev_ownS,ev_app,ev_app1,ev_app2,ev_fz,fz_o,fz_d,fz_p,fz_u,fz_S,ev_asg,ev_asg1,ev_nx1,g_set,g_tup,g_nil,g_cons,g_some,ev_par,ev_par1,ev_it,ev_it1L,ev_it1T,ev_rng1,ev_rng2,ev_zip,ev_zip0,ev_zip1,ev_zip2,ev_zip3,ev_enum,ev_enu1,ev_enu2,ev_for,ev_for1,for_nil,ev_lc,ev_lc1,ev_lc2,mt_nil,mt_cons,mt_1,mt_2,ev_len0o,ev_len0d,ev_lenS,ev_lend,ev_cbF,ev_cbf1,ev_fl1I,ev_six,ev_six1,ev_six2,ev_addE0,ev_addE1,ev_rvi2,ev_revR1,ev_rvr1,ev_revL,ev_revT,ev_ixO,ev_ixo0,ev_ixo0d,ev_ixoS,Tw.shp_0,Tw.shp_1,Tw.shp_2,Tw.shp_3,Tw.shp_4,Tw.shp_5,Tw.shp_6,Tw.shp_7,Tw.shp_8,ev_mul,rb2,Tr.of_some,Tr.bind_assoc,Tr.draw_bind,List.cons_append,List.nil_append,List.replicate_succ,List.replicate_zero,List.length_cons,List.length_nil,Re.val_d,Re.val_own,blk,blS,List.map_cons,List.map_nil,List.getElem?_cons_zero,List.getElem?_cons_succ,Option.getD_some,Nat.reduceAdd,Nat.reduceLeDiff,List.isEmpty_cons]
  · have hb':es.all (lvB s)=false:=by simpa using hb
    rw [hb'] at e1
    refine .inr ⟨fun z=>hb (List.all_eq_true.mpr fun e he=>lvB_iff.mpr (z.1 e he)),?_⟩
    simp -implicitDefEqProofs only [m_lets,ev_var0,ev_varS,ev_C,ev_bin,ev_bin1,ev_add,ev_addT,ev_addL,ev_sub,ev_cmp,ev_eqI,ev_neI,ev_eqB,ev_eqS,ev_neS,ev_isB,ev_isN,ev_ixL,ev_ixT,at_0,at_1,at_2,at_3,at_4,at_5,at_6,at_7,at_8,ev_neg,ev_neg1,ev_test,ev_tst1,ev_tru,ev_truB,ev_truI,ev_truL,ev_truT,ev_truN,ev_or,ev_not,ev_or1t,ev_or1f,ev_not1,ev_andV,ev_notV,ev_andV1t,ev_andV1f,ev_notV1,ev_if,ev_if1t,ev_if1f,ev_chain,ev_ch1,ev_ch2,ev_ch3,ev_ch4t,ev_ch4f,ev_nil,ev_cons,ev_cons1,ev_cons2,ev_tup,ev_tup1,ev_lst,ev_lst1,ev_lo,ev_lo1,small_le,ev_cb,ev_cbo,ev_lenL,ev_lenT,ev_abs,ev_max2,ev_intI,ev_intB,ev_tupL,ev_tupT,ev_lstL,ev_lstT,ev_sumL,ev_sumT,ev_allL,ev_isi,ev_isi1,ev_sl,ev_sl1,ev_sl2,ev_sl3L,ev_sl3T,ev_p0,ev_p1,ev_pa1,ev_tupR,ev_tupR1,ev_lstR,ev_lstR1,ev_aaNil,ev_aaCons,ev_aa1,ev_aa2,ev_pen0,ev_penS,ev_aaPen,ev_aap,ev_call,ev_re,ev_re1,ev_def,ev_finN,ev_finR,ev_seq,ev_seqN,ev_seqR,ev_seqB,ev_seqC,ev_skip,ev_ifs,ev_ifst,ev_ifsf,ev_ret,ev_ret1,ev_retO,ev_retO1,ev_retR,ev_retR1,ev_retVd,ev_retVo,ev_retVs,ev_set,ev_set1,ev_setO,ev_setO1,ls_0,ls_S,ev_aug,ev_aug1,ev_aug2,ev_iadd,ev_own0,ev_ownS,ev_app,ev_app1,ev_app2,ev_fz,fz_o,fz_d,fz_p,fz_u,fz_S,ev_asg,ev_asg1,ev_nx1,g_set,g_tup,g_nil,g_cons,g_some,ev_par,ev_par1,ev_it,ev_it1L,ev_it1T,ev_rng1,ev_rng2,ev_zip,ev_zip0,ev_zip1,ev_zip2,ev_zip3,ev_enum,ev_enu1,ev_enu2,ev_for,ev_for1,for_nil,ev_lc,ev_lc1,ev_lc2,mt_nil,mt_cons,mt_1,mt_2,ev_len0o,ev_len0d,ev_lenS,ev_lend,ev_cbF,ev_cbf1,ev_fl1I,ev_six,ev_six1,ev_six2,ev_addE0,ev_addE1,ev_rvi2,ev_revR1,ev_rvr1,ev_revL,ev_revT,ev_ixO,ev_ixo0,ev_ixo0d,ev_ixoS,Tw.shp_0,Tw.shp_1,Tw.shp_2,Tw.shp_3,Tw.shp_4,Tw.shp_5,Tw.shp_6,Tw.shp_7,Tw.shp_8,ev_mul,rb2,Tr.of_some,Tr.bind_assoc,Tr.draw_bind,List.cons_append,List.nil_append,List.replicate_succ,List.replicate_zero,List.length_cons,List.length_nil,Re.val_d,Re.val_own,blk,blS,List.map_cons,List.map_nil,List.getElem?_cons_zero,List.getElem?_cons_succ,Option.getD_some,Nat.reduceAdd,Nat.reduceLeDiff,List.isEmpty_cons,e1,Bool.not_false]
end My
set_option Elab.async false
set_option linter.all false
set_option maxRecDepth 100000
set_option exponentiation.threshold 9000
namespace My
open PySem PySem.Spec PyProof.Rows L2 Tw
theorem low_sh {c B:Int} (hB:0 < B) (nB:nb 7000 B) (l:Int):Ent.Sh ⟨Gc.lowT c B,Gc.lowB c B,l⟩:=by
  obtain ⟨p1,p2,p3,p4⟩:=Gc.low_spec (t:=c) (b:=B) (by omega)
  refine ⟨by show 1≤Gc.lowB c B; omega,p4,?_⟩
  show nb 7000 (Gc.lowB c B)
  have:nb 7000 (Gc.lowB c B):=by
    unfold nb at nB ⊢
    have hd:=Gc.den_ne (t:=c) (b:=B) (by omega)
    have e:=congrArg Int.natAbs p2
    rw [Int.natAbs_mul] at e
    have h1:1≤(Gc.den c B).natAbs:=by omega
    have h2:=Nat.mul_le_mul_right (Gc.lowB c B).natAbs h1
    omega
  exact this
end My
set_option Elab.async false
set_option linter.all false
set_option maxRecDepth 100000
set_option exponentiation.threshold 9000
namespace My
open PySem PySem.Spec PyProof.Rows L2 Tw
theorem maxI_nb {z:Int} {k:Nat} (h:nb k z):nb k (maxI z 0):=by
  unfold maxI
  exact nb_ite (show (0:Int).natAbs < 2 ^ k from Nat.pos_of_ne_zero (by simp)) h
theorem day_law (s:Shp) (y f:Int):s.keep * maxI (s.nx y f) 0+s.lack * maxI (0 - s.nx y f) 0+s.lost * (s.nx y f - y+f)=s.day y f:=by
  unfold Shp.day
  have e:s.nx y f - y+f=s.nx y f - (y - f):=by omega
  rw [e]
  generalize s.nx y f=z
  unfold maxI
  by_cases hz:z > 0
  · rw [if_neg (by omega),if_pos (by omega),if_pos hz,Int.mul_zero,Int.add_zero]
  · rw [if_neg hz]
    by_cases h0:z=0
    · subst h0; simp
    · rw [if_pos (by omega),if_neg (by omega),Int.mul_zero,Int.zero_add]
      have e2:0 - z=-z:=by omega
      rw [e2]
theorem fin_law (s:Shp) (x:Int):s.late * maxI (0 - x) 0 - s.back * maxI x 0=s.fin x:=by
  unfold Shp.fin maxI
  by_cases hx:x > 0
  · rw [if_pos (by omega),if_neg (by omega),if_pos hx,Int.mul_zero,Int.neg_mul]
    omega
  · rw [if_neg hx]
    by_cases h0:x=0
    · subst h0; simp
    · rw [if_neg (by omega),if_pos (by omega),Int.mul_zero,Int.sub_zero]
      have e2:0 - x=-x:=by omega
      rw [e2]
theorem nx_law (s:Shp) (y f:Int):maxI (y - f) (0 - s.depth)=s.nx y f:=by
  unfold Shp.nx
  have e:0 - s.depth=-s.depth:=by omega
  rw [e]
theorem e_rest {s:Shp} (h:s.Ok) {y f:Int} (y1:-s.depth≤y) (y2:y≤s.top) (f0:0≤f) (f1:f≤16):m_law_rest [.d s.d,.d (.int y),.d (.int f)]=.ret (.d (.tuple [.int (s.day y f),.int (s.nx y f)])):=by
  have:=h.t0
  have:=h.d0
  have:=h.td
  have n1:=nx_ge s y f
  have n2:=nx_le h y2 f0
  have hn:nb 20 (s.nx y f):=nb_of (by show -1048576 < _; omega) (by show _ < 1048576; omega)
  have hn2:nb 20 (0 - s.nx y f):=nb_of (by show -1048576 < _; omega) (by show _ < 1048576; omega)
  have hn3:nb 20 (s.nx y f - y+f):=nb_of (by show -1048576 < _; omega) (by show _ < 1048576; omega)
  have g1:=nb_fit h.keep (by decide)
  have g2:=nb_fit (maxI_nb hn) (by decide)
  have g3:=nb_fit h.lack (by decide)
  have g4:=nb_fit (maxI_nb hn2) (by decide)
  have g5:=nb_fit h.lost (by decide)
  have g6:=nb_fit hn3 (by decide)
  simp_arith [m_law_rest,nx_law,g1,g2,g3,g4,g5,g6,day_law]
theorem e_lorder {s:Shp} (h:s.Ok) {x y:Int} (x1:-s.depth≤x) (xy:x≤y) (y2:y≤s.top):m_law_order [.d s.d,.d (.int x),.d (.int y)]=.ret (.d (.int (s.ord x y))):=by
  have:=h.t0
  have:=h.d0
  have:=h.td
  have g1:=nb_fit h.start (by decide)
  have g2:=nb_fit (show nb 20 (1:Int) from nb_of (by decide) (by decide)) (by decide)
  have g3:=nb_fit (show nb 20 (0:Int) from nb_of (by decide) (by decide)) (by decide)
  have g4:=nb_fit h.piece (by decide)
  have g5:=nb_fit (show nb 20 (y - x) from nb_of (by show -1048576 < _; omega) (by show _ < 1048576; omega)) (by decide)
  unfold Shp.ord
  by_cases hp:y > x
  · rw [if_neg (by omega)]
    simp_arith [m_law_order,decide_eq_true hp,if_true,g1,g2,g4,g5,Int.mul_one]
  · rw [if_pos (by omega)]
    have e:y - x=0:=by omega
    simp_arith [m_law_order,decide_eq_false hp,g1,g3,g4,e,Int.mul_zero,Bool.false_eq_true,if_false,Int.add_zero]
theorem e_lend {s:Shp} (h:s.Ok) {x:Int} (x1:-s.depth≤x) (x2:x≤s.top):m_law_end [.d s.d,.d (.int x)]=.ret (.d (.int (s.fin x))):=by
  have:=h.t0
  have:=h.d0
  have:=h.td
  have n1:nb 20 (0 - x):=nb_of (by show -1048576 < _; omega) (by show _ < 1048576; omega)
  have n2:nb 20 x:=nb_of (by show -1048576 < _; omega) (by show _ < 1048576; omega)
  have g1:=nb_fit h.late (by decide)
  have g2:=nb_fit (maxI_nb n1) (by decide)
  have g3:=nb_fit h.back (by decide)
  have g4:=nb_fit (maxI_nb n2) (by decide)
  simp_arith [m_law_end,g1,g2,g3,g4,fin_law]
theorem e_lstocks {s:Shp} (h:s.Ok):m_law_stocks [.d s.d]=.ret (.own (rngL (-s.depth) (s.top+1))):=by
  have:=h.t0
  have:=h.d0
  have:=h.td
  have e:0 - s.depth=-s.depth:=by omega
  have hr:rngOk (-s.depth) (s.top+1)=true:=by
    unfold rngOk
    rw [inR_of (by omega) (by omega),inR_of (by omega) (by omega)]
    simp
    omega
  simp_arith [m_law_stocks,e,ev_lstR1 hr]
theorem e_lshare {t b:Int} (hb:0 < b) (nB:nb 7000 b):m_law_share [.d (.int t),.d (.int b)]=.ret (.d (shD t b)):=by
  obtain ⟨z,rfl⟩:∃ z:Nat,b=(z:Int):=⟨b.toNat,by omega⟩
  have key:=euclid (p:=w_law_share_1) (s:=l_law_share_1) (E:=fun a b'=>[.d (.int t),.d (.int z),.d (.int a),.d (.int b')]) (fun a b=>by
    simp_arith [w_law_share_1]
    by_cases h:b=0
    · subst h; rfl
    · rw [decide_eq_true h]
      congr 1
      simp
      omega) (fun a b h=>by
    have h':(b:Int)≠0:=by omega
    simp_arith [l_law_share_1,ev_mod h',fmod_nat]) 8000 83999 t.natAbs z (Nat.lt_of_lt_of_le (show z < 2 ^ 7000 from by unfold nb at nB; rwa [Int.natAbs_natCast] at nB) (Nat.pow_le_pow_right (by decide) (by decide)))
  have e:2 * 8000+1+83999=100000:=rfl
  rw [e] at key
  have hd:=Gc.den_ne (t:=t) (b:=(z:Int)) (by omega)
  have hf:=nb_fit (den_nb (t:=t) nB (by omega)) (by decide)
  have ed:Gc.den t (z:Int)=((Nat.gcd t.natAbs z:Nat):Int):=by unfold Gc.den Gc.gcdI; rw [if_neg (by omega),Int.natAbs_natCast]
  unfold shD Gc.lowT Gc.lowB
  rw [ed] at hd hf ⊢
  simp_arith [m_law_share,absI_eq,key,ev_fdiv hd hf]
end My
set_option Elab.async false
set_option linter.all false
set_option maxRecDepth 100000
set_option exponentiation.threshold 9000
namespace My
open PySem PySem.Spec PyProof.Rows L2 Tw
noncomputable def ltD (s:Shp) (N U:Int→Int):PyData:=.list ((rangeI (-s.depth) s.n).map fun z=>.tuple [.int (N z),.int (U z)])
theorem lt_at {s:Shp} {N U:Int→Int} {z:Int} (z1:-s.depth≤z) (z2:z≤s.top):bin2 ixD (ltD s N U) (.int (z+s.depth))=.ret (.tuple [.int (N z),.int (U z)]):=by
  have hn:s.n=(s.top+1 - -s.depth).toNat:=rfl
  unfold ltD
  rw [ev_ixL,atI_ge (v:=.tuple [.int (N z),.int (U z)]) (by omega) (by
    unfold rangeI
    rw [List.map_map,List.getElem?_map,List.getElem?_range (by omega)]
    have e:-s.depth+((z+s.depth).toNat:Int)=z:=by omega
    show some (PyData.tuple [.int (N (-s.depth+((z+s.depth).toNat:Int))),.int (U (-s.depth+((z+s.depth).toNat:Int)))])=_
    rw [e])]
  rfl
noncomputable abbrev lcE (s:Shp) (day:List Int) (x y:Int) (L:PyData) (J5 J6 J7 J8 J9 J10 J11 J12:Sl):List Sl:=[.d s.d,.d (tI day),.d (.int x),.d (.int y),.d L,J5,J6,J7,J8,J9,J10,J11,J12]
theorem lc1' {s:Shp} (h:s.Ok) {day:List Int} {x y:Int} (y1:-s.depth≤y) (y2:y≤s.top) {N U:Int→Int} {k:Nat} (hk:k≤15) {w top bot:Int} (hw:nb 30 w) (ht:nb (2000+141 * k) top) (hb:nb (140 * k+1) bot) (hU:nb 140 (U (s.nx y k))) (hN:nb 1900 (N (s.nx y k))) (J9 J10 J11 J12:Sl) :
    ∃ K9 K10 K11 K12:Sl,l_law_level_cost_1 (lcE s day x y (ltD s N U) (.d (.int top)) (.d (.int bot)) (.d (.int k)) (.d (.int w)) J9 J10 J11 J12)=.ret (.next (lcE s day x y (ltD s N U) (.d (.int (top * U (s.nx y k)+w * (s.day y k * U (s.nx y k)+N (s.nx y k)) * bot))) (.d (.int (bot * U (s.nx y k)))) (.d (.int k)) (.d (.int w)) K9 K10 K11 K12)):=by
  have n1:=nx_ge s y k
  have n2:=nx_le h y2 (show (0:Int)≤k by omega)
  have e1:=e_rest h y1 y2 (show (0:Int)≤k by omega) (by omega)
  have e2:=lt_at (N:=N) (U:=U) n1 n2
  have dn:=day_nb h (st_nb h y1 y2) (show nb 40 (k:Int) from nb_of (by show -1099511627776 < _; omega) (by show _ < 1099511627776; omega))
  have g1:=nb_fit ht (by omega)
  have g2:=nb_fit hU (by decide)
  have g3:=nb_fit hw (by decide)
  have g4:=nb_fit dn (by decide)
  have g5:=nb_fit (nb_add (nb_mul dn hU) hN) (by decide)
  have g6:=nb_fit (nb_mul hw (nb_add (nb_mul dn hU) hN)) (by decide)
  have g7:=nb_fit hb (by omega)
  refine ⟨.d (.int (s.day y k)),.d (.int (s.nx y k)),.d (.int (N (s.nx y k))),.d (.int (U (s.nx y k))),?_⟩
  simp_arith [l_law_level_cost_1,lcE,e1,e2,g1,g2,g3,g4,g5,g6,g7]
theorem e_level_o {s:Shp} (h:s.Ok) {day:List Int} (hd:DayB day) {x y o:Int} (y1:-s.depth≤y) (y2:y≤s.top) (e1:m_law_order [.d s.d,.d (.int x),.d (.int y)]=.ret (.d (.int o))) (on:nb 200 o) {N U V:Int→Int} {B:Int} (hB:0 < B) (hU:∀ z,-s.depth≤z→z≤s.top→0 < U z∧nb 140 (U z)∧nb 1900 (N z)∧N z * B=V z * U z) :
    ∃ P Q:Int,m_law_level_cost [.d s.d,.d (tI day),.d (.int x),.d (.int y),.d (ltD s N U)]=.ret (.d (.tuple [.int P,.int Q]))∧0 < Q∧P * (B * day.sum)=Q * (o * (B * day.sum)+s.wg day y V B)∧nb 5000 P∧nb 2400 Q:=by
  have hlen:=hd.len
  have key:Al (m_law_level_cost [.d s.d,.d (tI day),.d (.int x),.d (.int y),.d (ltD s N U)]) 0 fun r=>∃ P Q:Int,r=.d (.tuple [.int P,.int Q])∧0 < Q∧P * (B * day.sum)=Q * (o * (B * day.sum)+s.wg day y V B)∧nb 5000 P∧nb 2400 Q:=by
    simp_arith [m_law_level_cost,it_tI]
    refine al_bind (n:=0) (n':=0) (P:=fun o=>∃ (top bot:Int) (J7 J8 J9 J10 J11 J12:Sl),o=.next (lcE s day x y (ltD s N U) (.d (.int top)) (.d (.int bot)) J7 J8 J9 J10 J11 J12)∧0 < bot∧top * B=bot * s.wg day y V B∧nb 4256 top∧nb 2241 bot) ?_ (by decide) ?_
    · refine al_forQ (n:=0) (fun pre ρ=>∃ (top bot:Int) (J7 J8 J9 J10 J11 J12:Sl),ρ=lcE s day x y (ltD s N U) (.d (.int top)) (.d (.int bot)) J7 J8 J9 J10 J11 J12∧0 < bot∧top * B=bot * (s.wg day y V B - ws (fun f=>B * s.day y f+V (s.nx y f)) pre.length (day.drop pre.length))∧nb (2000+141 * pre.length) top∧nb (140 * pre.length+1) bot) ⟨0,1,_,_,_,_,_,_,rfl,by decide,?_,show (0:Int).natAbs < 2 ^ 2000 from Nat.pos_of_ne_zero (by simp),(show (1:Int).natAbs < 2 ^ (140 * 0+1) by decide)⟩ (by simp) ?_ ?_
      · show 0 * B=1 * (s.wg day y V B - ws (fun f=>B * s.day y f+V (s.nx y f)) 0 day)
        unfold Shp.wg
        omega
      · rintro pre z post ρ e ⟨top,bot,J7,J8,J9,J10,J11,J12,rfl,b0,eq,nt,nbt⟩
        obtain ⟨w,hw,rfl⟩:=enum_mid e
        rw [List.getElem?_map] at hw
        obtain ⟨v,hv,rfl⟩:=Option.map_eq_some_iff.mp hw
        have hl:pre.length < day.length:=(List.getElem?_eq_some_iff.mp hv).1
        obtain ⟨u1,u2,u3,u4⟩:=hU _ (nx_ge s y pre.length) (nx_le h y2 (show (0:Int)≤pre.length by omega))
        have hvn:=hd.nb v (List.mem_of_getElem? hv)
        obtain ⟨K9,K10,K11,K12,st⟩:=lc1' h (day:=day) (x:=x) (y:=y) (N:=N) (U:=U) (k:=pre.length) (w:=v) (top:=top) (bot:=bot) y1 y2 (by omega) hvn nt nbt u2 u3 J9 J10 J11 J12
        have ed:day.drop pre.length=v::day.drop (pre.length+1):=by
          rw [List.drop_eq_getElem_cons hl]
          congr 1
          exact (List.getElem?_eq_some_iff.mp hv).2
        have el:∀ z:PyData,(pre++[z]).length=pre.length+1:=fun z=>by simp
        have dn:=day_nb h (st_nb h y1 y2) (show nb 40 (pre.length:Int) from nb_of (by show -1099511627776 < _; omega) (by show _ < 1099511627776; omega))
        rw [el]
        rw [ed,ws] at eq
        refine ⟨_,rfl,al_of st ⟨_,rfl,_,_,_,_,_,_,_,_,rfl,Int.mul_pos b0 u1,?_,?_,nb_mono (nb_mul nbt u2) (by omega)⟩⟩
        · generalize s.nx y pre.length=q at *
          generalize s.day y pre.length=c at *
          generalize ws (fun f=>B * s.day y f+V (s.nx y f)) (pre.length+1) (day.drop (pre.length+1))=R at *
          generalize s.wg day y V B=S at *
          generalize U q=u at *
          generalize N q=n at *
          generalize V q=v' at *
          have e1:(top * u+v * (c * u+n) * bot) * B=(top * B) * u+v * (c * u * B+n * B) * bot:=by grind
          rw [e1,eq,u4]
          grind
        · exact nb_mono (nb_add (nb_mul nt u2) (nb_mul (nb_mul hvn (nb_add (nb_mul dn u2) u3)) nbt)) (by omega)
      · rintro ρ ⟨top,bot,J7,J8,J9,J10,J11,J12,rfl,b0,eq,nt,nbt⟩
        rw [enumD_len,lenI] at eq nt nbt
        rw [List.drop_length,ws,Int.sub_zero] at eq
        exact ⟨top,bot,_,_,_,_,_,_,rfl,b0,eq,nb_mono nt (by omega),nb_mono nbt (by omega)⟩
    · rintro _ ⟨top,bot,J7,J8,J9,J10,J11,J12,rfl,b0,eq,nt,nbt⟩
      have g1:=nb_fit nbt (by decide)
      have g2:=nb_fit (sum_nbD hd) (by decide)
      have g3:=nb_fit on (by decide)
      have g4:=nb_fit (nb_mul nbt (sum_nbD hd)) (by decide)
      simp_arith [lcE,sum_tI,e1,g1,g2,g3,g4]
      refine al_ret ⟨_,_,rfl,Int.mul_pos b0 hd.pos,?_,nb_mono (nb_add nt (nb_mul on (nb_mul nbt (sum_nbD hd)))) (by decide),nb_mono (nb_mul nbt (sum_nbD hd)) (by decide)⟩
      generalize s.wg day y V B=S at *
      generalize day.sum=D at *
      have e2:(top+o * (bot * D)) * (B * D)=(top * B) * D+o * (bot * D) * (B * D):=by grind
      rw [e2,eq]
      grind
  obtain ⟨r,er,P,Q,rfl,hq⟩:=al_ex key
  exact ⟨P,Q,er,hq⟩
theorem e_level_cost {s:Shp} (h:s.Ok) {day:List Int} (hd:DayB day) {x y:Int} (x1:-s.depth≤x) (xy:x≤y) (y2:y≤s.top) {N U V:Int→Int} {B:Int} (hB:0 < B) (hU:∀ z,-s.depth≤z→z≤s.top→0 < U z∧nb 140 (U z)∧nb 1900 (N z)∧N z * B=V z * U z) :
    ∃ P Q:Int,m_law_level_cost [.d s.d,.d (tI day),.d (.int x),.d (.int y),.d (ltD s N U)]=.ret (.d (.tuple [.int P,.int Q]))∧0 < Q∧P * (B * day.sum)=Q * (s.ord x y * (B * day.sum)+s.wg day y V B)∧nb 5000 P∧nb 2400 Q :=
  e_level_o h hd (Int.le_trans x1 xy) y2 (e_lorder h x1 xy y2) (nb_mono (ord_nb h (st_nb h x1 (Int.le_trans xy y2)) (st_nb h (Int.le_trans x1 xy) y2)) (by decide)) hB hU
theorem e_lorder_any {s:Shp} (h:s.Ok) {x y:Int} (x1:-s.depth≤x) (x2:x≤s.top) (y1:-s.depth≤y) (y2:y≤s.top):∃ o,m_law_order [.d s.d,.d (.int x),.d (.int y)]=.ret (.d (.int o))∧nb 200 o:=by
  have:=h.t0
  have:=h.d0
  have:=h.td
  have n1:nb 20 (y - x):=nb_of (by show -1048576 < _; omega) (by show _ < 1048576; omega)
  have g1:=nb_fit h.start (by decide)
  have g2:=nb_fit (show nb 20 (1:Int) from nb_of (by decide) (by decide)) (by decide)
  have g3:=nb_fit (show nb 20 (0:Int) from nb_of (by decide) (by decide)) (by decide)
  have g4:=nb_fit h.piece (by decide)
  have g5:=nb_fit n1 (by decide)
  by_cases hp:y > x
  · refine ⟨s.start+s.piece * (y - x),?_,nb_mono (nb_add h.start (nb_mul h.piece n1)) (by decide)⟩
    simp_arith [m_law_order,decide_eq_true hp,if_true,g1,g2,g4,g5,Int.mul_one]
  · refine ⟨0+s.piece * (y - x),?_,nb_mono (nb_add (show nb 1 (0:Int) from nb_of (by decide) (by decide)) (nb_mul h.piece n1)) (by decide)⟩
    simp_arith [m_law_order,decide_eq_false hp,g1,g3,g4,g5,Int.mul_zero,Bool.false_eq_true,if_false]
end My
set_option Elab.async false
set_option linter.all false
set_option maxRecDepth 100000
set_option exponentiation.threshold 9000
namespace My
open PySem PySem.Spec PyProof.Rows L2 Tw
noncomputable def vl (s:Shp) (d:List Int) (fs:List (List Int)) (x y:Int):Int:=s.ord x y * ((s.bk fs).2 * d.sum)+s.wg d y (s.bk fs).1 (s.bk fs).2
end My
set_option Elab.async false
set_option linter.all false
set_option maxRecDepth 100000
namespace My
open PySem PySem.Spec PyProof.Rows L2 Tw
theorem ev_drw (n:Int):m_law_take [.pen,.d (.int n)]=.draw n fun r=>.ret (.d (.int r)):=rfl
theorem s_price:Al (m_law_price [.pen]) 6 fun r=>∃ p:Int,r=.d (.int p)∧0≤p∧p≤1000000:=by
  simp_arith [m_law_price,ev_drw]
  refine al_drw (n:=5) (by decide) (by decide) (by decide) fun w w0 w1=>?_
  try simp_arith [ev_drw]
  refine al_drw (n:=4) (by decide) (by decide) (by decide) fun f f0 f1=>?_
  try simp_arith [ev_drw]
  refine al_drw (n:=3) (by decide) (by decide) (by decide) fun a a0 a1=>?_
  try simp_arith [ev_drw]
  refine al_drw (n:=2) (by decide) (by decide) (by decide) fun b b0 b1=>?_
  try simp_arith [ev_drw]
  refine al_drw (n:=1) (by decide) (by decide) (by decide) fun c c0 c1=>?_
  try simp_arith [ev_drw]
  refine al_drw (n:=0) (by decide) (by decide) (by decide) fun d d0 d1=>?_
  obtain ⟨y,hy,y0,y1⟩:=pickI (xs:=[PyData.int 0,.int (1+a),.int b,.int c,.int d,.int (1000000 - f)]) (lo:=0) (hi:=1000000) (by simp [intIn]; omega) w0 w1
  simp_arith [ev_drw,hy]
  exact al_ret ⟨y,rfl,y0,y1⟩
theorem s_shop {most:Int} (m0:0≤most) (m1:most≤39):Al (m_law_shop [.pen,.d (.int most)]) 50 fun r=>∃ s:Shp,r=.d s.d∧s.Dr∧s.top+s.depth≤most:=by
  have r1:rng1 [.int 7]=.ret (rngL 0 7):=ev_rg1 rfl
  have hs:small (rngL 0 7).length=true:=small_le (by rw [rngL_len]; decide)
  simp_arith [m_law_shop,ev_drw]
  refine al_drw (n:=49) (by omega) (by omega) (by decide) fun t t0 t1=>?_
  try simp_arith [ev_drw]
  refine al_drw (n:=48) (by omega) (by omega) (by decide) fun d d0 d1=>?_
  simp_arith [ev_drw,r1,hs]
  refine al_bind (n:=42) (n':=0) (al_map (n:=6) (P:=intIn 0 1000000) (Q:=fun ys=>∃ ps:List Int,ys=ps.map PyData.int∧ps.length=7∧∀ p∈ps,0≤p∧p≤1000000) (by rw [rngL_len]; decide) (fun x hx=>?_) fun ys hl hys=>?_) (by decide) ?_
  · simp_arith [q_law_shop_1,ev_drw]
    refine al_bind (n:=6) (n':=0) s_price (by decide) ?_
    rintro _ ⟨p,rfl,p0,p1⟩
    simp_arith [ev_drw]
    exact al_ret ⟨p,rfl,p0,p1⟩
  · obtain ⟨ps,rfl,hp⟩:=ints_of_all hys
    rw [List.length_map,rngL_len] at hl
    exact ⟨ps,rfl,hl,hp⟩
  · rintro _ ⟨ps,rfl,hpl,hp⟩
    obtain ⟨a1,a2,a3,a4,a5,a6,a7,rfl⟩:=list7 hpl
    simp_arith [ev_drw]
    exact al_ret ⟨⟨t,d,a1,a2,a3,a4,a5,a6,a7⟩,by rw [← shp_of],⟨t0,d0,by show t+d≤39; omega,hp⟩,by show t+d≤most; omega⟩
theorem da1 {ns:List Int} (hl:ns.length≤100) (A B C D:Sl):Al (l_law_day_1 [.pen,A,.own (ns.map PyData.int),B,C,D]) 3 fun o=>∃ (y:Int) (C':Sl),o=.next [.pen,A,.own ((ns++[y]).map PyData.int),B,C',D]∧0≤y∧y≤1000:=by
  have hs:small ((ns.map PyData.int).length+1)=true:=small_le (by rw [List.length_map]; omega)
  simp_arith [l_law_day_1,ev_drw]
  refine al_drw (n:=2) (by decide) (by decide) (by decide) fun w w0 w1=>?_
  try simp_arith [ev_drw]
  refine al_drw (n:=1) (by decide) (by decide) (by decide) fun a a0 a1=>?_
  try simp_arith [ev_drw]
  refine al_drw (n:=0) (by decide) (by decide) (by decide) fun b b0 b1=>?_
  obtain ⟨y,hy,y0,y1⟩:=pickI (xs:=[PyData.int 0,.int 1,.int (1+a),.int b]) (lo:=0) (hi:=1000) (by simp [intIn]; omega) w0 w1
  simp_arith [ev_drw,hy,hs]
  have em:ns.map PyData.int++[PyData.int y]=(ns++[y]).map PyData.int:=by rw [List.map_append]; rfl
  rw [em]
  exact al_ret ⟨y,_,rfl,y0,y1⟩
theorem s_day {many:Int} (m0:1≤many) (m1:many≤8):Al (m_law_day [.pen,.d (.int many)]) 40 fun r=>∃ ls:List Int,r=.d (tI ls)∧DayOk many.toNat ls∧∀ n∈ls,n≤1000:=by
  simp_arith [m_law_day,ev_drw]
  refine al_drw (n:=39) (by omega) (by omega) (by decide) fun q q0 q1=>?_
  have r1:rng1 [.int (1+q)]=.ret (rngL 0 (1+q)):=ev_rg1 (inR_of (by omega) (by omega))
  simp_arith [ev_drw,r1]
  refine al_bind (n:=24) (n':=1) (P:=fun o=>∃ (ns:List Int) (B C:Sl),o=.next [.pen,.d (.int many),.own (ns.map PyData.int),B,C,.un]∧(ns.length:Int)=1+q∧∀ n∈ns,0≤n∧n≤1000) ?_ (by decide) ?_
  · refine al_forQ (n:=3) (fun pre ρ=>∃ (ns:List Int) (B C:Sl),ρ=[.pen,.d (.int many),.own (ns.map PyData.int),B,C,.un]∧ns.length=pre.length∧∀ n∈ns,0≤n∧n≤1000) ⟨[],_,_,rfl,rfl,fun _ q=>by cases q⟩ (by rw [rngL_len]; omega) ?_ ?_
    · rintro pre x post ρ e ⟨ns,B,C,rfl,hl,hn⟩
      obtain ⟨rfl,hpre⟩:=rngL_mid e
      refine ⟨_,rfl,al_mono (da1 (by omega) _ _ _ _) (Nat.le_refl _) ?_⟩
      rintro _ ⟨y,C',rfl,y0,y1⟩
      refine ⟨_,rfl,ns++[y],_,_,rfl,by simp [hl],fun n hn'=>?_⟩
      rcases List.mem_append.mp hn' with hq | hq
      · exact hn n hq
      · simp at hq
        subst hq
        exact ⟨y0,y1⟩
    · rintro ρ ⟨ns,B,C,rfl,hl,hn⟩
      rw [rngL_len] at hl
      exact ⟨ns,B,C,rfl,by omega,hn⟩
  · rintro _ ⟨ns,B,C,rfl,hl,hn⟩
    simp_arith [ev_drw,List.length_map]
    refine al_drw (n:=0) (by omega) (by omega) (by decide) fun r r0 r1=>?_
    have hi:ixN (ns.map PyData.int).length r=some r.toNat:=by
      rw [List.length_map]
      unfold ixN
      rw [if_pos r0,if_pos r1]
    have hrl:r.toNat < ns.length:=by omega
    have hat:atI (ns.map PyData.int) r=some (.int ns[r.toNat]):=atI_ge r0 (by rw [List.getElem?_map,List.getElem?_eq_getElem hrl]; rfl)
    have hv:=hn ns[r.toNat] (List.getElem_mem hrl)
    have es:(ns.map PyData.int).set r.toNat (.int (maxI 1 ns[r.toNat]))=(ns.set r.toNat (maxI 1 ns[r.toNat])).map PyData.int:=List.map_set.symm
    have hm:1≤maxI 1 ns[r.toNat]∧maxI 1 ns[r.toNat]≤1000:=by unfold maxI; split <;> omega
    simp_arith [ev_drw,hat,ev_six3 hi,es]
    have hall:∀ n∈ns.set r.toNat (maxI 1 ns[r.toNat]),0≤n∧n≤1000:=fun n hn'=>by
      rcases List.mem_or_eq_of_mem_set hn' with q | q
      · exact hn n q
      · subst q; omega
    exact al_ret ⟨ns.set r.toNat (maxI 1 ns[r.toNat]),rfl,⟨by rw [List.length_set]; omega,⟨_,List.mem_set hrl _,by omega⟩,fun n hn'=>by have:=hall n hn'; omega⟩,fun n hn'=>(hall n hn').2⟩
end My
set_option Elab.async false
set_option linter.all false
set_option maxRecDepth 100000
set_option exponentiation.threshold 9000
namespace My
open PySem PySem.Spec PyProof.Rows L2 Tw
theorem rangeI_in {lo z:Int} {n:Nat} (h1:lo≤z) (h2:z < lo+n):z∈rangeI lo n:=by
  unfold rangeI
  exact List.mem_map.mpr ⟨(z - lo).toNat,List.mem_range.mpr (by omega),by omega⟩
theorem low_key {c B:Int} (hB:0 < B):Gc.lowT c B * B=c * Gc.lowB c B∧0 < Gc.lowB c B:=by
  obtain ⟨p1,p2,p3,p4⟩:=Gc.low_spec (t:=c) (b:=B) (by omega)
  refine ⟨?_,p3⟩
  generalize Gc.lowT c B=T at *
  generalize Gc.lowB c B=C at *
  generalize Gc.den c B=d at *
  have e1:T * (d * C)=(d * T) * C:=by grind
  have e2:T * B=T * (d * C):=by rw [← p2]
  rw [e2,e1,← p1]
theorem low_eq {P Q v B:Int} (hQ:0 < Q) (hB:0 < B) (h:P * B=Q * v):Gc.lowT P Q=Gc.lowT v B∧Gc.lowB P Q=Gc.lowB v B:=by
  obtain ⟨a1,a2⟩:=low_key (c:=P) hQ
  obtain ⟨b1,b2⟩:=low_key (c:=v) hB
  obtain ⟨_,_,p3,p4⟩:=Gc.low_spec (t:=P) (b:=Q) (by omega)
  obtain ⟨_,_,q3,q4⟩:=Gc.low_spec (t:=v) (b:=B) (by omega)
  refine Gc.low_same p3 q3 p4 q4 ?_
  generalize Gc.lowT P Q=T at *
  generalize Gc.lowB P Q=C at *
  generalize Gc.lowT v B=T' at *
  generalize Gc.lowB v B=C' at *
  have e:(T * C') * (Q * B)=(T' * C) * (Q * B):=by
    have e1:(T * C') * (Q * B)=(T * Q) * C' * B:=by grind
    have e2:(T' * C) * (Q * B)=(T' * B) * C * Q:=by grind
    rw [e1,e2,a1,b1]
    have e3:P * C * C' * B=(P * B) * (C * C'):=by grind
    rw [e3,h]
    grind
  exact Int.eq_of_mul_eq_mul_right (Int.mul_ne_zero (by omega) (by omega)) e
theorem low_ne {v w B:Int} (hB:0 < B) (h:Gc.lowT v B=Gc.lowT w B∧Gc.lowB v B=Gc.lowB w B):v=w:=by
  obtain ⟨a1,a2⟩:=low_key (c:=v) hB
  obtain ⟨b1,b2⟩:=low_key (c:=w) hB
  rw [h.1,h.2,b1] at a1
  exact (Int.eq_of_mul_eq_mul_right (by omega) a1).symm
noncomputable abbrev Pap:=List ((Int→Int)×(Int→Int))
noncomputable def en (P:Int) (p:(Int→Int)×(Int→Int)) (x:Int):Ent:=⟨Gc.lowT (p.1 x) P,Gc.lowB (p.1 x) P,p.2 x⟩
noncomputable def ents:List (List Int)→Pap→List (Int→Ent)
  | d::fs,p::ps=>en (prd (d::fs)) p::ents fs ps
  | _,_=>[]
noncomputable def hdc (s:Shp):Pap→Int→Int
  | p::_=>p.1
  | []=>s.fin
noncomputable def wv (s:Shp) (d:List Int) (P:Int) (V:Int→Int) (x y:Int):Int:=s.ord x y * (P * d.sum)+s.wg d y V P
noncomputable def StL (s:Shp) (d:List Int) (P:Int) (V c l:Int→Int) (x:Int):Prop:=wv s d P V x (l x)=c x∧∀ y,x≤y→y≤s.top→c x≤wv s d P V x y
noncomputable def DayL (s:Shp) (d:List Int) (P:Int) (V c l:Int→Int):Prop:=∀ x,-s.depth≤x→x≤s.top→StL s d P V c l x
noncomputable def LetL (s:Shp):List (List Int)→Pap→Prop
  | d::fs,p::ps=>LetL s fs ps∧DayL s d (prd fs) (hdc s ps) p.1 p.2
  | _,_=>True
theorem wv_congr {s:Shp} (h:s.Ok) {d:List Int} {P:Int} {V V':Int→Int} (hV:∀ x,-s.depth≤x→x≤s.top→V x=V' x) {x y:Int} (y2:y≤s.top):wv s d P V x y=wv s d P V' x y:=by
  unfold wv Shp.wg
  congr 1
  exact ws_congr fun f f0=>by rw [hV _ (nx_ge s _ f) (nx_le h y2 f0)]
theorem cby_wv {s:Shp} {d:List Int} {A:Int→Int} {P:Int} {g:Int→Int} {x:Int}:cby s d A P g x=wv s d P A x (g x):=by
  unfold cby wv
  rw [Int.mul_comm]
theorem ents_len:∀ {fs:List (List Int)} {ps:Pap},ps.length=fs.length→(ents fs ps).length=fs.length:=by
  intro fs
  induction fs with
  | nil=>intro ps h; cases ps with | nil=>rfl | cons p ps=>cases h
  | cons d fs ih =>
    intro ps h
    cases ps with
    | nil=>cases h
    | cons p ps=>exact congrArg (·+1) (ih (Nat.succ.inj h))
theorem let_ah {s:Shp} (h:s.Ok):∀ {fs:List (List Int)} {ps:Pap},ps.length=fs.length→(∀ p∈ps,s.RlOk p.2)→LetL s fs ps→∀ x,-s.depth≤x→x≤s.top→ahP s fs (ents fs ps) x=hdc s ps x:=by
  intro fs
  induction fs with
  | nil=>intro ps hl _ _ x _ _; cases ps with | nil=>rfl | cons p ps=>cases hl
  | cons d fs ih =>
    intro ps hl hr g x x1 x2
    cases ps with
    | nil=>cases hl
    | cons p ps =>
      have e0:ahP s (d::fs) (ents (d::fs) (p::ps)) x=cby s d (ahP s fs (ents fs ps)) (prd fs) p.2 x:=rfl
      rw [e0,cby_wv,wv_congr h (ih (Nat.succ.inj hl) (fun q hq=>hr q (List.mem_cons_of_mem _ hq)) g.1) (hr p (by simp) x x1 x2).2]
      exact (g.2 x x1 x2).1
theorem letP_cons {s:Shp} {d:List Int} {fs:List (List Int)} {e:Int→Ent} {es:List (Int→Ent)}:LetP s (d::fs) (e::es) ↔ LetP s fs es∧DyP s (d::fs) (e::es):=by
  constructor
  · intro z
    exact ⟨fun k hk=>z (k+1) (Nat.succ_lt_succ hk),z 0 (Nat.succ_pos _)⟩
  · rintro ⟨a,b⟩ k hk
    cases k with
    | zero=>exact b
    | succ k=>exact a k (Nat.lt_of_succ_lt_succ hk)
theorem let_iff {s:Shp} (h:s.Ok):∀ {fs:List (List Int)} {ps:Pap},ps.length=fs.length→(∀ l∈fs,DayB l)→(∀ p∈ps,s.RlOk p.2)→(LetP s fs (ents fs ps) ↔ LetL s fs ps):=by
  intro fs
  induction fs with
  | nil=>intro ps hl _ _; exact ⟨fun _=>by cases ps <;> trivial,fun _ k hk=>by cases hk⟩
  | cons d fs ih =>
    intro ps hl hf hr
    cases ps with
    | nil=>cases hl
    | cons p ps =>
      have hl':ps.length=fs.length:=Nat.succ.inj hl
      have hr':∀ q∈ps,s.RlOk q.2:=fun q hq=>hr q (List.mem_cons_of_mem _ hq)
      have hf':∀ l∈fs,DayB l:=fun l hq=>hf l (List.mem_cons_of_mem _ hq)
      have hP:0 < prd (d::fs):=by rw [prd_bk s]; exact bk_sc hf
      have e0:ents (d::fs) (p::ps)=en (prd (d::fs)) p::ents fs ps:=rfl
      rw [e0,letP_cons,ih hl' hf' hr']
      show _ ↔ LetL s fs ps∧DayL s d (prd fs) (hdc s ps) p.1 p.2
      refine and_congr_right fun g=>?_
      have ha:=let_ah h hl' hr' g
      have ea:∀ x,-s.depth≤x→x≤s.top→ahP s (d::fs) (en (prd (d::fs)) p::ents fs ps) x=wv s d (prd fs) (hdc s ps) x (p.2 x):=fun x x1 x2=>by
        have e1:ahP s (d::fs) (en (prd (d::fs)) p::ents fs ps) x=cby s d (ahP s fs (ents fs ps)) (prd fs) p.2 x:=rfl
        rw [e1,cby_wv,wv_congr h ha (hr p (by simp) x x1 x2).2]
      have ew:∀ x y,y≤s.top→prd fs * d.sum * s.ord x y+s.wg d y (ahP s fs (ents fs ps)) (prd fs)=wv s d (prd fs) (hdc s ps) x y:=fun x y y2=>by
        rw [← wv_congr h ha y2]
        unfold wv
        rw [Int.mul_comm]
      constructor
      · rintro ⟨c1,c2⟩ x x1 x2
        have c3:=List.all_eq_true.mp c1 x (rangeI_in x1 (by have:=h.n_eq; omega))
        rw [Bool.and_eq_true,beq_iff_eq,beq_iff_eq] at c3
        have c4:=low_ne hP c3
        rw [ea x x1 x2] at c4
        refine ⟨c4,fun y xy y2=>?_⟩
        have:=c2 x y x1 xy y2
        rw [ew x y y2,ea x x1 x2,c4] at this
        exact this
      · intro z
        refine ⟨List.all_eq_true.mpr fun x hx=>?_,fun x y x1 xy y2=>?_⟩
        · have hx':=rangeI_mem hx
          have x1:-s.depth≤x:=by omega
          have x2:x≤s.top:=by have:=h.n_eq; omega
          rw [ea x x1 x2,(z x x1 x2).1,Bool.and_eq_true,beq_iff_eq,beq_iff_eq]
          exact ⟨rfl,rfl⟩
        · rw [ew x y y2,ea x x1 (Int.le_trans xy y2),(z x x1 (Int.le_trans xy y2)).1]
          exact (z x x1 (Int.le_trans xy y2)).2 y xy y2

end My
set_option Elab.async false
set_option linter.all false
set_option maxRecDepth 100000
set_option exponentiation.threshold 9000
namespace My
open PySem PySem.Spec PyProof.Rows L2 Tw
theorem cmp_key {p q w t b c P:Int} (hq:0 < q) (hb:0 < b) (hP:0 < P) (e1:p * P=q * w) (e2:t * P=c * b):(p * b=t * q ↔ w=c)∧(p * b < t * q ↔ w < c):=by
  have k1:p * b * P=q * b * w:=by
    have:p * b * P=p * P * b:=by grind
    rw [this,e1]
    grind
  have k2:t * q * P=q * b * c:=by
    have:t * q * P=t * P * q:=by grind
    rw [this,e2]
    grind
  have hqb:0 < q * b:=Int.mul_pos hq hb
  refine ⟨⟨fun z=>?_,fun z=>?_⟩,⟨fun z=>?_,fun z=>?_⟩⟩
  · exact Int.eq_of_mul_eq_mul_left (Int.ne_of_gt hqb) (by rw [← k1,← k2,z])
  · exact Int.eq_of_mul_eq_mul_right (Int.ne_of_gt hP) (by rw [k1,k2,z])
  · exact Int.lt_of_mul_lt_mul_left (by rw [← k1,← k2]; exact Int.mul_lt_mul_of_pos_right z hP) (Int.le_of_lt hqb)
  · exact Int.lt_of_mul_lt_mul_right (by rw [k1,k2]; exact Int.mul_lt_mul_of_pos_left z hqb) (Int.le_of_lt hP)
noncomputable def pI:PyData→Int
  | .int n=>n
  | .tuple (.int n::_)=>n
  | _=>0
theorem find_all {q:Int→Bool} {r:Re} {D:Int→PyData} (hD:∀ x,pI (D x)=x) (l:List Int):(l.map D).findSome? (fun y=>if q (pI y)=true then none else some r)=if l.all q=true then none else some r:=by
  induction l with
  | nil=>rfl
  | cons x l ih =>
    rw [List.map_cons,List.findSome?_cons,List.all_cons,hD x]
    cases h:q x with
    | true=>exact ih
    | false=>rfl
structure Lat (s:Shp) (N U V:Int→Int) (P:Int):Prop where
  P0:0 < P
  u:∀ z,-s.depth≤z→z≤s.top→0 < U z∧nb 140 (U z)∧nb 1900 (N z)∧N z * P=V z * U z
noncomputable abbrev llE (s:Shp) (F Q:Sl) (lt:PyData) (d:List Int) (D:Sl) (x:Int) (t b l:Int) (J9 J10 J11:Sl):List Sl:=[.d s.d,F,Q,.d lt,.d (tI d),D,.d (.int x),.d (.tuple [.int t,.int b]),.d (.int l),J9,J10,J11]
end My
set_option Elab.async false
set_option linter.all false
set_option maxRecDepth 100000
set_option exponentiation.threshold 9000
namespace My
open PySem PySem.Spec PyProof.Rows L2 Tw
noncomputable abbrev loE (s:Shp) (F Q:Sl) (lt:PyData) (d:List Int) (D:PyData) (J6 J7 J8 J9 J10 J11:Sl):List Sl:=[.d s.d,F,Q,.d lt,.d (tI d),.d D,J6,J7,J8,J9,J10,J11]
noncomputable def sT (P:Int) (c:Int→Int) (x:Int):Int:=Gc.lowT (c x) P
noncomputable def sB (P:Int) (c:Int→Int) (x:Int):Int:=Gc.lowB (c x) P
noncomputable def Sml (s:Shp) (P:Int) (c:Int→Int):Prop:=∀ x,-s.depth≤x→x≤s.top→nb 1900 (sT P c x)∧nb 100 (sB P c x)
theorem lat_of {s:Shp} {P:Int} {c:Int→Int} (hP:0 < P) (hE:Sml s P c):Lat s (sT P c) (sB P c) c P:=by
  refine ⟨hP,fun z z1 z2=>?_⟩
  obtain ⟨k1,k2⟩:=low_key (c:=c z) hP
  exact ⟨k2,nb_mono (hE z z1 z2).2 (by decide),(hE z z1 z2).1,k1⟩
end My
set_option Elab.async false
set_option linter.all false
set_option maxRecDepth 100000
set_option exponentiation.threshold 9000
namespace My
open PySem PySem.Spec PyProof.Rows L2 Tw
noncomputable def DyL (s:Shp):List (List Int)→Pap→Prop
  | d::fs,p::ps=>DayL s d (prd fs) (hdc s ps) p.1 p.2
  | _,_=>True
noncomputable def ltP (s:Shp):List (List Int)→Pap→PyData
  | d::fs,p::_=>ltD s (sT (prd fs * d.sum) p.1) (sB (prd fs * d.sum) p.1)
  | _,_=>ltD s s.fin fun _=>1
noncomputable def SmlP (s:Shp):List (List Int)→Pap→Prop
  | d::fs,p::ps=>Sml s (prd fs * d.sum) p.1∧SmlP s fs ps
  | _,_=>True
theorem lat_p {s:Shp} (h:s.Ok) {fs:List (List Int)} (hf:∀ l∈fs,DayB l) {ps:Pap} (hl:ps.length=fs.length) (hE:SmlP s fs ps):∃ N U,ltP s fs ps=ltD s N U∧Lat s N U (hdc s ps) (prd fs):=by
  cases fs with
  | nil =>
    cases ps with
    | cons p ps=>cases hl
    | nil =>
      refine ⟨_,_,rfl,Int.one_pos,fun z z1 z2=>⟨Int.one_pos,?_,nb_mono (fin_nb h z z1 z2) (by decide),rfl⟩⟩
      exact nb_mono (show (1:Int).natAbs < 2 ^ 1 by decide) (by decide)
  | cons d fs =>
    cases ps with
    | nil=>cases hl
    | cons p ps =>
      have hP:0 < prd fs * d.sum:=by
        have:=bk_sc (s:=s) hf
        rw [← prd_bk s] at this
        exact this
      exact ⟨_,_,rfl,lat_of hP hE.1⟩
theorem ents_at:∀ {fs:List (List Int)} {ps:Pap} {k:Nat} {d:List Int} {rest:List (List Int)} {p:(Int→Int)×(Int→Int)} {pr:Pap},fs.drop k=d::rest→ps.drop k=p::pr→(ents fs ps)[k]?=some (en (prd rest * d.sum) p):=by
  intro fs
  induction fs with
  | nil=>intro ps k d rest p pr h _; rw [List.drop_nil] at h; cases h
  | cons d0 fs ih =>
    intro ps k d rest p pr h1 h2
    cases ps with
    | nil=>rw [List.drop_nil] at h2; cases h2
    | cons p0 ps =>
      cases k with
      | zero=>cases h1; cases h2; rfl
      | succ k=>exact ih h1 h2
end My
set_option Elab.async false
set_option linter.all false
set_option maxRecDepth 100000
set_option exponentiation.threshold 9000
namespace My
open PySem PySem.Spec PyProof.Rows L2 Tw
theorem wv_nb {s:Shp} (h:s.Ok) {d:List Int} (hd:DayB d) {V:Int→Int} {P:Int} {b:Nat} (hV:Bd s b V) (hP:nb b P) {x y:Int} (x1:-s.depth≤x) (x2:x≤s.top) (y1:-s.depth≤y) (y2:y≤s.top):nb (b+300) (wv s d P V x y):=by
  have k1:=wg_nb h hd y1 y2 hV hP
  have k2:=nb_mul (ord_nb h (st_nb h x1 x2) (st_nb h y1 y2)) (nb_mul hP (sum_nbD hd))
  exact nb_mono (nb_add k2 k1) (by omega)
structure Bst (s:Shp) (d:List Int) (P:Int) (V:Int→Int) (x y:Int):Prop where
  lo:x≤y
  hi:y≤s.top
  m:∀ z,x≤z→z≤s.top→wv s d P V x y≤wv s d P V x z
noncomputable def eB (s:Shp) (d:List Int) (P:Int) (V:Int→Int) (x y:Int):Ent:=⟨Gc.lowT (wv s d P V x y) (P * d.sum),Gc.lowB (wv s d P V x y) (P * d.sum),y⟩
noncomputable abbrev bsE (s:Shp) (d:List Int) (x:Int) (lt f:PyData) (J5 J6 J7:Sl):List Sl:=[.d s.d,.d (tI d),.d (.int x),.d lt,.d f,J5,J6,J7]
theorem bs1 {s:Shp} (h:s.Ok) {d:List Int} (hd:DayB d) {N U V:Int→Int} {P:Int} (hL:Lat s N U V P) {b:Nat} (hV:Bd s b V) (hP:nb b P) (hb:b≤1500) {x z:Int} (x1:-s.depth≤x) (xz:x≤z) (z2:z≤s.top) (J6 J7:Sl) :
    (∃ K6 K7:Sl,l_law_best_1 (bsE s d x (ltD s N U) .none (.d (.int z)) J6 J7)=.ret (.next (bsE s d x (ltD s N U) (eB s d P V x z).d (.d (.int z)) K6 K7))) ∧
    ∀ y,x≤y→y≤s.top→∃ K6 K7:Sl,l_law_best_1 (bsE s d x (ltD s N U) (eB s d P V x y).d (.d (.int z)) J6 J7)=.ret (.next (bsE s d x (ltD s N U) (if wv s d P V x z < wv s d P V x y then (eB s d P V x z).d else (eB s d P V x y).d) (.d (.int z)) K6 K7)):=by
  have hPd:0 < P * d.sum:=Int.mul_pos hL.P0 hd.pos
  obtain ⟨p,q,e1,q0,eq,np,nq⟩:=e_level_cost h hd x1 xz z2 hL.P0 hL.u
  have e2:=e_lshare (t:=p) q0 (nb_mono nq (by decide))
  obtain ⟨k1,k2⟩:=low_eq (v:=wv s d P V x z) q0 hPd eq
  have e3:shD p q=.tuple [.int (Gc.lowT (wv s d P V x z) (P * d.sum)),.int (Gc.lowB (wv s d P V x z) (P * d.sum))]:=by unfold shD; rw [k1,k2]
  rw [e3] at e2
  have g1:=nb_fit np (by decide)
  have g2:=nb_fit nq (by decide)
  have n1:isNo .none=true:=rfl
  refine ⟨⟨.d (.int p),.d (.int q),?_⟩,fun y xy y2=>⟨.d (.int p),.d (.int q),?_⟩⟩
  · simp_arith [l_law_best_1,bsE,e1,n1,e2]
    rfl
  · obtain ⟨j1,j2⟩:=low_key (c:=wv s d P V x y) hPd
    obtain ⟨m1,m2⟩:=low_nb (wv_nb h hd hV hP x1 (show x≤s.top by omega) (show -s.depth≤y by omega) y2) (nb_mul hP (sum_nbD hd)) (Int.ne_of_gt hPd)
    have g3:=nb_fit m1 (by omega)
    have g4:=nb_fit m2 (by omega)
    have ck:=(cmp_key q0 j2 hPd (w:=wv s d P V x z) eq j1).2
    have n2:∀ xs,isNo (.tuple xs)=false:=fun _=>rfl
    by_cases c:wv s d P V x z < wv s d P V x y
    · rw [if_pos c]
      simp_arith [l_law_best_1,bsE,eB,Ent.d,e1,n2,g1,g2,g3,g4,decide_eq_true (ck.mpr c),e2]
    · rw [if_neg c]
      simp_arith [l_law_best_1,bsE,eB,Ent.d,e1,n2,g1,g2,g3,g4,decide_eq_false (fun z=>c (ck.mp z))]
theorem e_best {s:Shp} (h:s.Ok) {d:List Int} (hd:DayB d) {N U V:Int→Int} {P:Int} (hL:Lat s N U V P) {b:Nat} (hV:Bd s b V) (hP:nb b P) (hb:b≤1500) {x:Int} (x1:-s.depth≤x) (x2:x≤s.top) :
    ∃ y,Bst s d P V x y∧m_law_best [.d s.d,.d (tI d),.d (.int x),.d (ltD s N U)]=.ret (.d (eB s d P V x y).d):=by
  have t0:=h.t0
  have d0:=h.d0
  have td:=h.td
  have r1:rng2 [.int x,.int (s.top+1)]=.ret (rngL x (s.top+1)):=ev_rg2 (inR_of (by omega) (by omega)) (inR_of (by omega) (by omega))
  have key:Al (m_law_best [.d s.d,.d (tI d),.d (.int x),.d (ltD s N U)]) 0 fun r=>∃ y,Bst s d P V x y∧r=.d (eB s d P V x y).d:=by
    simp_arith [m_law_best,r1]
    refine al_bind (n:=0) (n':=0) (P:=fun o=>∃ (y:Int) (J5 J6 J7:Sl),Bst s d P V x y∧o=.next (bsE s d x (ltD s N U) (eB s d P V x y).d J5 J6 J7)) ?_ (by decide) ?_
    · refine al_forQ (n:=0) (fun pre ρ=>∃ J5 J6 J7:Sl,(pre.length=0∧ρ=bsE s d x (ltD s N U) .none J5 J6 J7)∨∃ y,x≤y∧y < x+pre.length∧(∀ z,x≤z→z < x+pre.length→wv s d P V x y≤wv s d P V x z)∧ρ=bsE s d x (ltD s N U) (eB s d P V x y).d J5 J6 J7) ⟨_,_,_,.inl ⟨rfl,rfl⟩⟩ (by simp) ?_ ?_
      · rintro pre z post ρ e ⟨J5,J6,J7,hI⟩
        obtain ⟨rfl,hpre⟩:=rngL_mid e
        have el:∀ z:PyData,(pre++[z]).length=pre.length+1:=fun z=>by simp
        obtain ⟨⟨K6,K7,s1⟩,s2⟩:=bs1 h hd hL hV hP hb x1 (show x≤x+pre.length by omega) (show x+pre.length≤s.top by omega) J6 J7
        rw [el]
        rcases hI with ⟨h0,rfl⟩ | ⟨y,xy,yl,hm,rfl⟩
        · refine ⟨_,rfl,al_of s1 ⟨_,rfl,_,_,_,.inr ⟨x+pre.length,by omega,by omega,fun z z0 z1=>?_,rfl⟩⟩⟩
          have:z=x+pre.length:=by omega
          rw [this]
          exact Int.le_refl _
        · obtain ⟨L6,L7,st⟩:=s2 y xy (by omega)
          refine ⟨_,rfl,al_of st ⟨_,rfl,.d (.int (x+pre.length)),L6,L7,.inr ?_⟩⟩
          by_cases c:wv s d P V x (x+pre.length) < wv s d P V x y
          · refine ⟨x+pre.length,by omega,by omega,fun z z0 z1=>?_,by rw [if_pos c]⟩
            by_cases cz:z < x+pre.length
            · exact Int.le_trans (Int.le_of_lt c) (hm z z0 cz)
            · have:z=x+pre.length:=by omega
              rw [this]
              exact Int.le_refl _
          · refine ⟨y,xy,by omega,fun z z0 z1=>?_,by rw [if_neg c]⟩
            by_cases cz:z < x+pre.length
            · exact hm z z0 cz
            · have:z=x+pre.length:=by omega
              rw [this]
              exact Int.not_lt.mp c
      · rintro ρ ⟨J5,J6,J7,hI⟩
        rw [rngL_len] at hI
        rcases hI with ⟨h0,rfl⟩ | ⟨y,xy,yl,hm,rfl⟩
        · omega
        · exact ⟨y,_,_,_,⟨xy,by omega,fun z z0 z1=>hm z z0 (by omega)⟩,rfl⟩
    · rintro _ ⟨y,J5,J6,J7,hB,rfl⟩
      simp_arith [bsE]
      exact al_ret ⟨y,hB,rfl⟩
  obtain ⟨r,er,y,hB,rfl⟩:=al_ex key
  exact ⟨y,hB,er⟩

end My
set_option Elab.async false
set_option linter.all false
set_option maxRecDepth 100000
set_option exponentiation.threshold 9000
namespace My
open PySem PySem.Spec PyProof.Rows L2 Tw
theorem can_map {α:Type} {f:α→PyData} {k:Nat} (hf:∀ x,PyData.canLay0 (f x)=true∧PyData.depth (f x)≤k) (l:List α):PyData.canLayAll0 (l.map f)=true∧PyData.depthAll (l.map f)≤k:=by
  induction l with
  | nil=>exact ⟨rfl,Nat.zero_le _⟩
  | cons x l ih =>
    obtain ⟨h1,h2⟩:=hf x
    rw [List.map_cons,PyData.canLayAll0,PyData.depthAll,h1,ih.1]
    exact ⟨rfl,Nat.max_le.mpr ⟨h2,ih.2⟩⟩
theorem can_tup {xs:List PyData} {k:Nat} (h:PyData.canLayAll0 xs=true∧PyData.depthAll xs≤k):PyData.canLay0 (.tuple xs)=true∧PyData.depth (.tuple xs)≤k+1:=by
  rw [PyData.canLay0,PyData.depth]
  exact ⟨h.1,by omega⟩
theorem can_day (s:Shp) (e:Int→Ent):PyData.canLay0 (dyD s e)=true∧PyData.depth (dyD s e)≤3 :=
  can_tup (can_map (fun x=>⟨rfl,Nat.le_refl 2⟩) _)
theorem sh_days (s:Shp) (es:List (Int→Ent)):SeqAt.shaped (.list (es.map (dyD s)))=true:=by
  obtain ⟨h1,h2⟩:=can_map (can_day s) es
  unfold SeqAt.shaped
  rw [PyData.canLay0,PyData.depth,h1,decide_eq_true (by omega)]
  rfl
theorem ne_days (s:Shp) (es:List (Int→Ent)):bin2 neD (.list (es.map (dyD s))) (.list [])=.ret (.bool (!es.isEmpty)):=by
  rw [ev_neL (ys:=[]) (sh_days s es) (sh_days s [])]
  cases es <;> rfl
noncomputable def BdP (s:Shp):List (List Int)→Pap→Prop
  | _::fs,p::ps=>Bd s (100+300 * (fs.length+1)) p.1∧BdP s fs ps
  | _,_=>True
structure PkOk (s:Shp) (fs:List (List Int)) (ps:Pap):Prop where
  len:ps.length=fs.length
  rl:∀ p∈ps,s.RlOk p.2
  sml:SmlP s fs ps
  bdp:BdP s fs ps
theorem PkOk.bd {s:Shp} (h:s.Ok) {fs:List (List Int)} {ps:Pap} (k:PkOk s fs ps):Bd s (100+300 * fs.length) (hdc s ps):=by
  have hl:=k.len
  have hb:=k.bdp
  cases fs with
  | nil=>cases ps with | nil=>exact fin_nb h | cons p ps=>cases hl
  | cons d fs=>cases ps with | nil=>cases hl | cons p ps=>exact hb.1
theorem prd_nbk {s:Shp} (h:s.Ok) {fs:List (List Int)} (hf:∀ l∈fs,DayB l):nb (100+300 * fs.length) (prd fs):=by rw [prd_bk s]; exact (bk_nb h hf).2
theorem ah1 {s:Shp} (h:s.Ok) {d:List Int} {fq:List (List Int)} {pq:Pap} (hf:∀ l∈d::fq,DayB l) (h6:fq.length≤4) (hk:PkOk s fq pq) (hn:nb 100 (prd fq * d.sum)) :
    ∃ p,PkOk s (d::fq) (p::pq)∧DayL s d (prd fq) (hdc s pq) p.1 p.2∧∀ F R J5:Sl,∃ K5:Sl,l_law_ahead_1 [.d s.d,F,R,.d (.list ((ents fq pq).map (dyD s))),.d (tI d),J5]=.ret (.next [.d s.d,F,R,.d (.list ((ents (d::fq) (p::pq)).map (dyD s))),.d (tI d),K5]):=by
  have hd:=hf d (by simp)
  have hf':∀ l∈fq,DayB l:=fun l hl=>hf l (List.mem_cons_of_mem _ hl)
  have hP:=prd_nbk h hf'
  obtain ⟨N,U,eN,hL⟩:=lat_p h hf' hk.len hk.sml
  have hPd:0 < prd fq * d.sum:=Int.mul_pos hL.P0 hd.pos
  have hb:∀ x,∃ y,-s.depth≤x→x≤s.top→Bst s d (prd fq) (hdc s pq) x y∧m_law_best [.d s.d,.d (tI d),.d (.int x),.d (ltD s N U)]=.ret (.d (eB s d (prd fq) (hdc s pq) x y).d):=fun x=>by
    by_cases c:-s.depth≤x∧x≤s.top
    · obtain ⟨y,e1,e2⟩:=e_best h hd hL (hk.bd h) hP (by omega) c.1 c.2
      exact ⟨y,fun _ _=>⟨e1,e2⟩⟩
    · exact ⟨0,fun a b=>absurd ⟨a,b⟩ c⟩
  obtain ⟨l,hl⟩:=Classical.axiomOfChoice hb
  have hlb:∀ x,-s.depth≤x→x≤s.top→nb (100+300 * (d::fq).length) (wv s d (prd fq) (hdc s pq) x (l x)):=fun x x1 x2=>by
    have q:=(hl x x1 x2).1
    have:=wv_nb h hd (hk.bd h) hP x1 x2 (show -s.depth≤l x from Int.le_trans x1 q.lo) q.hi
    rw [List.length_cons]
    exact nb_mono this (by omega)
  refine ⟨(fun x=>wv s d (prd fq) (hdc s pq) x (l x),l),⟨congrArg (·+1) hk.len,fun q hq=>?_,⟨fun x x1 x2=>?_,hk.sml⟩,⟨hlb,hk.bdp⟩⟩,fun x x1 x2=>⟨rfl,fun y xy y2=>(hl x x1 x2).1.m y xy y2⟩,fun F R J5=>⟨.d (ltP s fq pq),?_⟩⟩
  · rcases List.mem_cons.mp hq with rfl | hq
    · exact fun x x1 x2=>⟨(hl x x1 x2).1.lo,(hl x x1 x2).1.hi⟩
    · exact hk.rl q hq
  · have:=hlb x x1 x2
    rw [List.length_cons] at this
    obtain ⟨m1,m2⟩:=low_nb (nb_mono this (show _≤1900 by omega)) hn (Int.ne_of_gt hPd)
    exact ⟨m1,m2⟩
  · have e1:=e_lstocks h
    have hsr:small (rngL (-s.depth) (s.top+1)).length=true:=small_le (by have:=h.td; have:=h.t0; have:=h.d0; rw [rngL_len]; omega)
    have es:it1 (.list (rngL (-s.depth) (s.top+1)))=.ret (rngL (-s.depth) (s.top+1)):=rfl
    have em:mapT (lc2 (gSet 0) q_law_ahead_1 [.un,.d s.d]) (rngL (-s.depth) (s.top+1))=.ret ((rangeI (-s.depth) s.n).map fun x=>.tuple [.int (s.fin x),.int 1]):=mapT_rng (f:=fun x=>.tuple [.int (s.fin x),.int 1]) fun z z1 z2=>by
      have e:=e_lend h z1 (show z≤s.top by omega)
      simp_arith [q_law_ahead_1,e]
    have eb:mapT (lc2 (gSet 0) q_law_ahead_3 [.un,.d s.d,.d (tI d),.d (ltD s N U)]) (rngL (-s.depth) (s.top+1))=.ret ((rangeI (-s.depth) s.n).map fun x=>(eB s d (prd fq) (hdc s pq) x (l x)).d):=mapT_rng (f:=fun x=>(eB s d (prd fq) (hdc s pq) x (l x)).d) fun z z1 z2=>by
      have e:=(hl z z1 (show z≤s.top by omega)).2
      simp_arith [q_law_ahead_3,e]
    have et:cb1 tupD [.list ((rangeI (-s.depth) s.n).map fun x=>(eB s d (prd fq) (hdc s pq) x (l x)).d)]=.ret (dyD s (en (prd fq * d.sum) (fun x=>wv s d (prd fq) (hdc s pq) x (l x),l))):=rfl
    have hel:=ents_len hk.len
    have hs3:small ([dyD s (en (prd fq * d.sum) (fun x=>wv s d (prd fq) (hdc s pq) x (l x),l))].length+((ents fq pq).map (dyD s)).length)=true:=small_le (by rw [List.length_map,hel]; simp; omega)
    have ne:=ne_days s (ents fq pq)
    cases fq with
    | nil =>
      have e0:ltP s [] pq=ltD s s.fin fun _=>1:=by cases pq <;> rfl
      have ee:ents ([]:List (List Int)) pq=[]:=by cases pq <;> rfl
      rw [ee] at ne hs3 ⊢
      have el0:PyData.list ((rangeI (-s.depth) s.n).map fun x=>.tuple [.int (s.fin x),.int 1])=ltD s N U:=by rw [← eN,e0]; rfl
      have ef:ents (d::[]) ((fun x=>wv s d (prd []) (hdc s pq) x (l x),l)::pq)=[en (prd [] * d.sum) (fun x=>wv s d (prd []) (hdc s pq) x (l x),l)]:=by cases pq <;> rfl
      rw [ef,eN]
      simp only [List.map_nil] at ne hs3
      simp_arith [l_law_ahead_1,e1,es,hsr,em,el0,ne,List.isEmpty_nil,Bool.not_true,eb,et,ev_addL hs3]
    | cons d' fq =>
      cases pq with
      | nil=>have:=hk.len; cases this
      | cons p' pq =>
        have ei:it1 (dyD s (en (prd (d'::fq)) p'))=.ret ((rangeI (-s.depth) s.n).map fun x=>(en (prd (d'::fq)) p' x).d):=rfl
        have hs1:small ((rangeI (-s.depth) s.n).map fun x=>(en (prd (d'::fq)) p' x).d).length=true:=small_le (by rw [List.length_map,rangeI_length]; have:=h.td; have:=h.n_eq; omega)
        have em2:mapT (lc2 (gSet 0) q_law_ahead_2 [.un]) ((rangeI (-s.depth) s.n).map fun x=>(en (prd (d'::fq)) p' x).d)=.ret ((rangeI (-s.depth) s.n).map fun x=>.tuple [.int (sT (prd (d'::fq)) p'.1 x),.int (sB (prd (d'::fq)) p'.1 x)]):=mapT_gen fun x _=>rfl
        have el1:PyData.list ((rangeI (-s.depth) s.n).map fun x=>.tuple [.int (sT (prd (d'::fq)) p'.1 x),.int (sB (prd (d'::fq)) p'.1 x)])=ltD s N U:=by rw [← eN]; rfl
        have ex:ents (d'::fq) (p'::pq)=en (prd (d'::fq)) p'::ents fq pq:=rfl
        have ey:ents (d::d'::fq) ((fun x=>wv s d (prd (d'::fq)) (hdc s (p'::pq)) x (l x),l)::p'::pq)=en (prd (d'::fq) * d.sum) (fun x=>wv s d (prd (d'::fq)) (hdc s (p'::pq)) x (l x),l)::en (prd (d'::fq)) p'::ents fq pq:=rfl
        rw [ex] at ne hs3 ⊢
        rw [ey,eN]
        simp only [List.map_cons] at ne hs3 ⊢
        simp_arith [l_law_ahead_1,e1,es,hsr,em,ne,Bool.not_false,ei,hs1,em2,el1,eb,et,ev_addL hs3]

end My
set_option Elab.async false
set_option linter.all false
set_option maxRecDepth 100000
set_option exponentiation.threshold 9000
namespace My
open PySem PySem.Spec PyProof.Rows L2 Tw
noncomputable def upd (e:Int→Ent) (x0:Int) (n:Ent):Int→Ent:=fun x=>if x=x0 then n else e x
theorem set_mid {α:Type} {l:List α} {a:Nat} (ha:a < l.length) (v:α):l.take a++v::l.drop (a+1)=l.set a v:=by
  rw [List.set_eq_take_append_cons_drop,if_pos ha]
theorem set_row {f:Int→PyData} {lo:Int} {n a:Nat} (ha:a < n) (v:PyData):((rangeI lo n).map f).set a v=(rangeI lo n).map fun x=>if x=lo+a then v else f x:=by
  refine List.ext_getElem? fun i=>?_
  rw [List.getElem?_set,List.length_map,rangeI_length]
  unfold rangeI
  rw [List.map_map,List.map_map,List.getElem?_map,List.getElem?_map]
  by_cases hi:a=i
  · subst hi
    rw [if_pos rfl,if_pos ha,List.getElem?_range ha]
    show some v=some (if lo+(a:Int)=lo+(a:Int) then v else f (lo+(a:Int)))
    rw [if_pos rfl]
  · rw [if_neg hi]
    by_cases h2:i < n
    · rw [List.getElem?_range h2]
      show some (f (lo+(i:Int)))=some (if lo+(i:Int)=lo+(a:Int) then v else f (lo+(i:Int)))
      rw [if_neg (by omega)]
    · rw [List.getElem?_eq_none (by rw [List.length_range]; omega)]
      rfl
theorem cut_from (xs:List PyData) (t:Nat):sl3 (.tuple xs) (some (t:Int)) none=.ret (.tuple (xs.drop t)):=by
  show Tr.ret (PyData.tuple (L2.cutD xs (some (t:Int)) none))=_
  unfold L2.cutD
  rw [HT.sIx_nat,HT.sIx_none]
  rcases Nat.le_total t xs.length with hle | hle
  · rw [Nat.min_eq_left hle,List.take_of_length_le (by rw [List.length_drop]; exact Nat.le_refl _)]
  · rw [Nat.min_eq_right hle,List.drop_eq_nil_of_le (Nat.le_refl _),List.drop_eq_nil_of_le hle]
    simp
theorem cut_to (xs:List PyData) (t:Nat) (h:t≤xs.length):sl3 (.tuple xs) none (some (t:Int))=.ret (.tuple (xs.take t)):=by
  show Tr.ret (PyData.tuple (L2.cutD xs none (some (t:Int))))=_
  unfold L2.cutD
  rw [HT.sIx_nat,HT.sIx_none,Nat.min_eq_left h,List.drop_zero,Nat.sub_zero]
theorem put_at {xs:List PyData} {a:Nat} (ha:a < xs.length) (h9:xs.length≤5000) (v:PyData):∃ x y z:PyData,sl3 (.tuple xs) none (some (a:Int))=.ret x∧bin2 addE x (.tuple [v])=.ret y∧sl3 (.tuple xs) (some ((a:Int)+1)) none=.ret z∧bin2 addD y z=.ret (.tuple (xs.set a v)):=by
  have e:(a:Int)+1=((a+1:Nat):Int):=by omega
  refine ⟨_,_,_,cut_to xs a (by omega),addE_of (small_le (by rw [List.length_take]; show _+1≤_; omega)),by rw [e]; exact cut_from xs (a+1),?_⟩
  rw [ev_addT (by simp) (small_le (by rw [List.length_append,List.length_take,List.length_drop]; show _+1+_≤_; omega)),List.append_assoc]
  show Tr.ret (PyData.tuple (xs.take a++v::xs.drop (a+1)))=_
  rw [set_mid ha]
theorem dy_upd {s:Shp} {e:Int→Ent} {a:Nat} (ha:a < s.n) (n:Ent):PyData.tuple (((rangeI (-s.depth) s.n).map fun x=>(e x).d).set a n.d)=dyD s (upd e (-s.depth+a) n):=by
  unfold dyD
  rw [set_row ha]
  congr 1
  refine List.map_congr_left fun x _=>?_
  unfold upd
  split <;> rfl
theorem pap_set {s:Shp} {es:List (Int→Ent)} {t:Nat} (e':Int→Ent):PyData.tuple ((es.map (dyD s)).set t (dyD s e'))=papD s (es.set t e'):=by
  unfold papD
  rw [List.map_set]
end My
set_option Elab.async false
set_option linter.all false
set_option maxRecDepth 100000
set_option exponentiation.threshold 9000
namespace My
open PySem PySem.Spec PyProof.Rows L2 Tw
theorem sum_le:∀ {l:List Int},(∀ n∈l,0≤n∧n≤1001)→0≤l.sum∧l.sum≤1001 * l.length
  | [],_=>by simp
  | a::l,h=>by
    have ih:=sum_le (l:=l) fun n hn=>h n (List.mem_cons_of_mem _ hn)
    have:=h a (by simp)
    rw [List.sum_cons,List.length_cons]
    omega
theorem prd_13:∀ {fs:List (List Int)},(∀ l∈fs,DayOk 8 l)→nb (13 * fs.length+1) (prd fs)
  | [],_=>(show (1:Int).natAbs < 2 ^ (13 * 0+1) by decide)
  | d::fs,h=>by
    have ih:=prd_13 (fs:=fs) fun l hl=>h l (List.mem_cons_of_mem _ hl)
    have hd:=h d (by simp)
    have hs:=sum_le hd.le
    have hl:=hd.len
    have hn:nb 13 d.sum:=nb_of (by show -8192 < _; omega) (by show _ < 8192; omega)
    rw [List.length_cons]
    exact nb_mono (nb_mul ih hn) (by omega)
theorem prd_100 {fs:List (List Int)} (hf:∀ l∈fs,DayOk 8 l) (h:fs.length≤4):nb 100 (prd fs):=nb_mono (prd_13 hf) (by omega)
theorem e_ahead {s:Shp} (h:s.Ok) {f1 f2:List (List Int)} {ps2:Pap} (hf:∀ l∈f1++f2,DayOk 8 l) (h6:(f1++f2).length≤4) (hk:PkOk s f2 ps2) {rows:PyData} (hrow:cbo1 lstD [rows]=.ret ((ents f2 ps2).map (dyD s))) (hlen:cb1 lenD [rows]=.ret (.int f2.length)) :
    ∃ ps,PkOk s (f1++f2) ps∧(LetL s f2 ps2→LetL s (f1++f2) ps)∧m_law_ahead [.d s.d,.d (fD (f1++f2)),.d rows]=.ret (.d (papD s (ents (f1++f2) ps))):=by
  have ez:((f1++f2).length:Int) - (f2.length:Int)=(f1.length:Int):=by rw [List.length_append]; omega
  have ec:sl3 (fD (f1++f2)) none (some (f1.length:Int))=.ret (.tuple (f1.map tI)):=by
    unfold fD
    rw [cut_to _ _ (by rw [List.length_map,List.length_append]; omega),List.map_append,List.take_left' (by rw [List.length_map])]
  have key:Al (m_law_ahead [.d s.d,.d (fD (f1++f2)),.d rows]) 0 fun r=>∃ ps,PkOk s (f1++f2) ps∧(LetL s f2 ps2→LetL s (f1++f2) ps)∧r=.d (papD s (ents (f1++f2) ps)):=by
    simp_arith [m_law_ahead,hrow,hlen,len_fD,ez,ec]
    refine al_bind (n:=0) (n':=0) (P:=fun o=>∃ (ps:Pap) (J4 J5:Sl),PkOk s (f1++f2) ps∧(LetL s f2 ps2→LetL s (f1++f2) ps)∧o=.next [.d s.d,.d (fD (f1++f2)),.d rows,.d (.list ((ents (f1++f2) ps).map (dyD s))),J4,J5]) ?_ (by decide) ?_
    · refine al_forQ (n:=0) (fun pre ρ=>∃ (g1 g2:List (List Int)) (ps:Pap) (J4 J5:Sl),f1=g1++g2∧g2.length=pre.length∧PkOk s (g2++f2) ps∧(LetL s f2 ps2→LetL s (g2++f2) ps)∧ρ=[.d s.d,.d (fD (f1++f2)),.d rows,.d (.list ((ents (g2++f2) ps).map (dyD s))),J4,J5]) ⟨f1,[],ps2,_,_,(List.append_nil _).symm,rfl,hk,fun z=>z,rfl⟩ (by simp) ?_ ?_
      · rintro pre z post ρ e ⟨g1,g2,ps,J4,J5,eg,hl,hp,hL,rfl⟩
        have e':(g2.map tI).reverse++(g1.map tI).reverse=pre++z::post:=by rw [← e,eg,List.map_append,List.reverse_append]
        obtain ⟨i1,i2⟩:=List.append_inj e' (by rw [List.length_reverse,List.length_map]; exact hl)
        rcases List.eq_nil_or_concat g1 with rfl | ⟨g1',d,rfl⟩
        · cases i2
        · rw [List.concat_eq_append,List.map_append,List.reverse_append] at i2
          rw [List.concat_eq_append] at eg
          cases i2
          have eg':f1=g1'++(d::g2):=by rw [eg,List.append_assoc]; rfl
          have hsub:∀ l∈d::(g2++f2),DayOk 8 l:=fun l hl=>hf l (by
            rw [eg',List.append_assoc]
            exact List.mem_append_right _ hl)
          have hle:(g2++f2).length+1≤4:=by
            have:(f1++f2).length=g1'.length+((g2++f2).length+1):=by rw [eg',List.append_assoc,List.length_append]; rfl
            omega
          obtain ⟨p,q1,q2,q3⟩:=ah1 h (d:=d) (fun l hl=>(hsub l hl).B (by decide)) (by omega) hp (prd_100 (fs:=d::(g2++f2)) hsub hle)
          obtain ⟨K5,st⟩:=q3 (.d (fD (f1++f2))) (.d rows) J5
          refine ⟨_,rfl,al_of st ⟨_,rfl,g1',d::g2,p::ps,_,_,eg',by rw [List.length_append,List.length_cons,hl]; rfl,q1,fun z=>⟨hL z,q2⟩,rfl⟩⟩
      · rintro ρ ⟨g1,g2,ps,J4,J5,eg,hl,hp,hL,rfl⟩
        rw [List.length_reverse,List.length_map] at hl
        have:g1=[]:=by
          have:=congrArg List.length eg
          rw [List.length_append] at this
          exact List.eq_nil_of_length_eq_zero (by omega)
        subst this
        cases eg
        exact ⟨ps,J4,J5,hp,hL,rfl⟩
    · rintro _ ⟨ps,J4,J5,hp,hL,rfl⟩
      simp_arith [List.isEmpty_cons]
      exact al_ret ⟨ps,hp,hL,rfl⟩
  obtain ⟨r,er,ps,q1,q2,rfl⟩:=al_ex key
  exact ⟨ps,q1,q2,er⟩

end My
set_option Elab.async false
set_option linter.all false
set_option maxRecDepth 100000
set_option exponentiation.threshold 9000
namespace My
open PySem PySem.Spec PyProof.Rows L2 Tw
theorem cmp_gen {p q w t b P:Int} (hq:0 < q) (hP:0 < P) (e1:p * P=q * w):(p * b=t * q ↔ w * b=t * P)∧(p * b < t * q ↔ w * b < t * P):=by
  have k1:p * b * P=q * (w * b):=by
    have:p * b * P=p * P * b:=by grind
    rw [this,e1]
    grind
  have k2:t * q * P=q * (t * P):=by grind
  refine ⟨⟨fun z=>?_,fun z=>?_⟩,⟨fun z=>?_,fun z=>?_⟩⟩
  · exact Int.eq_of_mul_eq_mul_left (Int.ne_of_gt hq) (by rw [← k1,← k2,z])
  · exact Int.eq_of_mul_eq_mul_right (Int.ne_of_gt hP) (by rw [k1,k2,z])
  · exact Int.lt_of_mul_lt_mul_left (by rw [← k1,← k2]; exact Int.mul_lt_mul_of_pos_right z hP) (Int.le_of_lt hq)
  · exact Int.lt_of_mul_lt_mul_right (by rw [k1,k2]; exact Int.mul_lt_mul_of_pos_left z hq) (Int.le_of_lt hP)
noncomputable def StG (s:Shp) (d:List Int) (P:Int) (A:Int→Int) (e:Ent) (x:Int):Prop:=(x≤e.l∧e.l≤s.top)∧wv s d P A x e.l * e.b=e.t * (P * d.sum)∧∀ y,x≤y→y≤s.top→e.t * (P * d.sum)≤wv s d P A x y * e.b
theorem gl1 {s:Shp} (h:s.Ok) {d:List Int} (hd:DayB d) {N U V:Int→Int} {P:Int} (hL:Lat s N U V P) {x y:Int} (x1:-s.depth≤x) (xy:x≤y) (y2:y≤s.top) {t b l:Int} (nt:nb 1900 t) (nb':nb 1900 b) (F Q D J9 J10:Sl) :
    ∃ K9 K10:Sl,l_law_let_1 (llE s F Q (ltD s N U) d D x t b l J9 J10 (.d (.int y)))=if wv s d P V x y * b < t * (P * d.sum) then .ret (.ret (.d (.bool false))) else .ret (.next (llE s F Q (ltD s N U) d D x t b l K9 K10 (.d (.int y)))):=by
  obtain ⟨p,q,e1,q0,eq,np,nq⟩:=e_level_cost h hd x1 xy y2 hL.P0 hL.u
  have ck:=(cmp_gen (b:=b) (t:=t) q0 (Int.mul_pos hL.P0 hd.pos) (w:=wv s d P V x y) eq).2
  have g1:=nb_fit np (by decide)
  have g2:=nb_fit nq (by decide)
  have g3:=nb_fit nt (by decide)
  have g4:=nb_fit nb' (by decide)
  refine ⟨.d (.int p),.d (.int q),?_⟩
  by_cases c1:wv s d P V x y * b < t * (P * d.sum)
  · rw [if_pos c1]
    simp_arith [l_law_let_1,llE,e1,g1,g2,g3,g4,decide_eq_true (ck.mpr c1)]
  · rw [if_neg c1]
    simp_arith [l_law_let_1,llE,e1,g1,g2,g3,g4,decide_eq_false (fun z=>c1 (ck.mp z))]
theorem gl2 {s:Shp} (h:s.Ok) {d:List Int} (hd:DayB d) {N U V:Int→Int} {P:Int} (hL:Lat s N U V P) {x:Int} (x1:-s.depth≤x) (x2:x≤s.top) {e:Ent} (l1:-s.depth≤e.l) (l2:e.l≤s.top) (nt:nb 1900 e.t) (nb':nb 1900 e.b) (F Q D J9 J10 J11:Sl) :
    (StG s d P V e x∧∃ K9 K10 K11:Sl,l_law_let_2 (llE s F Q (ltD s N U) d D x e.t e.b e.l J9 J10 J11)=.ret (.next (llE s F Q (ltD s N U) d D x e.t e.b e.l K9 K10 K11))) ∨
    (¬ StG s d P V e x∧l_law_let_2 (llE s F Q (ltD s N U) d D x e.t e.b e.l J9 J10 J11)=.ret (.ret (.d (.bool false)))):=by
  have t0:=h.t0
  have td:=h.td
  have d0:=h.d0
  have g3:=nb_fit nt (by decide)
  have g4:=nb_fit nb' (by decide)
  by_cases xl:x≤e.l
  · obtain ⟨p,q,e1,q0,eq,np,nq⟩:=e_level_cost h hd x1 xl l2 hL.P0 hL.u
    have ck:=(cmp_gen (b:=e.b) (t:=e.t) q0 (Int.mul_pos hL.P0 hd.pos) (w:=wv s d P V x e.l) eq).1
    have g1:=nb_fit np (by decide)
    have g2:=nb_fit nq (by decide)
    have r1:rng2 [.int x,.int (s.top+1)]=.ret (rngL x (s.top+1)):=ev_rg2 (inR_of (by omega) (by omega)) (inR_of (by omega) (by omega))
    by_cases c0:wv s d P V x e.l * e.b=e.t * (P * d.sum)
    · have c0':(!p * e.b == e.t * q)=false:=by rw [ck.mpr c0]; simp
      have kf:=for_find (g:=gSet 11) (s:=l_law_let_1) (f:=fun y=>if decide (¬ wv s d P V x (pI y) * e.b < e.t * (P * d.sum))=true then none else some (Re.d (.bool false)))
        (fun ρ=>∃ a a' b',ρ=llE s F Q (ltD s N U) d D x e.t e.b e.l a a' b') (xs:=rngL x (s.top+1)) (ρ:=llE s F Q (ltD s N U) d D x e.t e.b e.l (.d (.int p)) (.d (.int q)) J11) (fun y hy ρ hρ=>by
          obtain ⟨v,rfl,v0,v1⟩:=rngL_mem hy
          obtain ⟨a,a',b',rfl⟩:=hρ
          refine ⟨_,rfl,?_⟩
          obtain ⟨K9,K10,st⟩:=gl1 h hd hL x1 v0 (show v≤s.top by omega) nt nb' (l:=e.l) F Q D a a'
          by_cases c1:wv s d P V x v * e.b < e.t * (P * d.sum)
          · rw [if_pos c1] at st
            exact .inl ⟨_,if_neg (by show ¬ decide (¬ wv s d P V x v * e.b < e.t * (P * d.sum))=true; simp [c1]),st⟩
          · rw [if_neg c1] at st
            exact .inr ⟨if_pos (decide_eq_true c1),_,st,_,_,_,rfl⟩) ⟨_,_,_,rfl⟩
      have ef:(rngL x (s.top+1)).findSome? (fun y=>if decide (¬ wv s d P V x (pI y) * e.b < e.t * (P * d.sum))=true then none else some (Re.d (.bool false)))=if (rangeI x (s.top+1 - x).toNat).all (fun y=>decide (¬ wv s d P V x y * e.b < e.t * (P * d.sum)))=true then none else some (Re.d (.bool false)):=find_all (q:=fun y=>decide (¬ wv s d P V x y * e.b < e.t * (P * d.sum))) (D:=PyData.int) (fun _=>rfl) _
      rw [ef] at kf
      simp only [llE] at kf
      by_cases ha:(rangeI x (s.top+1 - x).toNat).all (fun y=>decide (¬ wv s d P V x y * e.b < e.t * (P * d.sum)))=true
      · rw [if_pos ha] at kf
        rcases kf with ⟨r,q1,q2⟩ | ⟨q1,ρ2,q2,a,a',b',rfl⟩
        · cases q1
        · refine .inl ⟨⟨⟨xl,l2⟩,c0,fun y xy y2=>Int.not_lt.mp (of_decide_eq_true (List.all_eq_true.mp ha y (rangeI_in xy (by omega))))⟩,a,a',b',?_⟩
          simp_arith [l_law_let_2,llE,e1,g1,g2,g3,g4,c0',decide_eq_true xl,decide_eq_true l2,Bool.not_true,r1,q2]
      · rw [if_neg ha] at kf
        rcases kf with ⟨r,q1,q2⟩ | ⟨q1,_⟩
        · cases q1
          refine .inr ⟨fun z=>ha (List.all_eq_true.mpr fun y hy=>?_),?_⟩
          · have:=rangeI_mem hy
            exact decide_eq_true (Int.not_lt.mpr (z.2.2 y (by omega) (by omega)))
          · simp_arith [l_law_let_2,llE,e1,g1,g2,g3,g4,c0',decide_eq_true xl,decide_eq_true l2,Bool.not_true,r1,q2]
        · cases q1
    · have c0':(!p * e.b == e.t * q)=true:=by rw [beq_eq_false_iff_ne.mpr fun z=>c0 (ck.mp z)]; rfl
      refine .inr ⟨fun z=>c0 z.2.1,?_⟩
      simp_arith [l_law_let_2,llE,e1,g1,g2,g3,g4,c0']
  · obtain ⟨o,eo,no⟩:=e_lorder_any h x1 x2 l1 l2
    obtain ⟨p,q,e1,q0,eq,np,nq⟩:=e_level_o h hd l1 l2 eo no hL.P0 hL.u
    have g1:=nb_fit np (by decide)
    have g2:=nb_fit nq (by decide)
    refine .inr ⟨fun z=>xl z.1.1,?_⟩
    cases c0:(p * e.b == e.t * q) with
    | false=>simp_arith [l_law_let_2,llE,e1,g1,g2,g3,g4,c0,Bool.not_false]
    | true=>simp_arith [l_law_let_2,llE,e1,g1,g2,g3,g4,c0,Bool.not_true,decide_eq_false xl,Bool.not_false]
end My
set_option Elab.async false
set_option linter.all false
set_option maxRecDepth 100000
set_option exponentiation.threshold 9000
namespace My
open PySem PySem.Spec PyProof.Rows L2 Tw
noncomputable def DayG (s:Shp) (d:List Int) (P:Int) (A:Int→Int) (e:Int→Ent):Prop:=∀ x,-s.depth≤x→x≤s.top→StG s d P A (e x) x
structure EnOk (s:Shp) (e:Ent):Prop where
  sh:e.Sh
  l1:-s.depth≤e.l
  l2:e.l≤s.top
  t:nb 1900 e.t
  b:nb 1900 e.b
noncomputable def EnAll (s:Shp) (e:Int→Ent):Prop:=∀ x,-s.depth≤x→x≤s.top→EnOk s (e x)
open Classical in
theorem gl3 {s:Shp} (h:s.Ok) {d:List Int} (hd:DayB d) {N U V:Int→Int} {P:Int} (hL:Lat s N U V P) {e:Int→Ent} (he:EnAll s e) (F Q J6 J7 J8 J9 J10 J11:Sl) :
    (DayG s d P V e∧∃ K6 K7 K8 K9 K10 K11:Sl,l_law_let_3 (loE s F Q (ltD s N U) d (dyD s e) J6 J7 J8 J9 J10 J11)=.ret (.next (loE s F Q (ltD s (fun x=>(e x).t) fun x=>(e x).b) d (dyD s e) K6 K7 K8 K9 K10 K11))) ∨
    (¬ DayG s d P V e∧l_law_let_3 (loE s F Q (ltD s N U) d (dyD s e) J6 J7 J8 J9 J10 J11)=.ret (.ret (.d (.bool false)))):=by
  have hn:=h.n_eq
  have e1:=e_lstocks h
  have kf:=for_find (g:=gTupD (gsCons (gSet 6) (gsCons (gTupD (gsCons (gSet 7) (gsCons (gSet 8) gsNil))) gsNil))) (s:=l_law_let_2) (f:=fun y=>if decide (StG s d P V (e (pI y)) (pI y))=true then none else some (Re.d (.bool false)))
    (fun ρ=>∃ a b c i f g,ρ=loE s F Q (ltD s N U) d (dyD s e) a b c i f g) (xs:=(rangeI (-s.depth) s.n).map fun x=>.tuple [.int x,(e x).d]) (ρ:=loE s F Q (ltD s N U) d (dyD s e) J6 J7 J8 J9 J10 J11) (fun y hy ρ hρ=>by
      obtain ⟨x,hx,rfl⟩:=List.mem_map.mp hy
      have hx':=rangeI_mem hx
      have x1:-s.depth≤x:=hx'.1
      have x2:x≤s.top:=by omega
      obtain ⟨a,b,c,i,f,g,rfl⟩:=hρ
      have k:=he x x1 x2
      refine ⟨llE s F Q (ltD s N U) d (.d (dyD s e)) x (e x).t (e x).b (e x).l i f g,rfl,?_⟩
      rcases gl2 h hd hL x1 x2 k.l1 k.l2 k.t k.b F Q (.d (dyD s e)) i f g with ⟨q,K9,K10,K11,st⟩ | ⟨q,st⟩
      · exact .inr ⟨if_pos (decide_eq_true q),_,st,_,_,_,_,_,_,rfl⟩
      · exact .inl ⟨_,if_neg (fun z=>q (of_decide_eq_true z)),st⟩) ⟨_,_,_,_,_,_,rfl⟩
  have ef:((rangeI (-s.depth) s.n).map fun x=>PyData.tuple [.int x,(e x).d]).findSome? (fun y=>if decide (StG s d P V (e (pI y)) (pI y))=true then none else some (Re.d (.bool false)))=if (rangeI (-s.depth) s.n).all (fun x=>decide (StG s d P V (e x) x))=true then none else some (Re.d (.bool false)):=find_all (q:=fun x=>decide (StG s d P V (e x) x)) (D:=fun x=>PyData.tuple [.int x,(e x).d]) (fun _=>rfl) _
  rw [ef] at kf
  have hz:=zip_rng s fun x=>(e x).d
  have ei:it1 (dyD s e)=.ret ((rangeI (-s.depth) s.n).map fun x=>(e x).d):=rfl
  have es:it1 (.list (rngL (-s.depth) (s.top+1)))=.ret (rngL (-s.depth) (s.top+1)):=rfl
  have hs1:small ((rangeI (-s.depth) s.n).map fun x=>(e x).d).length=true:=small_le (by rw [List.length_map,rangeI_length]; have:=h.td; omega)
  have em:mapT (lc2 (gTupD (gsCons (gSet 0) (gsCons (gSet 1) gsNil))) q_law_let_2 [.un,.un]) ((rangeI (-s.depth) s.n).map fun x=>(e x).d)=.ret ((rangeI (-s.depth) s.n).map fun x=>.tuple [.int (e x).t,.int (e x).b]):=mapT_gen fun x _=>rfl
  have el:PyData.list ((rangeI (-s.depth) s.n).map fun x=>.tuple [.int (e x).t,.int (e x).b])=ltD s (fun x=>(e x).t) fun x=>(e x).b:=rfl
  simp only [loE] at kf
  by_cases ha:(rangeI (-s.depth) s.n).all (fun x=>decide (StG s d P V (e x) x))=true
  · rw [if_pos ha] at kf
    rcases kf with ⟨r,q1,q2⟩ | ⟨q1,ρ2,q2,a,b,c,i,f,g,rfl⟩
    · cases q1
    · refine .inl ⟨fun x x1 x2=>of_decide_eq_true (List.all_eq_true.mp ha x (rangeI_in x1 (by omega))),a,b,c,i,f,g,?_⟩
      simp_arith [l_law_let_3,loE,e1,es,ei,hz,q2,hs1,em,el]
  · rw [if_neg ha] at kf
    rcases kf with ⟨r,q1,q2⟩ | ⟨q1,_⟩
    · cases q1
      refine .inr ⟨fun z=>ha (List.all_eq_true.mpr fun x hx=>?_),?_⟩
      · have:=rangeI_mem hx
        exact decide_eq_true (z x this.1 (by omega))
      · simp_arith [l_law_let_3,loE,e1,es,ei,hz,q2]
    · cases q1
theorem low_is {t b c P:Int} (hb:1≤b) (h1:Nat.gcd t.natAbs b.natAbs=1) (hP:0 < P) (h:c * b=t * P):Gc.lowT c P=t∧Gc.lowB c P=b:=by
  obtain ⟨k1,k2⟩:=low_eq (P:=t) (Q:=b) (v:=c) (B:=P) (by omega) hP (by rw [← h,Int.mul_comm])
  obtain ⟨m1,m2⟩:=Gc.low_of_low (t:=t) (b:=b) (by omega) h1
  exact ⟨by rw [← k1,m1],by rw [← k2,m2]⟩
theorem lat_next {s:Shp} {d:List Int} (hd:DayB d) {P:Int} (hP:0 < P) (hn:nb 100 (P * d.sum)) {A:Int→Int} {e:Int→Ent} (he:EnAll s e) (g:DayG s d P A e):Lat s (fun x=>(e x).t) (fun x=>(e x).b) (cby s d A P fun x=>(e x).l) (P * d.sum):=by
  have hPd:0 < P * d.sum:=Int.mul_pos hP hd.pos
  refine ⟨hPd,fun x x1 x2=>?_⟩
  have k:=he x x1 x2
  have q:=(g x x1 x2).2.1
  obtain ⟨m1,m2⟩:=low_is k.sh.pos k.sh.one hPd q
  refine ⟨by have:=k.sh.pos; omega,?_,k.t,?_⟩
  · rw [← m2]
    obtain ⟨_,z⟩:=Gc.low_le (t:=wv s d P A x (e x).l) (Int.ne_of_gt hPd)
    exact nb_mono (Nat.lt_of_le_of_lt z hn:nb 100 _) (by decide)
  · rw [cby_wv]
    exact q.symm
noncomputable def DyG (s:Shp):List (List Int)→List (Int→Ent)→Prop
  | d::fs,e::es=>DayG s d (prd fs) (ahP s fs es) e
  | _,_=>True
theorem dyG_iff {s:Shp} (h:s.Ok) {d:List Int} {fs:List (List Int)} (hf:∀ l∈d::fs,DayB l) {e:Int→Ent} {es:List (Int→Ent)} (he:EnAll s e):DyG s (d::fs) (e::es) ↔ (s.RlOk fun x=>(e x).l)∧DyP s (d::fs) (e::es):=by
  have hP:0 < prd (d::fs):=by rw [prd_bk s]; exact bk_sc hf
  have ea:∀ x,ahP s (d::fs) (e::es) x=wv s d (prd fs) (ahP s fs es) x (e x).l:=fun x=>by
    have e1:ahP s (d::fs) (e::es) x=cby s d (ahP s fs es) (prd fs) (fun x=>(e x).l) x:=rfl
    rw [e1,cby_wv]
  have ew:∀ x y,prd fs * d.sum * s.ord x y+s.wg d y (ahP s fs es) (prd fs)=wv s d (prd fs) (ahP s fs es) x y:=fun x y=>by
    unfold wv
    rw [Int.mul_comm]
  constructor
  · intro g
    refine ⟨fun x x1 x2=>(g x x1 x2).1,List.all_eq_true.mpr fun x hx=>?_,fun x y x1 xy y2=>?_⟩
    · have hx':=rangeI_mem hx
      have x2:x≤s.top:=by have:=h.n_eq; omega
      have k:=he x hx'.1 x2
      obtain ⟨m1,m2⟩:=low_is k.sh.pos k.sh.one hP (g x hx'.1 x2).2.1
      rw [ea x,m1,m2,Bool.and_eq_true,beq_iff_eq,beq_iff_eq]
      exact ⟨rfl,rfl⟩
    · have x2:=Int.le_trans xy y2
      have k:=he x x1 x2
      have q:=g x x1 x2
      have z:=q.2.2 y xy y2
      rw [← q.2.1] at z
      rw [ew,ea]
      exact Int.le_of_mul_le_mul_right z (by have:=k.sh.pos; omega)
  · rintro ⟨r,c1,c2⟩ x x1 x2
    have k:=he x x1 x2
    have hb:0 < (e x).b:=by have:=k.sh.pos; omega
    have c3:=List.all_eq_true.mp c1 x (rangeI_in x1 (by have:=h.n_eq; omega))
    rw [Bool.and_eq_true,beq_iff_eq,beq_iff_eq,ea x] at c3
    obtain ⟨j1,j2⟩:=low_key (c:=wv s d (prd fs) (ahP s fs es) x (e x).l) hP
    rw [c3.1,c3.2] at j1
    refine ⟨r x x1 x2,j1.symm,fun y xy y2=>?_⟩
    have z:=c2 x y x1 xy y2
    rw [ew,ea] at z
    have j1':wv s d (prd fs) (ahP s fs es) x (e x).l * (e x).b=(e x).t * (prd fs * d.sum):=j1.symm
    rw [← j1']
    exact Int.mul_le_mul_of_nonneg_right z (Int.le_of_lt hb)
end My
set_option Elab.async false
set_option linter.all false
set_option maxRecDepth 100000
set_option exponentiation.threshold 9000
namespace My
open PySem PySem.Spec PyProof.Rows L2 Tw
noncomputable def LetG (s:Shp) (fs:List (List Int)) (es:List (Int→Ent)):Prop:=∀ k,k < fs.length→DyG s (fs.drop k) (es.drop k)
theorem letG_iff {s:Shp} (h:s.Ok) {fs:List (List Int)} {es:List (Int→Ent)} (hl:es.length=fs.length) (hf:∀ l∈fs,DayB l) (he:∀ e∈es,EnAll s e):LetG s fs es ↔ (∀ e∈es,s.RlOk fun x=>(e x).l)∧LetP s fs es:=by
  have key:∀ k,(hk:k < fs.length)→(DyG s (fs.drop k) (es.drop k) ↔ (s.RlOk fun x=>((es[k]'(by omega)) x).l)∧DyP s (fs.drop k) (es.drop k)):=fun k hk=>by
    have d1:fs.drop k=fs[k]::fs.drop (k+1):=List.drop_eq_getElem_cons hk
    have d2:es.drop k=es[k]'(by omega)::es.drop (k+1):=List.drop_eq_getElem_cons (by omega)
    rw [d1,d2]
    exact dyG_iff h (fun l hl=>hf l (List.mem_of_mem_drop (by rw [d1]; exact hl))) (he _ (List.getElem_mem _))
  constructor
  · intro z
    refine ⟨fun e hm=>?_,fun k hk=>((key k hk).mp (z k hk)).2⟩
    obtain ⟨k,hk,rfl⟩:=List.getElem_of_mem hm
    exact ((key k (by omega)).mp (z k (by omega))).1
  · rintro ⟨a,b⟩ k hk
    exact (key k hk).mpr ⟨a _ (List.getElem_mem _),b k hk⟩
theorem lat_end {s:Shp} (h:s.Ok):Lat s s.fin (fun _=>1) s.fin 1 :=
  ⟨Int.one_pos,fun z z1 z2=>⟨Int.one_pos,nb_mono (show (1:Int).natAbs < 2 ^ 1 by decide) (by decide),nb_mono (fin_nb h z z1 z2) (by decide),rfl⟩⟩
theorem e_law_letG {s:Shp} (h:s.Ok) {fs:List (List Int)} {es:List (Int→Ent)} (hl:es.length=fs.length) (h4:fs.length≤4) (hf8:∀ l∈fs,DayOk 8 l) (he:∀ e∈es,EnAll s e) :
    (LetG s fs es∧m_law_let [.d s.d,.d (fD fs),.d (papD s es)]=.ret (.d (.bool true)))∨(¬ LetG s fs es∧m_law_let [.d s.d,.d (fD fs),.d (papD s es)]=.ret (.d (.bool false))):=by
  have hf:∀ l∈fs,DayB l:=fun l hl=>(hf8 l hl).B (by decide)
  have e1:=e_lstocks h
  have hsr:small (rngL (-s.depth) (s.top+1)).length=true:=small_le (by have:=h.td; have:=h.t0; have:=h.d0; rw [rngL_len]; omega)
  have em:mapT (lc2 (gSet 0) q_law_let_1 [.un,.d s.d]) (rngL (-s.depth) (s.top+1))=.ret ((rangeI (-s.depth) s.n).map fun x=>.tuple [.int (s.fin x),.int 1]):=mapT_rng (f:=fun x=>.tuple [.int (s.fin x),.int 1]) fun z z1 z2=>by
    have e:=e_lend h z1 (show z≤s.top by omega)
    simp_arith [q_law_let_1,e]
  have el0:PyData.list ((rangeI (-s.depth) s.n).map fun x=>.tuple [.int (s.fin x),.int 1])=ltD s s.fin fun _=>1:=rfl
  have key:=for_chk (g:=gTupD (gsCons (gSet 4) (gsCons (gSet 5) gsNil))) (s:=l_law_let_3) (r:=.d (.bool false)) (xs:=zipD (fs.map tI).reverse (es.map (dyD s)).reverse) (ρ:=[.d s.d,.d (fD fs),.d (papD s es),.d (ltD s s.fin fun _=>1),.un,.un,.un,.un,.un,.un,.un,.un]) (fun pre _=>¬ DyG s (fs.drop (fs.length - 1 - pre.length)) (es.drop (fs.length - 1 - pre.length))) (fun pre ρ=>∃ (N U:Int→Int) (J4 J5 J6 J7 J8 J9 J10 J11:Sl),ρ=[.d s.d,.d (fD fs),.d (papD s es),.d (ltD s N U),J4,J5,J6,J7,J8,J9,J10,J11]∧Lat s N U (ahP s (fs.drop (fs.length - pre.length)) (es.drop (fs.length - pre.length))) (prd (fs.drop (fs.length - pre.length)))) ⟨s.fin,fun _=>1,.un,.un,.un,.un,.un,.un,.un,.un,rfl,by
      show Lat s _ _ (ahP s (fs.drop fs.length) (es.drop fs.length)) (prd (fs.drop fs.length))
      rw [List.drop_length,← hl,List.drop_length]
      exact lat_end h⟩ (by
    rintro pre z post ρ e ⟨N,U,J4,J5,J6,J7,J8,J9,J10,J11,rfl,hLat⟩
    obtain ⟨a,c,ha,hc,rfl⟩:=zip_mid e
    have hlt:pre.length < fs.length:=by
      have:=(List.getElem?_eq_some_iff.mp ha).1
      rw [List.length_reverse,List.length_map] at this
      exact this
    have hk:fs.length - 1 - pre.length < fs.length:=by omega
    have hk2:fs.length - 1 - pre.length < es.length:=by omega
    have ej:fs.length - 1 - pre.length+1=fs.length - pre.length:=by omega
    have el:∀ z:PyData,(pre++[z]).length=pre.length+1:=fun z=>by simp
    have ej2:fs.length - (pre.length+1)=fs.length - 1 - pre.length:=by omega
    rw [List.getElem?_reverse (by rw [List.length_map]; exact hlt),List.length_map,List.getElem?_map,List.getElem?_eq_getElem hk] at ha
    cases ha
    rw [List.getElem?_reverse (by rw [List.length_map,hl]; exact hlt),List.length_map,hl,List.getElem?_map,List.getElem?_eq_getElem hk2] at hc
    cases hc
    have d1:fs.drop (fs.length - 1 - pre.length)=fs[fs.length - 1 - pre.length]::fs.drop (fs.length - pre.length):=by rw [List.drop_eq_getElem_cons hk,ej]
    have d2:es.drop (fs.length - 1 - pre.length)=es[fs.length - 1 - pre.length]::es.drop (fs.length - pre.length):=by rw [List.drop_eq_getElem_cons hk2,ej]
    have hdd:=hf _ (List.getElem_mem hk)
    have hee:=he _ (List.getElem_mem hk2)
    have hP:nb 100 (prd (fs.drop (fs.length - 1 - pre.length))):=prd_100 (fun l hl=>hf8 l (List.mem_of_mem_drop hl)) (by rw [List.length_drop]; omega)
    rw [d1] at hP
    rw [el,ej2,d1,d2]
    generalize fs[fs.length - 1 - pre.length]=d at *
    generalize fs.drop (fs.length - pre.length)=rest at *
    generalize es[fs.length - 1 - pre.length]=e' at *
    generalize es.drop (fs.length - pre.length)=er at *
    refine ⟨loE s (.d (fD fs)) (.d (papD s es)) (ltD s N U) d (dyD s e') J6 J7 J8 J9 J10 J11,rfl,?_⟩
    rcases gl3 h hdd hLat hee (.d (fD fs)) (.d (papD s es)) J6 J7 J8 J9 J10 J11 with ⟨q,K6,K7,K8,K9,K10,K11,st⟩ | ⟨q,st⟩
    · exact .inr ⟨fun z=>z q,_,st,_,_,_,_,_,_,_,_,_,_,rfl,lat_next hdd hLat.P0 hP hee q⟩
    · exact .inl ⟨q,st⟩)
  have er1:bin2 revD (fD fs) (.int (-1))=.ret (.tuple (fs.map tI).reverse):=rfl
  have er2:bin2 revD (papD s es) (.int (-1))=.ret (.tuple (es.map (dyD s)).reverse):=rfl
  rcases key with ⟨⟨p,z,q,e,hbad⟩,k⟩ | ⟨hno,ρ2,k,N,U,J4,J5,J6,J7,J8,J9,J10,J11,rfl,_⟩
  · obtain ⟨a,c,ha,hc,rfl⟩:=zip_mid e
    have hlt:p.length < fs.length:=by
      have:=(List.getElem?_eq_some_iff.mp ha).1
      rw [List.length_reverse,List.length_map] at this
      exact this
    refine .inr ⟨fun z=>hbad (z _ (by omega)),?_⟩
    simp_arith [m_law_let,e1,hsr,em,el0,er1,er2,k]
  · refine .inl ⟨fun j hj=>?_,?_⟩
    · have hzl:(zipD (fs.map tI).reverse (es.map (dyD s)).reverse).length=fs.length:=by
        unfold zipD
        rw [List.length_map,List.length_zip,List.length_reverse,List.length_reverse,List.length_map,List.length_map,hl,Nat.min_self]
      generalize zipD (fs.map tI).reverse (es.map (dyD s)).reverse=Z at *
      have hlen:fs.length - 1 - j < Z.length:=by omega
      have hsp:Z=Z.take (fs.length - 1 - j)++Z[fs.length - 1 - j]::Z.drop (fs.length - 1 - j+1):=by
        rw [← List.drop_eq_getElem_cons hlen,List.take_append_drop]
      have:=hno _ _ _ hsp
      rw [List.length_take,Nat.min_eq_left (by omega)] at this
      have e:fs.length - 1 - (fs.length - 1 - j)=j:=by omega
      rw [e] at this
      by_cases q:DyG s (fs.drop j) (es.drop j)
      · exact q
      · exact absurd q this
    · simp_arith [m_law_let,e1,hsr,em,el0,er1,er2,k]
theorem e_bothG {s:Shp} (h:s.Ok) {fs:List (List Int)} {es:List (Int→Ent)} (hl:es.length=fs.length) (h4:fs.length≤4) (hf8:∀ l∈fs,DayOk 8 l) (he:∀ e∈es,EnAll s e) :
    ∃ b:Bool,m_lets [.d s.d,.d (fD fs),.d (papD s es)]=.ret (.d (.bool b))∧m_law_let [.d s.d,.d (fD fs),.d (papD s es)]=.ret (.d (.bool b)):=by
  have hf:∀ l∈fs,DayB l:=fun l hl=>(hf8 l hl).B (by decide)
  have hi:=letG_iff h hl hf he
  rcases e_lets h hl (by omega) hf (fun e hm x x1 x2=>(he e hm x x1 x2).sh) with ⟨q,k⟩ | ⟨q,k⟩
  · rcases e_law_letG h hl h4 hf8 he with ⟨q2,k2⟩ | ⟨q2,k2⟩
    · exact ⟨true,k,k2⟩
    · exact absurd (hi.mpr q) q2
  · rcases e_law_letG h hl h4 hf8 he with ⟨q2,k2⟩ | ⟨q2,k2⟩
    · exact absurd (hi.mp q2) q
    · exact ⟨false,k,k2⟩
end My
set_option Elab.async false
set_option linter.all false
set_option maxRecDepth 100000
set_option exponentiation.threshold 9000
namespace My
open PySem PySem.Spec PyProof.Rows L2 Tw
noncomputable def ltE (s:Shp):List (Int→Ent)→PyData
  | e::_=>ltD s (fun x=>(e x).t) fun x=>(e x).b
  | []=>ltD s s.fin fun _=>1
theorem ahG1 {s:Shp} (h:s.Ok) {d:List Int} (hd:DayB d) {eq:List (Int→Ent)} (h6:eq.length≤4) {N U V:Int→Int} {P:Int} {b:Nat} (hlt:ltE s eq=ltD s N U) (hL:Lat s N U V P) (hV:Bd s b V) (hP:nb b P) (hb:b≤1500) (hn:nb 140 (P * d.sum)) :
    ∃ (e:Int→Ent) (V':Int→Int),EnAll s e∧Lat s (fun x=>(e x).t) (fun x=>(e x).b) V' (P * d.sum)∧Bd s (b+300) V'∧∀ F R J5:Sl,∃ K5:Sl,l_law_ahead_1 [.d s.d,F,R,.d (.list (eq.map (dyD s))),.d (tI d),J5]=.ret (.next [.d s.d,F,R,.d (.list ((e::eq).map (dyD s))),.d (tI d),K5]):=by
  have hPd:0 < P * d.sum:=Int.mul_pos hL.P0 hd.pos
  have hbst:∀ x,∃ y,-s.depth≤x→x≤s.top→Bst s d P V x y∧m_law_best [.d s.d,.d (tI d),.d (.int x),.d (ltD s N U)]=.ret (.d (eB s d P V x y).d):=fun x=>by
    by_cases c:-s.depth≤x∧x≤s.top
    · obtain ⟨y,e1,e2⟩:=e_best h hd hL hV hP (by omega) c.1 c.2
      exact ⟨y,fun _ _=>⟨e1,e2⟩⟩
    · exact ⟨0,fun a b=>absurd ⟨a,b⟩ c⟩
  obtain ⟨l,hl⟩:=Classical.axiomOfChoice hbst
  have hlb:Bd s (b+300) fun x=>wv s d P V x (l x):=fun x x1 x2=>by
    have q:=(hl x x1 x2).1
    exact wv_nb h hd hV hP x1 x2 (Int.le_trans x1 q.lo) q.hi
  have hlow:∀ x,-s.depth≤x→x≤s.top→nb 1900 (Gc.lowT (wv s d P V x (l x)) (P * d.sum))∧nb 140 (Gc.lowB (wv s d P V x (l x)) (P * d.sum)):=fun x x1 x2=>low_nb (nb_mono (hlb x x1 x2) (by omega)) hn (Int.ne_of_gt hPd)
  refine ⟨fun x=>eB s d P V x (l x),fun x=>wv s d P V x (l x),fun x x1 x2=>?_,⟨hPd,fun x x1 x2=>?_⟩,hlb,fun F R J5=>⟨.d (ltD s N U),?_⟩⟩
  · have q:=(hl x x1 x2).1
    obtain ⟨m1,m2⟩:=hlow x x1 x2
    exact ⟨low_sh hPd (nb_mono hn (by decide)) _,Int.le_trans x1 q.lo,q.hi,m1,nb_mono m2 (by decide)⟩
  · obtain ⟨k1,k2⟩:=low_key (c:=wv s d P V x (l x)) hPd
    obtain ⟨m1,m2⟩:=hlow x x1 x2
    exact ⟨k2,m2,m1,k1⟩
  · have e1:=e_lstocks h
    have hsr:small (rngL (-s.depth) (s.top+1)).length=true:=small_le (by have:=h.td; have:=h.t0; have:=h.d0; rw [rngL_len]; omega)
    have es:it1 (.list (rngL (-s.depth) (s.top+1)))=.ret (rngL (-s.depth) (s.top+1)):=rfl
    have em:mapT (lc2 (gSet 0) q_law_ahead_1 [.un,.d s.d]) (rngL (-s.depth) (s.top+1))=.ret ((rangeI (-s.depth) s.n).map fun x=>.tuple [.int (s.fin x),.int 1]):=mapT_rng (f:=fun x=>.tuple [.int (s.fin x),.int 1]) fun z z1 z2=>by
      have e:=e_lend h z1 (show z≤s.top by omega)
      simp_arith [q_law_ahead_1,e]
    have eb:mapT (lc2 (gSet 0) q_law_ahead_3 [.un,.d s.d,.d (tI d),.d (ltD s N U)]) (rngL (-s.depth) (s.top+1))=.ret ((rangeI (-s.depth) s.n).map fun x=>(eB s d P V x (l x)).d):=mapT_rng (f:=fun x=>(eB s d P V x (l x)).d) fun z z1 z2=>by
      have e:=(hl z z1 (show z≤s.top by omega)).2
      simp_arith [q_law_ahead_3,e]
    have et:cb1 tupD [.list ((rangeI (-s.depth) s.n).map fun x=>(eB s d P V x (l x)).d)]=.ret (dyD s fun x=>eB s d P V x (l x)):=rfl
    have hs3:small ([dyD s fun x=>eB s d P V x (l x)].length+(eq.map (dyD s)).length)=true:=small_le (by rw [List.length_map]; simp; omega)
    have ne:=ne_days s eq
    cases eq with
    | nil =>
      have el0:PyData.list ((rangeI (-s.depth) s.n).map fun x=>.tuple [.int (s.fin x),.int 1])=ltD s N U:=by rw [← hlt]; rfl
      simp only [List.map_nil,List.map_cons] at ne hs3 ⊢
      simp_arith [l_law_ahead_1,e1,es,hsr,em,el0,ne,List.isEmpty_nil,Bool.not_true,eb,et,ev_addL hs3]
    | cons e' eq =>
      have ei:it1 (dyD s e')=.ret ((rangeI (-s.depth) s.n).map fun x=>(e' x).d):=rfl
      have hs1:small ((rangeI (-s.depth) s.n).map fun x=>(e' x).d).length=true:=small_le (by rw [List.length_map,rangeI_length]; have:=h.td; have:=h.n_eq; omega)
      have em2:mapT (lc2 (gSet 0) q_law_ahead_2 [.un]) ((rangeI (-s.depth) s.n).map fun x=>(e' x).d)=.ret ((rangeI (-s.depth) s.n).map fun x=>.tuple [.int (e' x).t,.int (e' x).b]):=mapT_gen fun x _=>rfl
      have el1:PyData.list ((rangeI (-s.depth) s.n).map fun x=>.tuple [.int (e' x).t,.int (e' x).b])=ltD s N U:=by rw [← hlt]; rfl
      simp only [List.map_cons] at ne hs3 ⊢
      simp_arith [l_law_ahead_1,e1,es,hsr,em,ne,Bool.not_false,ei,hs1,em2,el1,eb,et,ev_addL hs3]
theorem sum_13 {d:List Int} (h:DayOk 8 d):nb 13 d.sum:=by
  have hs:=sum_le h.le
  have hl:=h.len
  exact nb_of (by show -8192 < _; omega) (by show _ < 8192; omega)
theorem e_aheadG {s:Shp} (h:s.Ok) {f1 f2:List (List Int)} {es2:List (Int→Ent)} (hf:∀ l∈f1++f2,DayOk 8 l) (h6:(f1++f2).length≤4) (hl2:es2.length=f2.length) (he2:∀ e∈es2,EnAll s e) {N U V:Int→Int} {P:Int} {b k:Nat} (hlt:ltE s es2=ltD s N U) (hL:Lat s N U V P) (hV:Bd s b V) (hP:nb k P) (hb:b+300 * f1.length≤1500) (hkb:140≤b) (hk:k+13 * f1.length≤140) {rows:PyData} (hrow:cbo1 lstD [rows]=.ret (es2.map (dyD s))) (hlen:cb1 lenD [rows]=.ret (.int f2.length)) :
    ∃ es,es.length=(f1++f2).length∧(∀ e∈es,EnAll s e)∧m_law_ahead [.d s.d,.d (fD (f1++f2)),.d rows]=.ret (.d (papD s es)):=by
  have ez:((f1++f2).length:Int) - (f2.length:Int)=(f1.length:Int):=by rw [List.length_append]; omega
  have ec:sl3 (fD (f1++f2)) none (some (f1.length:Int))=.ret (.tuple (f1.map tI)):=by
    unfold fD
    rw [cut_to _ _ (by rw [List.length_map,List.length_append]; omega),List.map_append,List.take_left' (by rw [List.length_map])]
  have key:Al (m_law_ahead [.d s.d,.d (fD (f1++f2)),.d rows]) 0 fun r=>∃ es,es.length=(f1++f2).length∧(∀ e∈es,EnAll s e)∧r=.d (papD s es):=by
    simp_arith [m_law_ahead,hrow,hlen,len_fD,ez,ec]
    refine al_bind (n:=0) (n':=0) (P:=fun o=>∃ (es:List (Int→Ent)) (J4 J5:Sl),es.length=(f1++f2).length∧(∀ e∈es,EnAll s e)∧o=.next [.d s.d,.d (fD (f1++f2)),.d rows,.d (.list (es.map (dyD s))),J4,J5]) ?_ (by decide) ?_
    · refine al_forQ (n:=0) (fun pre ρ=>∃ (g1 g2:List (List Int)) (es:List (Int→Ent)) (N U V:Int→Int) (P:Int) (J4 J5:Sl),f1=g1++g2∧g2.length=pre.length∧es.length=(g2++f2).length∧(∀ e∈es,EnAll s e)∧ltE s es=ltD s N U∧Lat s N U V P∧Bd s (b+300 * g2.length) V∧nb (k+13 * g2.length) P∧ρ=[.d s.d,.d (fD (f1++f2)),.d rows,.d (.list (es.map (dyD s))),J4,J5]) ⟨f1,[],es2,N,U,V,P,_,_,(List.append_nil _).symm,rfl,hl2,he2,hlt,hL,hV,hP,rfl⟩ (by simp) ?_ ?_
      · rintro pre z post ρ e ⟨g1,g2,es,N,U,V,P,J4,J5,eg,hl,hel,hes,hlt,hL,hV,hP,rfl⟩
        have e':(g2.map tI).reverse++(g1.map tI).reverse=pre++z::post:=by rw [← e,eg,List.map_append,List.reverse_append]
        obtain ⟨i1,i2⟩:=List.append_inj e' (by rw [List.length_reverse,List.length_map]; exact hl)
        rcases List.eq_nil_or_concat g1 with rfl | ⟨g1',d,rfl⟩
        · cases i2
        · rw [List.concat_eq_append,List.map_append,List.reverse_append] at i2
          rw [List.concat_eq_append] at eg
          cases i2
          have eg':f1=g1'++(d::g2):=by rw [eg,List.append_assoc]; rfl
          have hd8:DayOk 8 d:=hf d (by rw [eg']; simp)
          have hfl:f1.length=g1'.length+(g2.length+1):=by rw [eg',List.length_append]; rfl
          have hle:es.length≤4:=by rw [hel]; rw [List.length_append] at h6 ⊢; omega
          have hPs:=nb_mul hP (sum_13 hd8)
          obtain ⟨e1,V',q1,q2,q3,q4⟩:=ahG1 h (d:=d) (hd8.B (by decide)) hle hlt hL hV (nb_mono hP (by omega)) (by omega) (nb_mono hPs (by omega))
          obtain ⟨K5,st⟩:=q4 (.d (fD (f1++f2))) (.d rows) J5
          refine ⟨_,rfl,al_of st ⟨_,rfl,g1',d::g2,e1::es,_,_,V',_,_,_,eg',by rw [List.length_append,List.length_cons,hl]; rfl,by rw [List.length_cons,hel]; rfl,fun e he=>?_,rfl,q2,fun x x1 x2=>nb_mono (q3 x x1 x2) (by rw [List.length_cons]; omega),nb_mono hPs (by rw [List.length_cons]; omega),rfl⟩⟩
          rcases List.mem_cons.mp he with rfl | he
          · exact q1
          · exact hes e he
      · rintro ρ ⟨g1,g2,es,N,U,V,P,J4,J5,eg,hl,hel,hes,hlt,hL,hV,hP,rfl⟩
        rw [List.length_reverse,List.length_map] at hl
        have:g1=[]:=by
          have:=congrArg List.length eg
          rw [List.length_append] at this
          exact List.eq_nil_of_length_eq_zero (by omega)
        subst this
        cases eg
        exact ⟨es,J4,J5,hel,hes,rfl⟩
    · rintro _ ⟨es,J4,J5,hel,hes,rfl⟩
      simp_arith [List.isEmpty_cons]
      exact al_ret ⟨es,hel,hes,rfl⟩
  obtain ⟨r,er,es,q1,q2,rfl⟩:=al_ex key
  exact ⟨es,q1,q2,er⟩
end My
set_option Elab.async false
set_option linter.all false
set_option maxRecDepth 100000
set_option exponentiation.threshold 9000
namespace My
open PySem PySem.Spec PyProof.Rows L2 Tw
@[irreducible] noncomputable def M20:Int:=100000000000000000000
theorem M20_eq:M20=100000000000000000000:=by delta M20; rfl
theorem M20_pos:0 < M20:=by rw [M20_eq]; decide
theorem M20_nb:nb 70 M20:=by rw [M20_eq]; show (100000000000000000000:Int).natAbs < 2 ^ 70; decide
theorem pow20:bin2 powD (.int 10) (.int 20)=.ret (.int M20):=by rw [M20_eq]; rfl
theorem pow25:bin2 powD (.int 10) (.int 25)=.ret (.int 10000000000000000000000000):=rfl
theorem add_low {t b c P u v g:Int} (h:t * P=c * b) (hg:u * P * M20=g * v):(t * v+u * b) * (P * M20)=b * v * (c * M20+g):=by
  have:(t * v+u * b) * (P * M20)=t * P * v * M20+b * (u * P * M20):=by grind
  rw [this,h,hg]
  grind
theorem oc_pick {b P q:Int} (hb:0 < b) (nb':nb 60 b) (hq:P=b * q) (nq:nb 60 q) (nP:nb 60 P) {r:Int} (r0:0≤r) (r1:r < 6) :
    ∃ u v g:Int,atI [PyData.tuple [.int 1,.int 1],.tuple [.int (0 - 1),.int 1],.tuple [.int 1,.int b],.tuple [.int (0 - 1),.int b],.tuple [.int 1,.int M20],.tuple [.int 10000000000000000000000000,.int 1]] r=some (.tuple [.int u,.int v])∧0 < v∧u * P * M20=g * v∧nb 300 g∧nb 100 u∧nb 100 v:=by
  obtain ⟨k,rfl⟩:=Int.eq_ofNat_of_zero_le r0
  have nM:=M20_nb
  have n1:nb 100 (1:Int):=nb_mono (show (1:Int).natAbs < 2 ^ 1 by decide) (by decide)
  have n0:nb 100 ((0:Int) - 1):=nb_mono (show ((0:Int) - 1).natAbs < 2 ^ 1 by decide) (by decide)
  have nT:nb 100 (10000000000000000000000000:Int):=(by show (10000000000000000000000000:Int).natAbs < 2 ^ 100; decide)
  have hk:∀ k:Nat,k < 6→k=0∨k=1∨k=2∨k=3∨k=4∨k=5:=by decide
  rcases hk k (Int.ofNat_lt.mp r1) with rfl | rfl | rfl | rfl | rfl | rfl
  · exact ⟨1,1,1 * P * M20,rfl,by decide,by rw [Int.mul_one],nb_mono (nb_mul (nb_mul n1 nP) nM) (by decide),n1,n1⟩
  · exact ⟨0 - 1,1,(0 - 1) * P * M20,rfl,by decide,by rw [Int.mul_one],nb_mono (nb_mul (nb_mul n0 nP) nM) (by decide),n0,n1⟩
  · exact ⟨1,b,q * M20,rfl,hb,by rw [hq]; grind,nb_mono (nb_mul nq nM) (by decide),n1,nb_mono nb' (by decide)⟩
  · exact ⟨0 - 1,b,(0 - 1) * (q * M20),rfl,hb,by rw [hq]; grind,nb_mono (nb_mul n0 (nb_mul nq nM)) (by decide),n0,nb_mono nb' (by decide)⟩
  · exact ⟨1,M20,P,rfl,M20_pos,by grind,nb_mono nP (by decide),n1,nb_mono nM (by decide)⟩
  · exact ⟨_,1,10000000000000000000000000 * P * M20,rfl,by decide,by rw [Int.mul_one],nb_mono (nb_mul (nb_mul nT nP) nM) (by decide),nT,n1⟩
theorem s_other_cost {t b c P q:Int} (hb:0 < b) (hP:0 < P) (nt:nb 1700 t) (nb':nb 60 b) (h:t * P=c * b) (hq:P=b * q) (nq:nb 60 q) {n:Nat} (hn:230≤n) (nc:nb n c) (nP:nb 60 P) :
    Al (m_law_other_cost [.pen,.d (.tuple [.int t,.int b])]) 1 fun r=>∃ c':Int,r=.d (.tuple [.int (Gc.lowT c' (P * M20)),.int (Gc.lowB c' (P * M20))])∧nb (n+71) c':=by
  have g1:=nb_fit nt (by decide)
  have g2:=nb_fit nb' (by decide)
  simp_arith [m_law_other_cost,ev_drw,pow20,pow25]
  refine al_drw (n:=0) (by decide) (by decide) (by decide) fun r r0 r1=>?_
  obtain ⟨u,v,g,hz,hv,hg,ng,nu,nv⟩:=oc_pick hb nb' hq nq nP r0 r1
  have g3:=nb_fit nu (by decide)
  have g4:=nb_fit nv (by decide)
  have hw:0 < b * v:=Int.mul_pos hb hv
  have e2:=e_lshare (t:=t * v+u * b) hw (nb_mono (nb_mul nb' nv) (by decide))
  obtain ⟨k1,k2⟩:=low_eq (P:=t * v+u * b) (Q:=b * v) (v:=c * M20+g) (B:=P * M20) hw (Int.mul_pos hP M20_pos) (add_low h hg)
  have nM:=M20_nb
  simp_arith [ev_drw,hz,g1,g2,g3,g4,e2]
  refine al_ret ⟨c * M20+g,?_,nb_mono (nb_add (nb_mul nc nM) ng) (by omega)⟩
  unfold shD
  rw [k1,k2]
end My
set_option Elab.async false
set_option linter.all false
set_option maxRecDepth 100000
set_option exponentiation.threshold 9000
namespace My
open PySem PySem.Spec PyProof.Rows L2 Tw
theorem e_with {xs:List PyData} {a:Nat} (ha:a < xs.length) (h9:xs.length≤5000) (v:PyData):m_law_with [.d (.tuple xs),.d (.int a),.d v]=.ret (.d (.tuple (xs.set a v))):=by
  obtain ⟨x,y,z,h1,h2,h3,h4⟩:=put_at ha h9 v
  simp_arith [m_law_with,h1,h2,h3,h4]
theorem ix_tup {xs:List PyData} {i:Nat} (hi:i < xs.length):bin2 ixD (.tuple xs) (.int i)=.ret xs[i]:=by
  rw [ev_ixT,atI_ge (v:=xs[i]) (Int.natCast_nonneg i) (by rw [Int.toNat_natCast]; exact List.getElem?_eq_getElem hi)]
  rfl
theorem s_exch {xs:List PyData} (h1:1≤xs.length) (h9:xs.length≤1000):Al (m_law_exchanged [.pen,.d (.tuple xs)]) 2 fun r=>∃ (i j:Nat) (hi:i < xs.length) (hj:j < xs.length),r=.d (.tuple ((xs.set i xs[j]).set j xs[i])):=by
  have el:cb1 lenD [.tuple xs]=.ret (.int xs.length):=rfl
  simp_arith [m_law_exchanged,ev_drw]
  refine al_drw (n:=1) (by omega) (by omega) (by decide) fun i i0 i1=>?_
  obtain ⟨i,rfl⟩:=Int.eq_ofNat_of_zero_le i0
  try simp_arith [ev_drw]
  refine al_drw (n:=0) (by omega) (by omega) (by decide) fun j j0 j1=>?_
  obtain ⟨j,rfl⟩:=Int.eq_ofNat_of_zero_le j0
  have hi:i < xs.length:=Int.ofNat_lt.mp i1
  have hj:j < xs.length:=Int.ofNat_lt.mp j1
  have e1:=ix_tup hi
  have e2:=ix_tup hj
  rw [ev_ixT] at e1 e2
  have w1:=e_with hi (by omega) xs[j]
  have w2:=e_with (xs:=xs.set i xs[j]) (a:=j) (by rw [List.length_set]; exact hj) (by rw [List.length_set]; omega) xs[i]
  simp_arith [ev_drw,e1,e2,w1,w2]
  exact al_ret ⟨i,j,hi,hj,rfl⟩
theorem s_exch_pap {s:Shp} {es:List (Int→Ent)} (h1:1≤es.length) (h9:es.length≤100) (he:∀ e∈es,EnAll s e):Al (m_law_exchanged [.pen,.d (papD s es)]) 2 fun r=>∃ es',es'.length=es.length∧(∀ e∈es',EnAll s e)∧r=.d (papD s es'):=by
  refine al_mono (s_exch (xs:=es.map (dyD s)) (by rw [List.length_map]; exact h1) (by rw [List.length_map]; omega)) (Nat.le_refl _) ?_
  rintro _ ⟨i,j,hi,hj,rfl⟩
  rw [List.length_map] at hi hj
  refine ⟨(es.set i es[j]).set j es[i],by rw [List.length_set,List.length_set],fun e hm=>?_,?_⟩
  · rcases List.mem_or_eq_of_mem_set hm with q | q
    · rcases List.mem_or_eq_of_mem_set q with q | q
      · exact he e q
      · subst q; exact he _ (List.getElem_mem _)
    · subst q; exact he _ (List.getElem_mem _)
  · unfold papD
    rw [List.map_set,List.map_set,List.getElem_map,List.getElem_map]
theorem en_up {s:Shp} {e:Int→Ent} (he:EnAll s e) {n:Ent} (hn:EnOk s n) (x0:Int):EnAll s (upd e x0 n):=fun x x1 x2=>by
  unfold upd
  by_cases c:x=x0
  · rw [if_pos c]; exact hn
  · rw [if_neg c]; exact he x x1 x2
theorem s_exch_day {s:Shp} (h:s.Ok) {e:Int→Ent} (he:EnAll s e):Al (m_law_exchanged [.pen,.d (dyD s e)]) 2 fun r=>∃ e',EnAll s e'∧r=.d (dyD s e'):=by
  have t0:=h.t0
  have d0:=h.d0
  have td:=h.td
  have nq:=h.n_eq
  have hlen:((rangeI (-s.depth) s.n).map fun x=>(e x).d).length=s.n:=by rw [List.length_map,rangeI_length]
  refine al_mono (s_exch (xs:=(rangeI (-s.depth) s.n).map fun x=>(e x).d) (by rw [hlen]; omega) (by rw [hlen]; omega)) (Nat.le_refl _) ?_
  rintro _ ⟨i,j,hi,hj,rfl⟩
  rw [hlen] at hi hj
  have g:∀ k:Nat,(hk:k < s.n)→((rangeI (-s.depth) s.n).map fun x=>(e x).d)[k]'(by rw [hlen]; exact hk)=(e (-s.depth+k)).d:=fun k hk=>by
    unfold rangeI
    simp
  have hx:∀ k:Nat,k < s.n→EnOk s (e (-s.depth+k)):=fun k hk=>he _ (by omega) (by omega)
  refine ⟨upd (upd e (-s.depth+i) (e (-s.depth+j))) (-s.depth+j) (e (-s.depth+i)),en_up (en_up he (hx j hj) _) (hx i hi) _,?_⟩
  rw [g i hi,g j hj]
  have a1:=dy_upd (s:=s) (e:=e) hi (e (-s.depth+j))
  have a2:=dy_upd (s:=s) (e:=upd e (-s.depth+i) (e (-s.depth+j))) hj (e (-s.depth+i))
  rw [← a2]
  have a3:((rangeI (-s.depth) s.n).map fun x=>(e x).d).set i (e (-s.depth+j)).d=(rangeI (-s.depth) s.n).map fun x=>(upd e (-s.depth+i) (e (-s.depth+j)) x).d:=by
    injection a1
  rw [a3]
end My
set_option Elab.async false
set_option linter.all false
set_option maxRecDepth 100000
set_option exponentiation.threshold 9000
namespace My
open PySem PySem.Spec PyProof.Rows L2 Tw
theorem PkOk.drop {s:Shp}:∀ {fs:List (List Int)} {ps:Pap} (k:Nat),PkOk s fs ps→PkOk s (fs.drop k) (ps.drop k):=by
  intro fs
  induction fs with
  | nil =>
    intro ps k h
    have hl:=h.len
    cases ps with
    | nil=>rw [List.drop_nil,List.drop_nil]; exact h
    | cons p ps=>cases hl
  | cons d fs ih =>
    intro ps k h
    have hl:=h.len
    cases ps with
    | nil=>cases hl
    | cons p ps =>
      cases k with
      | zero=>exact h
      | succ k=>exact ih k ⟨Nat.succ.inj hl,fun q hq=>h.rl q (List.mem_cons_of_mem _ hq),h.sml.2,h.bdp.2⟩
theorem pap_at {s:Shp} {fs:List (List Int)} {ps:Pap} {t:Nat} {d:List Int} {rest:List (List Int)} {p:(Int→Int)×(Int→Int)} {pr:Pap} (h1:fs.drop t=d::rest) (h2:ps.drop t=p::pr):bin2 ixD (papD s (ents fs ps)) (.int t)=.ret (dyD s (en (prd rest * d.sum) p)):=by
  unfold papD
  rw [ev_ixT,atI_ge (v:=dyD s (en (prd rest * d.sum) p)) (Int.natCast_nonneg t) (by rw [Int.toNat_natCast,List.getElem?_map,ents_at h1 h2]; rfl)]
  rfl
theorem dy_at {s:Shp} {e:Int→Ent} {a:Nat} (ha:a < s.n):bin2 ixD (dyD s e) (.int a)=.ret (e (-s.depth+a)).d:=by
  unfold dyD
  rw [ev_ixT,atI_ge (v:=(e (-s.depth+a)).d) (Int.natCast_nonneg a) (by
    unfold rangeI
    rw [Int.toNat_natCast,List.map_map,List.getElem?_map,List.getElem?_range ha]
    rfl)]
  rfl
theorem ents_mem {s:Shp}:∀ {fs:List (List Int)} {ps:Pap},(∀ l∈fs,DayOk 8 l)→fs.length≤4→PkOk s fs ps→∀ e∈ents fs ps,∃ P p,e=en P p∧0 < P∧nb 100 P∧s.RlOk p.2∧Sml s P p.1:=by
  intro fs
  induction fs with
  | nil=>intro ps _ _ hk e he; have:ents [] ps=[]:=(by cases ps <;> rfl); rw [this] at he; cases he
  | cons d fs ih =>
    intro ps hf hl hk e he
    have hpl:=hk.len
    cases ps with
    | nil=>cases hpl
    | cons p ps =>
      rcases List.mem_cons.mp he with rfl | he
      · refine ⟨_,p,rfl,?_,prd_100 hf hl,hk.rl p (by simp),hk.sml.1⟩
        rw [prd_bk s]
        exact bk_sc fun l hl=>(hf l hl).B (by decide)
      · rw [List.length_cons] at hl
        exact ih (fun l hl=>hf l (List.mem_cons_of_mem _ hl)) (by omega) ⟨Nat.succ.inj hpl,fun q hq=>hk.rl q (List.mem_cons_of_mem _ hq),hk.sml.2,hk.bdp.2⟩ e he
theorem ents_en {s:Shp} (h:s.Ok) {fs:List (List Int)} (hf:∀ l∈fs,DayOk 8 l) (hl:fs.length≤4) {ps:Pap} (hk:PkOk s fs ps):∀ e∈ents fs ps,EnAll s e:=fun e he x x1 x2=>by
  obtain ⟨P,p,rfl,q1,q2,q3,q4⟩:=ents_mem hf hl hk e he
  exact ⟨low_sh q1 (nb_mono q2 (by decide)) _,Int.le_trans x1 (q3 x x1 x2).1,(q3 x x1 x2).2,(q4 x x1 x2).1,nb_mono (q4 x x1 x2).2 (by decide)⟩
theorem best_day {s:Shp} (h:s.Ok) {d:List Int} (hd:DayB d) {N U V:Int→Int} {P:Int} {b:Nat} (hL:Lat s N U V P) (hV:Bd s b V) (hP:nb b P) (hb:b≤1500) (hn:nb 140 (P * d.sum)) :
    ∃ e:Int→Ent,EnAll s e∧∀ x,-s.depth≤x→x≤s.top→m_law_best [.d s.d,.d (tI d),.d (.int x),.d (ltD s N U)]=.ret (.d (e x).d):=by
  have hPd:0 < P * d.sum:=Int.mul_pos hL.P0 hd.pos
  have hbst:∀ x,∃ y,-s.depth≤x→x≤s.top→Bst s d P V x y∧m_law_best [.d s.d,.d (tI d),.d (.int x),.d (ltD s N U)]=.ret (.d (eB s d P V x y).d):=fun x=>by
    by_cases c:-s.depth≤x∧x≤s.top
    · obtain ⟨y,e1,e2⟩:=e_best h hd hL hV hP (by omega) c.1 c.2
      exact ⟨y,fun _ _=>⟨e1,e2⟩⟩
    · exact ⟨0,fun a b=>absurd ⟨a,b⟩ c⟩
  obtain ⟨l,hl⟩:=Classical.axiomOfChoice hbst
  refine ⟨fun x=>eB s d P V x (l x),fun x x1 x2=>?_,fun x x1 x2=>(hl x x1 x2).2⟩
  have q:=(hl x x1 x2).1
  obtain ⟨m1,m2⟩:=low_nb (nb_mono (wv_nb h hd hV hP x1 x2 (Int.le_trans x1 q.lo) q.hi) (show b+300≤1900 by omega)) hn (Int.ne_of_gt hPd)
  exact ⟨low_sh hPd (nb_mono hn (by decide)) _,Int.le_trans x1 q.lo,q.hi,m1,nb_mono m2 (by decide)⟩
theorem pap_len {s:Shp} {es:List (Int→Ent)}:cb1 lenD [papD s es]=.ret (.int es.length):=by
  show Tr.ret (PyData.int ((es.map (dyD s)).length:Int))=_
  rw [List.length_map]
theorem fD_at {fs:List (List Int)} {t:Nat} (ht:t < fs.length):bin2 ixD (fD fs) (.int t)=.ret (tI fs[t]):=by
  unfold fD
  rw [ev_ixT,atI_ge (v:=tI fs[t]) (Int.natCast_nonneg t) (by rw [Int.toNat_natCast,List.getElem?_map,List.getElem?_eq_getElem ht]; rfl)]
  rfl
theorem with_day {s:Shp} {es:List (Int→Ent)} {t:Nat} (ht:t < es.length) (h9:es.length≤100) (e:Int→Ent):m_law_with [.d (papD s es),.d (.int t),.d (dyD s e)]=.ret (.d (papD s (es.set t e))):=by
  have e0:=e_with (xs:=es.map (dyD s)) (a:=t) (by rw [List.length_map]; exact ht) (by rw [List.length_map]; omega) (dyD s e)
  rw [pap_set] at e0
  exact e0
theorem set_en {s:Shp} {es:List (Int→Ent)} (he:∀ e∈es,EnAll s e) {e:Int→Ent} (h:EnAll s e) (t:Nat):∀ g∈es.set t e,EnAll s g:=fun g hg=>by
  rcases List.mem_or_eq_of_mem_set hg with q | q
  · exact he g q
  · subst q; exact h
theorem s_mixed {s:Shp} (h:s.Ok) {fs:List (List Int)} (hf8:∀ l∈fs,DayOk 8 l) (h1:1≤fs.length) (hl:fs.length≤4) {ps:Pap} (hk:PkOk s fs ps) :
    Al (m_law_mixed [.pen,.d s.d,.d (fD fs),.d (papD s (ents fs ps))]) 5 fun r=>∃ es,es.length=fs.length∧(∀ e∈es,EnAll s e)∧r=.d (papD s es):=by
  have hpl:=hk.len
  have hel:=ents_len hpl
  have hen:=ents_en h hf8 hl hk
  simp_arith [m_law_mixed,ev_drw,pap_len,hel]
  refine al_drw (n:=4) (by omega) (by omega) (by decide) fun t t0 t1=>?_
  obtain ⟨t,rfl⟩:=Int.eq_ofNat_of_zero_le t0
  have ht:t < fs.length:=Int.ofNat_lt.mp t1
  try simp_arith [ev_drw]
  refine al_drw (n:=3) (by decide) (by decide) (by decide) fun v v0 v1=>?_
  have d1:fs.drop t=fs[t]::fs.drop (t+1):=List.drop_eq_getElem_cons ht
  have d2:ps.drop t=ps[t]'(by omega)::ps.drop (t+1):=List.drop_eq_getElem_cons (by omega)
  have i1:=pap_at (s:=s) d1 d2
  have i1m:en (prd (fs.drop (t+1)) * fs[t].sum) (ps[t]'(by omega))∈ents fs ps:=List.mem_of_getElem? (ents_at d1 d2)
  by_cases c0:v=0
  · subst c0
    have b0:((0:Int) == 0)=true:=by decide
    simp_arith [ev_drw,b0]
    refine al_bind (n:=2) (n':=0) (s_exch_pap (by omega) (by omega) hen) (by decide) ?_
    rintro _ ⟨es',q1,q2,rfl⟩
    try simp_arith [ev_drw]
    exact al_ret ⟨es',by omega,q2,rfl⟩
  · have b0:(v == 0)=false:=beq_eq_false_iff_ne.mpr c0
    by_cases c1:v=1
    · subst c1
      have b1:((1:Int) == 1)=true:=by decide
      simp_arith [ev_drw,b0,b1,i1]
      refine al_bind (n:=2) (n':=0) (s_exch_day h (hen _ i1m)) (by decide) ?_
      rintro _ ⟨e',q,rfl⟩
      have w:=with_day (s:=s) (es:=ents fs ps) (t:=t) (by omega) (by omega) e'
      simp_arith [ev_drw,w]
      exact al_ret ⟨_,by rw [List.length_set]; exact hel,set_en hen q t,rfl⟩
    · have b1:(v == 1)=false:=beq_eq_false_iff_ne.mpr c1
      simp_arith [ev_drw,b0,b1,pap_len,hel]
      refine al_drw (n:=2) (by omega) (by omega) (by decide) fun j j0 j1=>?_
      obtain ⟨j,rfl⟩:=Int.eq_ofNat_of_zero_le j0
      have hj:j < fs.length:=Int.ofNat_lt.mp j1
      have j1':fs.drop j=fs[j]::fs.drop (j+1):=List.drop_eq_getElem_cons hj
      have j2':ps.drop j=ps[j]'(by omega)::ps.drop (j+1):=List.drop_eq_getElem_cons (by omega)
      have ij:=pap_at (s:=s) j1' j2'
      have hkj:=hk.drop j
      have hfj:∀ l∈fs.drop j,DayOk 8 l:=fun l hl=>hf8 l (List.mem_of_mem_drop hl)
      have hlj:(fs.drop j).length≤4:=by rw [List.length_drop]; omega
      have hPj:nb 100 (prd (fs.drop j)):=prd_100 hfj hlj
      have hVj:=hkj.bd h
      obtain ⟨N,U,eN,hL⟩:=lat_p h (fun l hl=>(hfj l hl).B (by decide)) hkj.len hkj.sml
      have hdt:DayOk 8 fs[t]:=hf8 _ (List.getElem_mem ht)
      obtain ⟨e',q1,q2⟩:=best_day h (hdt.B (by decide)) (b:=1300) hL (fun x x1 x2=>nb_mono (hVj x x1 x2) (by omega)) (nb_mono hPj (by decide)) (by decide) (nb_mono (nb_mul hPj (sum_13 hdt)) (by decide))
      have ei:it1 (dyD s (en (prd (fs.drop (j+1)) * fs[j].sum) (ps[j]'(by omega))))=.ret ((rangeI (-s.depth) s.n).map fun x=>(en (prd (fs.drop (j+1)) * fs[j].sum) (ps[j]'(by omega)) x).d):=rfl
      have hs1:small ((rangeI (-s.depth) s.n).map fun x=>(en (prd (fs.drop (j+1)) * fs[j].sum) (ps[j]'(by omega)) x).d).length=true:=small_le (by rw [List.length_map,rangeI_length]; have:=h.td; have:=h.n_eq; omega)
      have em2:mapT (lc2 (gTupD (gsCons (gSet 0) (gsCons (gSet 1) gsNil))) q_law_mixed_1 [.un,.un]) ((rangeI (-s.depth) s.n).map fun x=>(en (prd (fs.drop (j+1)) * fs[j].sum) (ps[j]'(by omega)) x).d)=.ret ((rangeI (-s.depth) s.n).map fun x=>.tuple [.int (sT (prd (fs.drop (j+1)) * fs[j].sum) (ps[j]'(by omega)).1 x),.int (sB (prd (fs.drop (j+1)) * fs[j].sum) (ps[j]'(by omega)).1 x)]):=mapT_gen fun x _=>rfl
      have el1:PyData.list ((rangeI (-s.depth) s.n).map fun x=>.tuple [.int (sT (prd (fs.drop (j+1)) * fs[j].sum) (ps[j]'(by omega)).1 x),.int (sB (prd (fs.drop (j+1)) * fs[j].sum) (ps[j]'(by omega)).1 x)])=ltD s N U:=by rw [← eN,j1',j2']; rfl
      have e1:=e_lstocks h
      have hsr:small (rngL (-s.depth) (s.top+1)).length=true:=small_le (by have:=h.td; have:=h.t0; have:=h.d0; rw [rngL_len]; omega)
      have es':it1 (.list (rngL (-s.depth) (s.top+1)))=.ret (rngL (-s.depth) (s.top+1)):=rfl
      have ft:=fD_at ht
      have eb:mapT (lc2 (gSet 0) q_law_mixed_2 [.un,.d s.d,.d (ltD s N U),.d (fD fs),.d (.int t)]) (rngL (-s.depth) (s.top+1))=.ret ((rangeI (-s.depth) s.n).map fun x=>(e' x).d):=mapT_rng (f:=fun x=>(e' x).d) fun z z1 z2=>by
        have e:=q2 z z1 (show z≤s.top by omega)
        simp_arith [q_law_mixed_2,ft,e]
      have et:PyData.tuple ((rangeI (-s.depth) s.n).map fun x=>(e' x).d)=dyD s e':=rfl
      have w:=with_day (s:=s) (es:=ents fs ps) (t:=t) (by omega) (by omega) e'
      simp_arith [ev_drw,ij,ei,hs1,em2,el1,e1,es',hsr,eb,et,w]
      exact al_ret ⟨_,by rw [List.length_set]; exact hel,set_en hen q1 t,rfl⟩
end My
set_option Elab.async false
set_option linter.all false
set_option maxRecDepth 100000
set_option exponentiation.threshold 9000
namespace My
open PySem PySem.Spec PyProof.Rows L2 Tw
theorem ah_at {s:Shp} (h:s.Ok) {fs:List (List Int)} (hf8:∀ l∈fs,DayOk 8 l) (hl:fs.length≤4) {ps:Pap} (hk:PkOk s fs ps) {t:Nat} (ht:t < fs.length) {e:Int→Ent} (he:EnAll s e) {V:Int→Int} {P:Int} (hL:Lat s (fun x=>(e x).t) (fun x=>(e x).b) V P) {b k:Nat} (hV:Bd s b V) (hP:nb k P) (hb:b+300 * t≤1500) (hkb:140≤b) (hkk:k+13 * t≤140) :
    ∃ es,es.length=fs.length∧(∀ g∈es,EnAll s g)∧∃ z y,sl3 (papD s (ents fs ps)) (some ((t:Int)+1)) none=.ret z∧bin2 addD (.tuple [dyD s e]) z=.ret y∧m_law_ahead [.d s.d,.d (fD fs),.d y]=.ret (.d (papD s es)):=by
  have hpl:=hk.len
  have d1:fs.drop t=fs[t]::fs.drop (t+1):=List.drop_eq_getElem_cons ht
  have hel:=ents_len hpl
  have hen:=ents_en h hf8 hl hk
  have ec:sl3 (papD s (ents fs ps)) (some ((t:Int)+1)) none=.ret (.tuple (((ents fs ps).drop (t+1)).map (dyD s))):=by
    unfold papD
    have e:(t:Int)+1=((t+1:Nat):Int):=rfl
    rw [e,cut_from,← List.map_drop]
  have ea:bin2 addD (.tuple [dyD s e]) (.tuple (((ents fs ps).drop (t+1)).map (dyD s)))=.ret (.tuple ((e::(ents fs ps).drop (t+1)).map (dyD s))):=ev_addT (by simp) (small_le (by rw [List.length_map,List.length_drop,hel]; simp; omega))
  have ef:fs.take t++fs.drop t=fs:=List.take_append_drop t fs
  have etl:(fs.take t).length=t:=by rw [List.length_take]; omega
  obtain ⟨es,u1,u2,u3⟩:=e_aheadG h (f1:=fs.take t) (f2:=fs.drop t) (es2:=e::(ents fs ps).drop (t+1)) (by rw [ef]; exact hf8) (by rw [ef]; exact hl) (by rw [List.length_cons,List.length_drop,List.length_drop,hel]; omega) (fun g hg=>by
    rcases List.mem_cons.mp hg with rfl | hg
    · exact he
    · exact hen g (List.mem_of_mem_drop hg)) rfl hL hV hP (by rw [etl]; exact hb) hkb (by rw [etl]; exact hkk) (rows:=.tuple ((e::(ents fs ps).drop (t+1)).map (dyD s))) rfl (by
    show Tr.ret (PyData.int (((e::(ents fs ps).drop (t+1)).map (dyD s)).length:Int))=_
    rw [List.length_map,List.length_cons,List.length_drop,List.length_drop,hel]
    congr 3
    omega)
  rw [ef] at u1 u3
  exact ⟨es,u1,u2,_,_,ec,ea,u3⟩
end My
set_option Elab.async false
set_option linter.all false
set_option maxRecDepth 100000
set_option exponentiation.threshold 9000
namespace My
open PySem PySem.Spec PyProof.Rows L2 Tw
theorem cop_add {t b:Int} (m:Int) (h:Nat.gcd t.natAbs b.natAbs=1):Nat.gcd (t+m * b).natAbs b.natAbs=1:=by
  obtain ⟨u,hu⟩:((Nat.gcd (t+m * b).natAbs b.natAbs:Nat):Int) ∣ b:=Int.natAbs_dvd_natAbs.mp (by rw [Int.natAbs_natCast]; exact Nat.gcd_dvd_right _ _)
  obtain ⟨v,hv⟩:((Nat.gcd (t+m * b).natAbs b.natAbs:Nat):Int) ∣ t+m * b:=Int.natAbs_dvd_natAbs.mp (by rw [Int.natAbs_natCast]; exact Nat.gcd_dvd_left _ _)
  have d:Nat.gcd (t+m * b).natAbs b.natAbs ∣ Nat.gcd t.natAbs b.natAbs:=by
    generalize Nat.gcd (t+m * b).natAbs b.natAbs=g at *
    have e:m * b=m * ((g:Int) * u):=by rw [← hu]
    have k1:=Int.natAbs_dvd_natAbs.mpr (show (g:Int) ∣ t from ⟨v - m * u,by grind⟩)
    have k2:=Int.natAbs_dvd_natAbs.mpr (show (g:Int) ∣ b from ⟨u,hu⟩)
    rw [Int.natAbs_natCast] at k1 k2
    exact Nat.dvd_gcd k1 k2
  rw [h] at d
  exact Nat.dvd_one.mp d
noncomputable def bnE (P:Int) (p:(Int→Int)×(Int→Int)) (x0 c':Int):Int→Ent:=upd (en P p) x0 ⟨Gc.lowT c' (P * M20),Gc.lowB c' (P * M20),p.2 x0⟩
theorem bn_lat {s:Shp} {P:Int} (hP:0 < P) (nP:nb 60 P) {p:(Int→Int)×(Int→Int)} {n:Nat} (hn:n≤1700) (hb:Bd s n p.1) (hr:s.RlOk p.2) {x0 c':Int} (x1:-s.depth≤x0) (x2:x0≤s.top) (nc:nb (n+71) c') :
    EnAll s (bnE P p x0 c')∧Lat s (fun x=>(bnE P p x0 c' x).t) (fun x=>(bnE P p x0 c' x).b) (fun x=>if x=x0 then c' else p.1 x * M20) (P * M20)∧Bd s (n+71) (fun x=>if x=x0 then c' else p.1 x * M20):=by
  have hQ:0 < P * M20:=Int.mul_pos hP M20_pos
  have nQ:nb 130 (P * M20):=nb_mul nP M20_nb
  have q1:=low_nb nc nQ (Int.ne_of_gt hQ)
  have q2:=low_key (c:=c') hQ
  refine ⟨fun x y1 y2=>?_,⟨hQ,fun x y1 y2=>?_⟩,fun x y1 y2=>?_⟩
  · unfold bnE upd
    by_cases e:x=x0
    · rw [if_pos e]
      exact ⟨low_sh hQ (nb_mono nQ (by decide)) _,Int.le_trans x1 (hr x0 x1 x2).1,(hr x0 x1 x2).2,nb_mono q1.1 (by omega),nb_mono q1.2 (by decide)⟩
    · rw [if_neg e]
      have k1:=low_nb (hb x y1 y2) nP (Int.ne_of_gt hP)
      exact ⟨low_sh hP (nb_mono nP (by decide)) _,Int.le_trans y1 (hr x y1 y2).1,(hr x y1 y2).2,nb_mono k1.1 (by omega),nb_mono k1.2 (by decide)⟩
  · unfold bnE upd
    by_cases e:x=x0
    · simp only [if_pos e]
      exact ⟨q2.2,nb_mono q1.2 (by decide),nb_mono q1.1 (by omega),q2.1⟩
    · simp only [if_neg e]
      have k1:=low_nb (hb x y1 y2) nP (Int.ne_of_gt hP)
      have k2:=low_key (c:=p.1 x) hP
      refine ⟨k2.2,nb_mono k1.2 (by decide),nb_mono k1.1 (by omega),?_⟩
      show Gc.lowT (p.1 x) P * (P * M20)=p.1 x * M20 * Gc.lowB (p.1 x) P
      rw [← Int.mul_assoc,k2.1]
      grind
  · show nb _ (if x=x0 then c' else p.1 x * M20)
    by_cases e:x=x0
    · rw [if_pos e]; exact nc
    · rw [if_neg e]; exact nb_mono (nb_mul (hb x y1 y2) M20_nb) (by omega)
noncomputable def moE (P:Int) (p:(Int→Int)×(Int→Int)) (m:Int):Int→Ent:=fun x=>⟨Gc.lowT (p.1 x) P+m * Gc.lowB (p.1 x) P,Gc.lowB (p.1 x) P,p.2 x⟩
theorem mo_lat {s:Shp} {P:Int} (hP:0 < P) (nP:nb 60 P) {p:(Int→Int)×(Int→Int)} {n:Nat} (hn:n≤1700) (h9:70≤n) (hb:Bd s n p.1) (hr:s.RlOk p.2) {m:Int} (nm:nb 5 m) :
    EnAll s (moE P p m)∧Lat s (fun x=>(moE P p m x).t) (fun x=>(moE P p m x).b) (fun x=>p.1 x+m * P) P∧Bd s (n+71) (fun x=>p.1 x+m * P):=by
  refine ⟨fun x y1 y2=>?_,⟨hP,fun x y1 y2=>?_⟩,fun x y1 y2=>?_⟩
  · have k1:=low_nb (hb x y1 y2) nP (Int.ne_of_gt hP)
    have k3:=low_sh (c:=p.1 x) hP (nb_mono nP (by decide)) (p.2 x)
    exact ⟨⟨k3.pos,cop_add m k3.one,k3.nb⟩,Int.le_trans y1 (hr x y1 y2).1,(hr x y1 y2).2,nb_mono (nb_add k1.1 (nb_mul nm k1.2)) (by omega),nb_mono k1.2 (by decide)⟩
  · have k1:=low_nb (hb x y1 y2) nP (Int.ne_of_gt hP)
    have k2:=low_key (c:=p.1 x) hP
    refine ⟨k2.2,nb_mono k1.2 (by decide),nb_mono (nb_add k1.1 (nb_mul nm k1.2)) (by omega),?_⟩
    show (Gc.lowT (p.1 x) P+m * Gc.lowB (p.1 x) P) * P=(p.1 x+m * P) * Gc.lowB (p.1 x) P
    rw [Int.add_mul,k2.1]
    grind
  · exact nb_mono (nb_add (hb x y1 y2) (nb_mul nm nP)) (by omega)
theorem en_d {P:Int} {p:(Int→Int)×(Int→Int)} {x:Int}:(en P p x).d=.tuple [.tuple [.int (Gc.lowT (p.1 x) P),.int (Gc.lowB (p.1 x) P)],.int (p.2 x)]:=rfl
theorem dy_len {s:Shp} (e:Int→Ent):cb1 lenD [dyD s e]=.ret (.int s.n):=by
  show Tr.ret (PyData.int (((rangeI (-s.depth) s.n).map fun x=>(e x).d).length:Int))=_
  rw [List.length_map,rangeI_length]
theorem dy_with {s:Shp} (h:s.Ok) {e:Int→Ent} {a:Nat} (ha:a < s.n) (n:Ent):m_law_with [.d (dyD s e),.d (.int a),.d n.d]=.ret (.d (dyD s (upd e (-s.depth+a) n))):=by
  have t0:=h.t0
  have d0:=h.d0
  have td:=h.td
  have nq:=h.n_eq
  have e0:=e_with (xs:=(rangeI (-s.depth) s.n).map fun x=>(e x).d) (a:=a) (by rw [List.length_map,rangeI_length]; exact ha) (by rw [List.length_map,rangeI_length]; omega) n.d
  rw [dy_upd ha] at e0
  exact e0
end My
set_option Elab.async false
set_option linter.all false
set_option maxRecDepth 100000
set_option exponentiation.threshold 9000
namespace My
open PySem PySem.Spec PyProof.Rows L2 Tw
theorem s_bent {s:Shp} (h:s.Ok) {fs:List (List Int)} (hf8:∀ l∈fs,DayOk 8 l) (h1:1≤fs.length) (hl:fs.length≤4) {ps:Pap} (hk:PkOk s fs ps) :
    Al (m_law_bent [.pen,.d s.d,.d (fD fs),.d (papD s (ents fs ps))]) 12 fun r=>∃ es,es.length=fs.length∧(∀ e∈es,EnAll s e)∧r=.d (papD s es):=by
  have t0:=h.t0
  have d0:=h.d0
  have td:=h.td
  have nq:=h.n_eq
  have hpl:=hk.len
  have hel:=ents_len hpl
  have hen:=ents_en h hf8 hl hk
  simp_arith [m_law_bent,ev_drw,pap_len,hel]
  refine al_drw (n:=11) (by decide) (by decide) (by decide) fun v v0 v1=>?_
  try simp_arith [ev_drw,pap_len,hel]
  refine al_drw (n:=10) (by omega) (by omega) (by decide) fun t t0' t1=>?_
  obtain ⟨t,rfl⟩:=Int.eq_ofNat_of_zero_le t0'
  have ht:t < fs.length:=Int.ofNat_lt.mp t1
  have d1:fs.drop t=fs[t]::fs.drop (t+1):=List.drop_eq_getElem_cons ht
  have d2:ps.drop t=ps[t]'(by omega)::ps.drop (t+1):=List.drop_eq_getElem_cons (by omega)
  have i1:=pap_at (s:=s) d1 d2
  have hkt:=hk.drop t
  rw [d1,d2] at hkt
  have hft:∀ l∈fs.drop t,DayOk 8 l:=fun l hl=>hf8 l (List.mem_of_mem_drop hl)
  have nP:=prd_13 hft
  have hP:0 < prd (fs.drop t):=by rw [prd_bk s]; exact bk_sc fun l hl=>(hft l hl).B (by decide)
  have hbd:=hkt.bdp.1
  have hrl:=hkt.rl _ (List.mem_cons_self ..)
  have ehl:(fs.drop (t+1)).length+1=fs.length - t:=by rw [List.length_drop]; omega
  rw [List.length_drop] at nP
  rw [ehl] at hbd
  have eP:prd (fs.drop t)=prd (fs.drop (t+1)) * fs[t].sum:=by rw [d1]; rfl
  rw [← eP] at i1
  generalize prd (fs.drop t)=P at *
  generalize ps[t]'(by omega)=p at *
  clear eP hkt d1 d2
  have nP6:nb 60 P:=nb_mono nP (by omega)
  simp_arith [ev_drw,i1,dy_len]
  refine al_drw (n:=9) (by omega) (by omega) (by decide) fun a a0 a1=>?_
  obtain ⟨a,rfl⟩:=Int.eq_ofNat_of_zero_le a0
  have ha:a < s.n:=Int.ofNat_lt.mp a1
  have x1:-s.depth≤-s.depth+(a:Int):=by omega
  have x2:-s.depth+(a:Int)≤s.top:=by omega
  have i2:=dy_at (s:=s) (e:=en P p) ha
  rw [en_d] at i2
  have k1:=low_nb (hbd _ x1 x2) nP6 (Int.ne_of_gt hP)
  have k2:=low_key (c:=p.1 (-s.depth+a)) hP
  have hq:P=Gc.lowB (p.1 (-s.depth+a)) P * Gc.den (p.1 (-s.depth+a)) P:=by
    rw [Int.mul_comm]
    exact (Gc.low_spec (Int.ne_of_gt hP)).2.1
  have so:=s_other_cost k2.2 hP (nb_mono k1.1 (by omega)) k1.2 k2.1 hq (den_nb nP6 (Int.ne_of_gt hP)) (n:=100+300 * (fs.length - t)) (by omega) (hbd _ x1 x2) nP6
  simp_arith [ev_drw,i1,i2]
  refine al_bind (n:=1) (n':=8) so (by decide) ?_
  rintro _ ⟨c',rfl,nc⟩
  have w1:=dy_with h (e:=en P p) ha ⟨Gc.lowT c' (P * M20),Gc.lowB c' (P * M20),p.2 (-s.depth+a)⟩
  have ew:dyD s (upd (en P p) (-s.depth+a) ⟨Gc.lowT c' (P * M20),Gc.lowB c' (P * M20),p.2 (-s.depth+a)⟩)=dyD s (bnE P p (-s.depth+a) c'):=rfl
  rw [ew] at w1
  have ed:Ent.d ⟨Gc.lowT c' (P * M20),Gc.lowB c' (P * M20),p.2 (-s.depth+a)⟩=.tuple [.tuple [.int (Gc.lowT c' (P * M20)),.int (Gc.lowB c' (P * M20))],.int (p.2 (-s.depth+a))]:=rfl
  rw [ed] at w1
  obtain ⟨b1,b2,b3⟩:=bn_lat (s:=s) hP nP6 (by omega) hbd hrl x1 x2 nc
  generalize Gc.lowT c' (P * M20)=T at *
  generalize Gc.lowB c' (P * M20)=B at *
  by_cases c0:v=0
  · subst c0
    have z0:((0:Int) == 0)=true:=by decide
    have w:=with_day (s:=s) (es:=ents fs ps) (t:=t) (by omega) (by omega) (bnE P p (-s.depth+a) c')
    simp_arith [ev_drw,i1,w1,z0,w]
    exact al_ret ⟨_,by rw [List.length_set]; exact hel,set_en hen b1 t,rfl⟩
  · have z0:(v == 0)=false:=beq_eq_false_iff_ne.mpr c0
    by_cases c1:v=1
    · subst c1
      have z1:((1:Int) == 1)=true:=by decide
      obtain ⟨es,q1,q2,z,y,q3,q4,q5⟩:=ah_at h hf8 hl hk ht b1 b2 b3 (nb_mul nP M20_nb) (by omega) (by omega) (by omega)
      simp_arith [ev_drw,i1,w1,z0,z1,q3,q4,q5]
      exact al_ret ⟨es,q1,q2,rfl⟩
    · have z1:(v == 1)=false:=beq_eq_false_iff_ne.mpr c1
      by_cases c2:v=2
      · subst c2
        have z2:((2:Int) == 2)=true:=by decide
        simp_arith [ev_drw,i1,w1,z0,z1,z2]
        refine al_bind (n:=5) (n':=0) (s_mixed h hf8 h1 hl hk) (by decide) ?_
        rintro _ ⟨es,q1,q2,rfl⟩
        try simp_arith [ev_drw]
        exact al_ret ⟨es,q1,q2,rfl⟩
      · have z2:(v == 2)=false:=beq_eq_false_iff_ne.mpr c2
        simp_arith [ev_drw,i1,w1,z0,z1,z2]
        refine al_drw (n:=7) (by decide) (by decide) (by decide) fun m m0 m1=>?_
        have nm:nb 5 (1+m):=nb_of (by show -32 < _; omega) (by show _ < 32; omega)
        obtain ⟨r1,r2,r3⟩:=mo_lat (s:=s) hP nP6 (by omega) (by omega) hbd hrl nm
        obtain ⟨es,q1,q2,z,y,q3,q4,q5⟩:=ah_at h hf8 hl hk ht r1 r2 r3 nP (by omega) (by omega) (by omega)
        have ei:it1 (dyD s (en P p))=.ret ((rangeI (-s.depth) s.n).map fun x=>(en P p x).d):=rfl
        have hs1:small ((rangeI (-s.depth) s.n).map fun x=>(en P p x).d).length=true:=small_le (by rw [List.length_map,rangeI_length]; omega)
        have em:mapT (lc2 (gTupD (gsCons (gTupD (gsCons (gSet 1) (gsCons (gSet 2) gsNil))) (gsCons (gSet 0) gsNil))) q_law_bent_1 [.un,.un,.un,.d (.int (1+m))]) ((rangeI (-s.depth) s.n).map fun x=>(en P p x).d)=.ret ((rangeI (-s.depth) s.n).map fun x=>(moE P p (1+m) x).d):=mapT_gen (F:=fun x=>(moE P p (1+m) x).d) fun x hx=>by
          have hx':=rangeI_mem hx
          have kx:=low_nb (hbd x (by omega) (by omega)) nP6 (Int.ne_of_gt hP)
          have g1:=nb_fit nm (by decide)
          have g2:=nb_fit kx.2 (by decide)
          have em':(moE P p (1+m) x).d=.tuple [.tuple [.int (Gc.lowT (p.1 x) P+(1+m) * Gc.lowB (p.1 x) P),.int (Gc.lowB (p.1 x) P)],.int (p.2 x)]:=rfl
          rw [en_d,em']
          simp_arith [q_law_bent_1,g1,g2]
        have et:PyData.tuple ((rangeI (-s.depth) s.n).map fun x=>(moE P p (1+m) x).d)=dyD s (moE P p (1+m)):=rfl
        simp_arith [ev_drw,i1,ei,hs1,em,et,q3,q4,q5]
        exact al_ret ⟨es,q1,q2,rfl⟩
end My
set_option Elab.async false
set_option linter.all false
set_option maxRecDepth 100000
set_option exponentiation.threshold 9000
namespace My
open PySem PySem.Spec PyProof.Rows L2 Tw
theorem cut_lo (s:Shp):sl3 s.d none (some 2)=.ret (.tuple [.int s.top,.int s.depth]):=by unfold Shp.d; rfl
theorem cut_hi (s:Shp):sl3 s.d (some 2) none=.ret (.tuple [.int s.start,.int s.piece,.int s.keep,.int s.lack,.int s.lost,.int s.back,.int s.late]):=by unfold Shp.d; rfl
theorem rp_pap {s:Shp} (h:s.Ok) (hn:s.n≤8) {es:List (Int→Ent)} (hl:es.length≤4) (he:∀ e∈es,EnAll s e):Rp (papD s es) 4 500000:=by
  have t0:=h.t0
  have d0:=h.d0
  have td:=h.td
  have nq:=h.n_eq
  refine rp_mono (rp_tup (k:=3) (n:=62000) fun x hx=>?_) (Nat.le_refl _) (by rw [List.length_map]; omega)
  obtain ⟨e,hm,rfl⟩:=List.mem_map.mp hx
  refine rp_mono (rp_tup (k:=2) (n:=7700) fun y hy=>?_) (Nat.le_refl _) (by rw [List.length_map,rangeI_length]; omega)
  obtain ⟨x,hx,rfl⟩:=List.mem_map.mp hy
  have hx':=rangeI_mem hx
  have q:=he e hm x (by omega) (by omega)
  have l1:=q.l1
  have l2:=q.l2
  refine rp_mono (rp_tup (xs:=[.tuple [.int (e x).t,.int (e x).b],.int (e x).l]) (k:=1) (n:=3830) fun z hz=>?_) (Nat.le_refl _) (by show 2 * 3830+2 * 2+10≤7700; decide)
  simp only [List.mem_cons,List.not_mem_nil,or_false] at hz
  rcases hz with rfl | rfl
  · refine rp_mono (rp_tup (xs:=[.int (e x).t,.int (e x).b]) (k:=0) (n:=1901) fun z hz=>?_) (Nat.le_refl _) (by show 2 * 1901+2 * 2+10≤3830; decide)
    simp only [List.mem_cons,List.not_mem_nil,or_false] at hz
    rcases hz with rfl | rfl
    · exact rp_int q.t
    · exact rp_int q.b
  · exact rp_mono (rp_int (nb_mono (nb_of (k:=20) (by show -1048576 < _; omega) (by show _ < 1048576; omega)) (by decide))) (by decide) (by decide)
theorem rp_all3 {s:Shp} (h:s.Ok) (hn:s.n≤8) {fs:List (List Int)} (hf8:∀ l∈fs,DayOk 8 l) (hl:fs.length≤4) {es:List (Int→Ent)} (hel:es.length=fs.length) (he:∀ e∈es,EnAll s e):reprOk (.tuple [s.d,fD fs,papD s es])=true:=by
  refine rp_ok (rp_tup (xs:=[s.d,fD fs,papD s es]) (k:=4) (n:=500000) fun x hx=>?_) (by decide) (by show 3 * 500000+2 * 3+10≤_; decide)
  simp only [List.mem_cons,List.not_mem_nil,or_false] at hx
  rcases hx with rfl | rfl | rfl
  · exact rp_mono (rp_shp h) (by decide) (by decide)
  · exact rp_mono (rp_fal (fun l hl=>(hf8 l hl).B (by decide)) (by omega)) (by decide) (Nat.le_refl _)
  · exact rp_pap h hn (by omega) he
theorem days_q {Q:List Int→Prop}:∀ {ys:List PyData},(∀ y∈ys,∃ ls,y=tI ls∧Q ls)→∃ fs:List (List Int),ys=fs.map tI∧∀ ls∈fs,Q ls
  | [],_=>⟨[],rfl,fun _ h=>by cases h⟩
  | y::ys,h=>by
    obtain ⟨ls,rfl,hq⟩:=h y (by simp)
    obtain ⟨fs,rfl,hf⟩:=days_q (ys:=ys) fun z hz=>h z (List.mem_cons_of_mem _ hz)
    refine ⟨ls::fs,rfl,fun l hl=>?_⟩
    rcases List.mem_cons.mp hl with rfl | hl
    · exact hq
    · exact hf l hl
noncomputable abbrev lwE (s:Shp) (fs:List (List Int)) (ps:Pap) (J5 J6 J7 J8:Sl):List Sl:=[.un,.pen,.d s.d,.d (fD fs),.d (papD s (ents fs ps)),J5,J6,J7,J8]
theorem lw1 {s:Shp} (h:s.Ok) (hn:s.n≤8) {fs:List (List Int)} (hf8:∀ l∈fs,DayOk 8 l) (h1:1≤fs.length) (hl:fs.length≤4) {ps:Pap} (hk:PkOk s fs ps) (J5 J6 J7 J8:Sl) :
    Al (l_law_1 (lwE s fs ps J5 J6 J7 J8)) 12 fun o=>∃ K6 K7:Sl,o=.next (lwE s fs ps J5 K6 K7 J8):=by
  simp_arith [l_law_1,lwE,ev_drw]
  refine al_bind (n:=12) (n':=0) (s_bent h hf8 h1 hl hk) (by decide) ?_
  rintro _ ⟨es,q1,q2,rfl⟩
  obtain ⟨b,e1,e2⟩:=e_bothG h q1 hl hf8 q2
  have r1:=ev_repr (rp_all3 h hn hf8 hl q1 q2)
  have r2:=ev_repr (rp_ok (rp_bool b) (by decide) (by decide))
  simp_arith [ev_drw,r1,e1,e2,r2,str_self,Bool.not_true]
  exact al_ret ⟨_,_,rfl⟩
theorem s_pr (X:Sl):Al (q_law_2 [X,.pen]) 6 fun y=>∃ q:Int,y=.int q∧0≤q∧q≤1000000:=by
  simp_arith [q_law_2,ev_drw]
  refine al_bind (n:=6) (n':=0) s_price (by decide) ?_
  rintro _ ⟨q,rfl,q0,q1⟩
  simp_arith [ev_drw]
  exact al_ret ⟨_,rfl,q0,q1⟩
theorem law_true:Al (m_law law0) 2000 fun o=>o=.ret (.d (.bool true)):=by
  simp_arith [m_law,law0,ev_drw]
  refine al_bind (n:=50) (n':=1900) (s_shop (most:=6) (by decide) (by decide)) (by decide) ?_
  rintro _ ⟨s,rfl,hs,hs6⟩
  have h:=hs.ok
  have nq:=h.n_eq
  simp_arith [ev_drw]
  refine al_drw (n:=1899) (by decide) (by decide) (by decide) fun v v0 v1=>?_
  have r1:rng1 [.int (1+v)]=.ret (rngL 0 (1+v)):=ev_rg1 (inR_of (by omega) (by omega))
  have hs1:small (rngL 0 (1+v)).length=true:=small_le (by rw [rngL_len]; omega)
  simp_arith [ev_drw,r1,hs1]
  refine al_bind (n:=240) (n':=1000) (P:=fun ys=>∃ fs:List (List Int),ys=fs.map tI∧(fs.length:Int)=1+v∧∀ ls∈fs,DayOk 8 ls) (al_map (n:=40) (P:=fun y=>∃ ls,y=tI ls∧DayOk 8 ls) (by rw [rngL_len]; omega) (fun x _=>?_) fun ys hl hys=>?_) (by decide) ?_
  · simp_arith [q_law_1,ev_drw]
    refine al_bind (n:=40) (n':=0) (s_day (many:=3) (by decide) (by decide)) (by decide) ?_
    rintro _ ⟨ls,rfl,hd,hd2⟩
    simp_arith [ev_drw]
    exact al_ret ⟨ls,rfl,hd.mono (by decide)⟩
  · obtain ⟨fs,rfl,hf⟩:=days_q hys
    rw [List.length_map,rngL_len] at hl
    exact ⟨fs,rfl,by omega,hf⟩
  rintro _ ⟨fs,rfl,hfl,hf8⟩
  have efD:PyData.tuple (fs.map tI)=fD fs:=rfl
  have hl4:fs.length≤4:=by omega
  obtain ⟨ps,hk,hL,e1⟩:=e_ahead h (f1:=fs) (f2:=[]) (ps2:=[]) (by rw [List.append_nil]; exact hf8) (by rw [List.append_nil]; exact hl4) ⟨rfl,fun _ z=>(by cases z),trivial,trivial⟩ (rows:=.list []) rfl rfl
  rw [List.append_nil] at hk hL e1
  have hen:=ents_en h hf8 hl4 hk
  have hf:∀ l∈fs,DayB l:=fun l hl=>(hf8 l hl).B (by decide)
  have hlet:m_lets [.d s.d,.d (fD fs),.d (papD s (ents fs ps))]=.ret (.d (.bool true)):=by
    have hi:=let_iff h hk.len hf hk.rl
    rcases e_lets h (ents_len hk.len) (by omega) hf (fun e hm x x1 x2=>(hen e hm x x1 x2).sh) with ⟨q,k⟩ | ⟨q,k⟩
    · exact k
    · refine absurd ⟨fun e he=>?_,hi.mpr (hL trivial)⟩ q
      obtain ⟨P,p,rfl,_,_,q,_⟩:=ents_mem hf8 hl4 hk e he
      exact q
  have r2:rng1 [.int 8]=.ret (rngL 0 8):=ev_rg1 rfl
  simp_arith [ev_drw,efD,e1,r2]
  refine al_bind (n:=96) (n':=100) (P:=fun o=>∃ J5 J6 J7 J8:Sl,o=.next (lwE s fs ps J5 J6 J7 J8)) ?_ (by decide) ?_
  · refine al_forQ (n:=12) (fun pre ρ=>∃ J5 J6 J7 J8:Sl,ρ=lwE s fs ps J5 J6 J7 J8) ⟨_,_,_,_,rfl⟩ (by rw [rngL_len]; decide) ?_ ?_
    · rintro pre x post ρ e ⟨J5,J6,J7,J8,rfl⟩
      obtain ⟨rfl,hpre⟩:=rngL_mid e
      refine ⟨_,rfl,al_mono (lw1 h (by omega) hf8 (by omega) hl4 hk _ _ _ _) (Nat.le_refl _) ?_⟩
      rintro _ ⟨K6,K7,rfl⟩
      exact ⟨_,rfl,_,_,_,_,rfl⟩
    · rintro ρ ⟨J5,J6,J7,J8,rfl⟩
      exact ⟨_,_,_,_,rfl⟩
  rintro _ ⟨J5,J6,J7,J8,rfl⟩
  simp_arith [lwE,ev_drw,cut_lo,cut_hi]
  refine al_bind (n:=6) (n':=88) (s_pr _) (by decide) ?_
  rintro _ ⟨a1,rfl,b1⟩
  refine al_bind (n:=6) (n':=82) (s_pr _) (by decide) ?_
  rintro _ ⟨a2,rfl,b2⟩
  refine al_bind (n:=6) (n':=76) (s_pr _) (by decide) ?_
  rintro _ ⟨a3,rfl,b3⟩
  refine al_bind (n:=6) (n':=70) (s_pr _) (by decide) ?_
  rintro _ ⟨a4,rfl,b4⟩
  refine al_bind (n:=6) (n':=64) (s_pr _) (by decide) ?_
  rintro _ ⟨a5,rfl,b5⟩
  refine al_bind (n:=6) (n':=58) (s_pr _) (by decide) ?_
  rintro _ ⟨a6,rfl,b6⟩
  refine al_bind (n:=6) (n':=52) (s_pr _) (by decide) ?_
  rintro _ ⟨a7,rfl,b7⟩
  have hps:∀ p∈[a1,a2,a3,a4,a5,a6,a7],0≤p∧p≤1000000:=fun p hp=>by
    simp only [List.mem_cons,List.not_mem_nil,or_false] at hp
    rcases hp with rfl | rfl | rfl | rfl | rfl | rfl | rfl <;> assumption
  obtain ⟨o,ho⟩:∃ o:Shp,o=⟨s.top,s.depth,a1,a2,a3,a4,a5,a6,a7⟩:=⟨_,rfl⟩
  have hod:o.Dr:=by rw [ho]; exact ⟨hs.t0,hs.d0,hs.td,hps⟩
  have eo:PyData.tuple [.int s.top,.int s.depth,.int a1,.int a2,.int a3,.int a4,.int a5,.int a6,.int a7]=o.d:=by rw [shp_of,ho]
  have eot:o.top=s.top:=by rw [ho]
  have eod:o.depth=s.depth:=by rw [ho]
  have eon:o.n=s.n:=by have:=hod.ok.n_eq; omega
  have epp:papD s (ents fs ps)=papD o (ents fs ps):=by
    unfold papD dyD
    rw [eod,eon]
  have heo:∀ e∈ents fs ps,EnAll o e:=fun e he x x1 x2=>by
    rw [eod] at x1
    rw [eot] at x2
    have q:=hen e he x x1 x2
    exact ⟨q.sh,by rw [eod]; exact q.l1,by rw [eot]; exact q.l2,q.t,q.b⟩
  obtain ⟨b,u1,u2⟩:=e_bothG hod.ok (ents_len hk.len) hl4 hf8 heo
  rw [← epp] at u1 u2
  have r3:=ev_repr (rp_ok (rp_bool b) (by decide) (by decide))
  simp_arith [ev_drw,eo,u1,u2,r3,str_self,Bool.not_true,hlet,beq_self_eq_true]
  exact al_ret rfl
end My
set_option Elab.async false
set_option linter.all false
set_option maxRecDepth 100000
open PySem PySem.W PyProof.Rows L2
set_option maxRecDepth 100000 in
set_option maxHeartbeats 0 in
theorem PySem.Challenge.cw_twomarks_k22_costs_of_a_paper_holds : PySem.Challenge.rw_twomarks_k22_costs_of_a_paper.Holds := by
  refine My.hd ?_
  k_fill
  refine L2.walk_ofK (l:=PySem.Challenge.rw_twomarks_k22_costs_of_a_paper) (n:=63) (k:=8) (x:="_law_script") (CX:=CX0) (sp:=L2.spLaw) rfl (by decide) rfl ⟨rfl,by decide,by decide,rfl⟩ (fun w h Y=>PySem.W.kIn_of Y) ?F ?S ?C
  case F =>
    intro w mg fa h KX G hmg
    have d_is_whole:Def (L2.KOf KX) mg "is_whole" My.s_is_whole ["thing"]:=by
      dsimp only [L2.KOf]
      refine' L2.def_mk KX G ?a ?l ?c ?k ?b
      (case a=>k_is); (case l=>k_is); (case c=>k_is); (case k=>k_is)
      (case b=>intro _ _ _ _ _ _ us hl; obtain ⟨_,rfl⟩:=L2.len1 hl; rfl)
    have d_is_whole_within:Def (L2.KOf KX) mg "is_whole_within" My.s_is_whole_within ["thing","lowest","highest"]:=by
      dsimp only [L2.KOf]
      refine' L2.def_mk KX G ?a ?l ?c ?k ?b
      (case a=>k_is); (case l=>k_is); (case c=>k_is); (case k=>k_is)
      (case b=>intro _ _ _ _ _ _ us hl; obtain ⟨_,_,_,rfl⟩:=L2.len3 hl; rfl)
    have d_common_divisor:Def (L2.KOf KX) mg "common_divisor" My.s_common_divisor ["one","other"]:=by
      dsimp only [L2.KOf]
      refine' L2.def_mk KX G ?a ?l ?c ?k ?b
      (case a=>k_is); (case l=>k_is); (case c=>k_is); (case k=>k_is)
      (case b=>intro _ _ _ _ _ _ us hl; obtain ⟨_,_,rfl⟩:=L2.len2 hl; rfl)
    have d_is_share:Def (L2.KOf KX) mg "is_share" My.s_is_share ["thing"]:=by
      dsimp only [L2.KOf]
      refine' L2.def_mk KX G ?a ?l ?c ?k ?b
      (case a=>k_is); (case l=>k_is); (case c=>k_is); (case k=>k_is)
      (case b=>intro _ _ _ _ _ _ us hl; obtain ⟨_,rfl⟩:=L2.len1 hl; rfl)
    have d_share:Def (L2.KOf KX) mg "share" My.s_share ["top","bottom"]:=by
      dsimp only [L2.KOf]
      refine' L2.def_mk KX G ?a ?l ?c ?k ?b
      (case a=>k_is); (case l=>k_is); (case c=>k_is); (case k=>k_is)
      (case b=>intro _ _ _ _ _ _ us hl; obtain ⟨_,_,rfl⟩:=L2.len2 hl; rfl)
    have d_stocks:Def (L2.KOf KX) mg "stocks" My.s_stocks ["shop"]:=by
      dsimp only [L2.KOf]
      refine' L2.def_mk KX G ?a ?l ?c ?k ?b
      (case a=>k_is); (case l=>k_is); (case c=>k_is); (case k=>k_is)
      (case b=>intro _ _ _ _ _ _ us hl; obtain ⟨_,rfl⟩:=L2.len1 hl; rfl)
    have d_is_level:Def (L2.KOf KX) mg "is_level" My.s_is_level ["shop","stock","thing"]:=by
      dsimp only [L2.KOf]
      refine' L2.def_mk KX G ?a ?l ?c ?k ?b
      (case a=>k_is); (case l=>k_is); (case c=>k_is); (case k=>k_is)
      (case b=>intro _ _ _ _ _ _ us hl; obtain ⟨_,_,_,rfl⟩:=L2.len3 hl; rfl)
    have d_order_cost:Def (L2.KOf KX) mg "order_cost" My.s_order_cost ["shop","stock","level"]:=by
      dsimp only [L2.KOf]
      refine' L2.def_mk KX G ?a ?l ?c ?k ?b
      (case a=>k_is); (case l=>k_is); (case c=>k_is); (case k=>k_is)
      (case b=>intro _ _ _ _ _ _ us hl; obtain ⟨_,_,_,rfl⟩:=L2.len3 hl; rfl)
    have d_next_stock:Def (L2.KOf KX) mg "next_stock" My.s_next_stock ["shop","level","fall"]:=by
      dsimp only [L2.KOf]
      refine' L2.def_mk KX G ?a ?l ?c ?k ?b
      (case a=>k_is); (case l=>k_is); (case c=>k_is); (case k=>k_is)
      (case b=>intro _ _ _ _ _ _ us hl; obtain ⟨_,_,_,rfl⟩:=L2.len3 hl; rfl)
    have d_day_cost:Def (L2.KOf KX) mg "day_cost" My.s_day_cost ["shop","level","fall"]:=by
      dsimp only [L2.KOf]
      refine' L2.def_mk KX G ?a ?l ?c ?k ?b
      (case a=>k_is); (case l=>k_is); (case c=>k_is); (case k=>k_is)
      (case b=>intro _ _ _ _ _ _ us hl; obtain ⟨_,_,_,rfl⟩:=L2.len3 hl; rfl)
    have d_end_cost:Def (L2.KOf KX) mg "end_cost" My.s_end_cost ["shop","stock"]:=by
      dsimp only [L2.KOf]
      refine' L2.def_mk KX G ?a ?l ?c ?k ?b
      (case a=>k_is); (case l=>k_is); (case c=>k_is); (case k=>k_is)
      (case b=>intro _ _ _ _ _ _ us hl; obtain ⟨_,_,rfl⟩:=L2.len2 hl; rfl)
    have d_end_costs:Def (L2.KOf KX) mg "end_costs" My.s_end_costs ["shop"]:=by
      dsimp only [L2.KOf]
      refine' L2.def_mk KX G ?a ?l ?c ?k ?b
      (case a=>k_is); (case l=>k_is); (case c=>k_is); (case k=>k_is)
      (case b=>intro _ _ _ _ _ _ us hl; obtain ⟨_,rfl⟩:=L2.len1 hl; rfl)
    have d_weighed:Def (L2.KOf KX) mg "weighed" My.s_weighed ["shop","day","level","ahead","scale"]:=by
      dsimp only [L2.KOf]
      refine' L2.def_mk KX G ?a ?l ?c ?k ?b
      (case a=>k_is); (case l=>k_is); (case c=>k_is); (case k=>k_is)
      (case b=>intro _ _ _ _ _ _ us hl; obtain ⟨_,_,_,_,_,rfl⟩:=L2.len5 hl; rfl)
    have d_costs_by:Def (L2.KOf KX) mg "costs_by" My.s_costs_by ["shop","day","levels","ahead","scale"]:=by
      dsimp only [L2.KOf]
      refine' L2.def_mk KX G ?a ?l ?c ?k ?b
      (case a=>k_is); (case l=>k_is); (case c=>k_is); (case k=>k_is)
      (case b=>intro _ _ _ _ _ _ us hl; obtain ⟨_,_,_,_,_,rfl⟩:=L2.len5 hl; rfl)
    have d_is_entry:Def (L2.KOf KX) mg "is_entry" My.s_is_entry ["shop","stock","thing"]:=by
      dsimp only [L2.KOf]
      refine' L2.def_mk KX G ?a ?l ?c ?k ?b
      (case a=>k_is); (case l=>k_is); (case c=>k_is); (case k=>k_is)
      (case b=>intro _ _ _ _ _ _ us hl; obtain ⟨_,_,_,rfl⟩:=L2.len3 hl; rfl)
    have d_is_paper_day:Def (L2.KOf KX) mg "is_paper_day" My.s_is_paper_day ["shop","thing"]:=by
      dsimp only [L2.KOf]
      refine' L2.def_mk KX G ?a ?l ?c ?k ?b
      (case a=>k_is); (case l=>k_is); (case c=>k_is); (case k=>k_is)
      (case b=>intro _ _ _ _ _ _ us hl; obtain ⟨_,_,rfl⟩:=L2.len2 hl; rfl)
    have d_is_paper:Def (L2.KOf KX) mg "is_paper" My.s_is_paper ["shop","falls","thing"]:=by
      dsimp only [L2.KOf]
      refine' L2.def_mk KX G ?a ?l ?c ?k ?b
      (case a=>k_is); (case l=>k_is); (case c=>k_is); (case k=>k_is)
      (case b=>intro _ _ _ _ _ _ us hl; obtain ⟨_,_,_,rfl⟩:=L2.len3 hl; rfl)
    have d_none_less:Def (L2.KOf KX) mg "none_less" My.s_none_less ["shop","day","costs","ahead","scale"]:=by
      dsimp only [L2.KOf]
      refine' L2.def_mk KX G ?a ?l ?c ?k ?b
      (case a=>k_is); (case l=>k_is); (case c=>k_is); (case k=>k_is)
      (case b=>intro _ _ _ _ _ _ us hl; obtain ⟨_,_,_,_,_,rfl⟩:=L2.len5 hl; rfl)
    have d_lets:Def (L2.KOf KX) mg "lets" My.s_lets ["shop","falls","thing"]:=by
      dsimp only [L2.KOf]
      refine' L2.def_mk KX G ?a ?l ?c ?k ?b
      (case a=>k_is); (case l=>k_is); (case c=>k_is); (case k=>k_is)
      (case b=>intro _ _ _ _ _ _ us hl; obtain ⟨_,_,_,rfl⟩:=L2.len3 hl; rfl)
    have d__law_pen:Def (L2.KOf KX) mg "_law_pen" My.s__law_pen ["_law_script"]:=by
      dsimp only [L2.KOf]
      refine' L2.def_mk KX G ?a ?l ?c ?k ?b
      (case a=>k_is); (case l=>k_is); (case c=>k_is); (case k=>k_is)
      (case b=>intro _ _ _ _ _ _ us hl; obtain ⟨_,rfl⟩:=L2.len1 hl; rfl)
    have d__law_take:Def (L2.KOf KX) mg "_law_take" My.s__law_take ["_law_pen_here","_law_many"]:=by
      dsimp only [L2.KOf]
      refine' L2.def_mk KX G ?a ?l ?c ?k ?b
      (case a=>k_is); (case l=>k_is); (case c=>k_is); (case k=>k_is)
      (case b=>intro _ _ _ _ _ _ us hl; obtain ⟨_,_,rfl⟩:=L2.len2 hl; rfl)
    have d__law_price:Def (L2.KOf KX) mg "_law_price" My.s__law_price ["_law_pen_here"]:=by
      dsimp only [L2.KOf]
      refine' L2.def_mk KX G ?a ?l ?c ?k ?b
      (case a=>k_is); (case l=>k_is); (case c=>k_is); (case k=>k_is)
      (case b=>intro _ _ _ _ _ _ us hl; obtain ⟨_,rfl⟩:=L2.len1 hl; rfl)
    have d__law_shop:Def (L2.KOf KX) mg "_law_shop" My.s__law_shop ["_law_pen_here","_law_most"]:=by
      dsimp only [L2.KOf]
      refine' L2.def_mk KX G ?a ?l ?c ?k ?b
      (case a=>k_is); (case l=>k_is); (case c=>k_is); (case k=>k_is)
      (case b=>intro _ _ _ _ _ _ us hl; obtain ⟨_,_,rfl⟩:=L2.len2 hl; rfl)
    have d__law_day:Def (L2.KOf KX) mg "_law_day" My.s__law_day ["_law_pen_here","_law_many"]:=by
      dsimp only [L2.KOf]
      refine' L2.def_mk KX G ?a ?l ?c ?k ?b
      (case a=>k_is); (case l=>k_is); (case c=>k_is); (case k=>k_is)
      (case b=>intro _ _ _ _ _ _ us hl; obtain ⟨_,_,rfl⟩:=L2.len2 hl; rfl)
    have d__law_rest:Def (L2.KOf KX) mg "_law_rest" My.s__law_rest ["_law_shop_here","_law_level","_law_fall"]:=by
      dsimp only [L2.KOf]
      refine' L2.def_mk KX G ?a ?l ?c ?k ?b
      (case a=>k_is); (case l=>k_is); (case c=>k_is); (case k=>k_is)
      (case b=>intro _ _ _ _ _ _ us hl; obtain ⟨_,_,_,rfl⟩:=L2.len3 hl; rfl)
    have d__law_order:Def (L2.KOf KX) mg "_law_order" My.s__law_order ["_law_shop_here","_law_stock","_law_level"]:=by
      dsimp only [L2.KOf]
      refine' L2.def_mk KX G ?a ?l ?c ?k ?b
      (case a=>k_is); (case l=>k_is); (case c=>k_is); (case k=>k_is)
      (case b=>intro _ _ _ _ _ _ us hl; obtain ⟨_,_,_,rfl⟩:=L2.len3 hl; rfl)
    have d__law_end:Def (L2.KOf KX) mg "_law_end" My.s__law_end ["_law_shop_here","_law_stock"]:=by
      dsimp only [L2.KOf]
      refine' L2.def_mk KX G ?a ?l ?c ?k ?b
      (case a=>k_is); (case l=>k_is); (case c=>k_is); (case k=>k_is)
      (case b=>intro _ _ _ _ _ _ us hl; obtain ⟨_,_,rfl⟩:=L2.len2 hl; rfl)
    have d__law_stocks:Def (L2.KOf KX) mg "_law_stocks" My.s__law_stocks ["_law_shop_here"]:=by
      dsimp only [L2.KOf]
      refine' L2.def_mk KX G ?a ?l ?c ?k ?b
      (case a=>k_is); (case l=>k_is); (case c=>k_is); (case k=>k_is)
      (case b=>intro _ _ _ _ _ _ us hl; obtain ⟨_,rfl⟩:=L2.len1 hl; rfl)
    have d__law_level_cost:Def (L2.KOf KX) mg "_law_level_cost" My.s__law_level_cost ["_law_shop_here","_law_one","_law_stock","_law_level","_law_later"]:=by
      dsimp only [L2.KOf]
      refine' L2.def_mk KX G ?a ?l ?c ?k ?b
      (case a=>k_is); (case l=>k_is); (case c=>k_is); (case k=>k_is)
      (case b=>intro _ _ _ _ _ _ us hl; obtain ⟨_,_,_,_,_,rfl⟩:=L2.len5 hl; rfl)
    have d__law_best:Def (L2.KOf KX) mg "_law_best" My.s__law_best ["_law_shop_here","_law_one","_law_stock","_law_later"]:=by
      dsimp only [L2.KOf]
      refine' L2.def_mk KX G ?a ?l ?c ?k ?b
      (case a=>k_is); (case l=>k_is); (case c=>k_is); (case k=>k_is)
      (case b=>intro _ _ _ _ _ _ us hl; obtain ⟨_,_,_,_,rfl⟩:=L2.len4 hl; rfl)
    have d__law_ahead:Def (L2.KOf KX) mg "_law_ahead" My.s__law_ahead ["_law_shop_here","_law_falls","_law_rows"]:=by
      dsimp only [L2.KOf]
      refine' L2.def_mk KX G ?a ?l ?c ?k ?b
      (case a=>k_is); (case l=>k_is); (case c=>k_is); (case k=>k_is)
      (case b=>intro _ _ _ _ _ _ us hl; obtain ⟨_,_,_,rfl⟩:=L2.len3 hl; rfl)
    have d__law_let:Def (L2.KOf KX) mg "_law_let" My.s__law_let ["_law_shop_here","_law_falls","_law_paper"]:=by
      dsimp only [L2.KOf]
      refine' L2.def_mk KX G ?a ?l ?c ?k ?b
      (case a=>k_is); (case l=>k_is); (case c=>k_is); (case k=>k_is)
      (case b=>intro _ _ _ _ _ _ us hl; obtain ⟨_,_,_,rfl⟩:=L2.len3 hl; rfl)
    have d__law_with:Def (L2.KOf KX) mg "_law_with" My.s__law_with ["_law_some","_law_at","_law_thing"]:=by
      dsimp only [L2.KOf]
      refine' L2.def_mk KX G ?a ?l ?c ?k ?b
      (case a=>k_is); (case l=>k_is); (case c=>k_is); (case k=>k_is)
      (case b=>intro _ _ _ _ _ _ us hl; obtain ⟨_,_,_,rfl⟩:=L2.len3 hl; rfl)
    have d__law_share:Def (L2.KOf KX) mg "_law_share" My.s__law_share ["_law_top","_law_bottom"]:=by
      dsimp only [L2.KOf]
      refine' L2.def_mk KX G ?a ?l ?c ?k ?b
      (case a=>k_is); (case l=>k_is); (case c=>k_is); (case k=>k_is)
      (case b=>intro _ _ _ _ _ _ us hl; obtain ⟨_,_,rfl⟩:=L2.len2 hl; rfl)
    have d__law_other_cost:Def (L2.KOf KX) mg "_law_other_cost" My.s__law_other_cost ["_law_pen_here","_law_cost"]:=by
      dsimp only [L2.KOf]
      refine' L2.def_mk KX G ?a ?l ?c ?k ?b
      (case a=>k_is); (case l=>k_is); (case c=>k_is); (case k=>k_is)
      (case b=>intro _ _ _ _ _ _ us hl; obtain ⟨_,_,rfl⟩:=L2.len2 hl; rfl)
    have d__law_exchanged:Def (L2.KOf KX) mg "_law_exchanged" My.s__law_exchanged ["_law_pen_here","_law_some"]:=by
      dsimp only [L2.KOf]
      refine' L2.def_mk KX G ?a ?l ?c ?k ?b
      (case a=>k_is); (case l=>k_is); (case c=>k_is); (case k=>k_is)
      (case b=>intro _ _ _ _ _ _ us hl; obtain ⟨_,_,rfl⟩:=L2.len2 hl; rfl)
    have d__law_mixed:Def (L2.KOf KX) mg "_law_mixed" My.s__law_mixed ["_law_pen_here","_law_shop_here","_law_falls","_law_paper"]:=by
      dsimp only [L2.KOf]
      refine' L2.def_mk KX G ?a ?l ?c ?k ?b
      (case a=>k_is); (case l=>k_is); (case c=>k_is); (case k=>k_is)
      (case b=>intro _ _ _ _ _ _ us hl; obtain ⟨_,_,_,_,rfl⟩:=L2.len4 hl; rfl)
    have d__law_bent:Def (L2.KOf KX) mg "_law_bent" My.s__law_bent ["_law_pen_here","_law_shop_here","_law_falls","_law_paper"]:=by
      dsimp only [L2.KOf]
      refine' L2.def_mk KX G ?a ?l ?c ?k ?b
      (case a=>k_is); (case l=>k_is); (case c=>k_is); (case k=>k_is)
      (case b=>intro _ _ _ _ _ _ us hl; obtain ⟨_,_,_,_,rfl⟩:=L2.len4 hl; rfl)
    have d_law:Def (L2.KOf KX) mg "law" My.s_law ["_law_script"]:=by
      dsimp only [L2.KOf]
      refine' L2.def_mk KX G ?a ?l ?c ?k ?b
      (case a=>k_is); (case l=>k_is); (case c=>k_is); (case k=>k_is)
      (case b=>intro _ _ _ _ _ _ us hl; obtain ⟨_,rfl⟩:=L2.len1 hl; rfl)
    have T:My.Txt (L2.KOf KX) mg:=by
      dsimp only [L2.KOf] at *
      refine' My.txt_mk KX G ?z_len ?z_abs ?z_max ?z_repr ?z_int ?z_list ?z_tuple ?z_bool ?z_range ?z_isinstance ?z_zip ?z_sum ?z_all ?z_enumerate ?z_ValueError ?z_reversed ?z_TOP ?z_DEPTH ?z_START ?z_PIECE ?z_KEEP ?z_LACK ?z_LOST ?z_BACK ?z_LATE d_is_whole d_is_whole_within d_common_divisor d_is_share d_share d_stocks d_is_level d_order_cost d_next_stock d_day_cost d_end_cost d_end_costs d_weighed d_costs_by d_is_entry d_is_paper_day d_is_paper d_none_less d_lets d__law_pen d__law_take d__law_price d__law_shop d__law_day d__law_rest d__law_order d__law_end d__law_stocks d__law_level_cost d__law_best d__law_ahead d__law_let d__law_with d__law_share d__law_other_cost d__law_exchanged d__law_mixed d__law_bent d_law
      (case z_len=>k_is)
      (case z_abs=>k_is)
      (case z_max=>k_is)
      (case z_repr=>k_is)
      (case z_int=>k_is)
      (case z_list=>k_is)
      (case z_tuple=>k_is)
      (case z_bool=>k_is)
      (case z_range=>k_is)
      (case z_isinstance=>k_is)
      (case z_zip=>k_is)
      (case z_sum=>k_is)
      (case z_all=>k_is)
      (case z_enumerate=>k_is)
      (case z_ValueError=>k_is)
      (case z_reversed=>k_is)
      (case z_TOP=>k_is)
      (case z_DEPTH=>k_is)
      (case z_START=>k_is)
      (case z_PIECE=>k_is)
      (case z_KEEP=>k_is)
      (case z_LACK=>k_is)
      (case z_LOST=>k_is)
      (case z_BACK=>k_is)
      (case z_LATE=>k_is)
    obtain ⟨f,fd,F,hm,_⟩:=T.d_law.ex
    have e0:=hmg.symm.trans hm
    cases e0
    refine ⟨fd,?_,fun base _ _=>My.ok_law T F (L2.Tr.ok_mono (L2.Tr.all_ok My.law_true.out (by decide)) fun _ _ h=>h.2)⟩
    obtain ⟨oc,od,kV,doc,pm,an,cdv,ct,osl,rfl,lk,hcd⟩:=F.ex
    exact fun s u=>.of_eq rfl
  case S=>exact fun K H a ns hl _ hS=>⟨a,ns,rfl,hS,hl,fun _=>rfl⟩
  case C=>exact fun _ _ _ _ z=>z

