import PyProof.Rows.All
import Wide.All
import OpenK.AllK
import Wide.FinOn
import Lean
import PyProof.EqAt
import PyProof.EqKinds
import PyProof.TupleCall
import KE.KRevSl
import KE.KIntText
import KE.KIsAll
import OpenK.KOwn
import PyProof.InstStoreFacts
import PyProof.ExcInit
import PyProof.RulesAs
import PyProof.RulesDel
import KE.KTryMore
import PyProof.Rows.StrMadeLen
import PyProof.ZipIter
import PyProof.Rows.ZipGen
import PyProof.EnumIter
import PyProof.WalksMore
import PyProof.StrCalls2
import PyProof.StrLawsChain
import PyProof.StrLawsTight
import PyProof.EnumMake
import PyProof.EnumStmt
import PySem.Challenge.RW_weirmark_k85_questions_refused
set_option Elab.async false
set_option linter.all false
set_option maxRecDepth 100000
section
namespace L2
open PySem PySem.Spec PyProof.Rows
abbrev Key := Sum Int Str
def keyIs : Key → Value → Bool
 | .inl k,v => Value.isInt k v
 | .inr x,v => Value.isStrOf x v
def keyH (w : World) : Key → Int
 | .inl k => hashInt k
 | .inr x => hashStr w x
theorem keyIs_shape : ∀ {k : Key} {v : Value},keyIs k v = true → (∃ i t,k = Sum.inl i ∧ v = Value.int i t) ∨ (∃ x t,k = Sum.inr x ∧ v = Value.str x t)
 | .inl i,v,h => by
  obtain ⟨t,e⟩ := Value.isInt_shape (k := i) (v := v) h
  exact .inl ⟨i,t,rfl,e⟩
 | .inr x,v,h => by
  obtain ⟨t,e⟩ := Value.isStrOf_shape (x := x) (v := v) h
  exact .inr ⟨x,t,rfl,e⟩
theorem keyIs_str (x : Str) (t : Tok) : keyIs (.inr x) (.str x t) = true := by simp [keyIs,Value.isStrOf]
theorem key_ll (a b : Int) : decide ((Sum.inl a : Key) = Sum.inl b) = (a == b) := by
 by_cases e : a = b
 ·subst e; simp
 ·have h : ¬ (Sum.inl a : Key) = Sum.inl b := fun q => e (Sum.inl.inj q)
  rw [decide_eq_false h]
  exact (beq_eq_false_iff_ne.mpr e).symm
theorem key_rr (a b : Str) : decide ((Sum.inr a : Key) = Sum.inr b) = decide (a = b) := by
 by_cases e : a = b
 ·subst e; simp
 ·have h : ¬ (Sum.inr a : Key) = Sum.inr b := fun q => e (Sum.inr.inj q)
  rw [decide_eq_false h,decide_eq_false e]
theorem key_lr (a : Int) (b : Str) : decide ((Sum.inl a : Key) = Sum.inr b) = false := decide_eq_false (fun q => nomatch q)
theorem key_rl (a : Str) (b : Int) : decide ((Sum.inr a : Key) = Sum.inl b) = false := decide_eq_false (fun q => nomatch q)
def mixKind (prog : Program) (w : World) : PySem.KeyKind prog w Key where
 is := keyIs
 hash := keyH w
 inj := fun v a b ha hb => by
  rcases keyIs_shape ha with ⟨i,t,rfl,rfl⟩ | ⟨x,t,rfl,rfl⟩
  ·rcases keyIs_shape hb with ⟨j,u,rfl,e⟩ | ⟨y,u,rfl,e⟩
   ·injection e with e1 _; rw [e1]
   ·exact nomatch e
  ·rcases keyIs_shape hb with ⟨j,u,rfl,e⟩ | ⟨y,u,rfl,e⟩
   ·exact nomatch e
   ·injection e with e1 _; rw [e1]
 byValue := fun k v h => by
  rcases keyIs_shape h with ⟨i,t,rfl,rfl⟩ | ⟨x,t,rfl,rfl⟩ <;> rfl
 pyHash := fun hv h => by
  rcases keyIs_shape hv with ⟨i,t,rfl,rfl⟩ | ⟨x,t,rfl,rfl⟩
  ·exact wpAny_pyHash_int h
  ·exact wpAny_pyHash_str h
 eqBool := fun hu hv h => by
  rcases keyIs_shape hu with ⟨i,t,rfl,rfl⟩ | ⟨x,t,rfl,rfl⟩
  ·rcases keyIs_shape hv with ⟨j,u,rfl,rfl⟩ | ⟨y,u,rfl,rfl⟩
   ·rw [key_ll] at h; exact wpAny_eqBool_int h
   ·rw [key_lr] at h; exact SeqAt.EqAt.int_str i t y u _ _ _ _ h
  ·rcases keyIs_shape hv with ⟨j,u,rfl,rfl⟩ | ⟨y,u,rfl,rfl⟩
   ·rw [key_rl] at h; exact SeqAt.EqAt.str_int x t j u _ _ _ _ h
   ·rw [key_rr] at h; exact wpAny_eqBool_str h
 «strs» := fun k x t v h => by
  rcases keyIs_shape h with ⟨i,u,rfl,e⟩ | ⟨y,u,rfl,e⟩
  ·exact nomatch e
  ·injection e with e1 _
   subst e1
   cases v <;> rfl
theorem mixKind_str (prog : Program) (w : World) (x : Str) (t : Tok) : (mixKind prog w).is (.inr x) (.str x t) = true := keyIs_str x t
end L2
namespace L2
open PySem PySem.Spec PyProof.Rows
inductive V where
 | non | bl (b : Bool) | int (i : Int) | str (x : Str) | byt (b : Array UInt8) | flt (b : UInt64) | ref (a : Addr) | ty (n : String)
 deriving DecidableEq
def RelV : V → Value → Prop
 | .non,u => u = Value.none
 | .bl b,u => u = Value.bool b
 | .int i,u => ∃ t,u = Value.int i t
 | .str x,u => ∃ t,u = Value.str x t
 | .byt b,u => ∃ t,u = Value.bytes b t
 | .flt b,u => ∃ t,u = Value.float b t
 | .ref a,u => u = Value.ref a
 | .ty n,u => u = Value.type n
abbrev Vals : List V → List Value → Prop := Paired RelV
theorem Vals.length {xs : List V} {us : List Value} (r : Vals xs us) : xs.length = us.length := Paired.length r
theorem Vals.get : ∀ {xs : List V} {us : List Value} {i : Nat} {x : V},Vals xs us → xs[i]? = some x → ∃ u,us[i]? = some u ∧ RelV x u
 | _,_,_,_,.nil,e => by simp at e
 | _,_,0,_,.cons r _,e => by simp at e; subst e; exact ⟨_,rfl,r⟩
 | _,_,i + 1,x,.cons _ t,e => by
  obtain ⟨u,h1,h2⟩ := Vals.get (i := i) (x := x) t (by simpa using e)
  exact ⟨u,by simpa using h1,h2⟩
theorem Vals.set {x : V} {u : Value} (r : RelV x u) : ∀ {xs : List V} {us : List Value} (i : Nat),Vals xs us → Vals (xs.set i x) (us.set i u)
 | _,_,_,.nil => .nil
 | _,_,0,.cons _ t => .cons r t
 | _,_,i + 1,.cons q t => .cons q (Vals.set r i t)
theorem Vals.append : ∀ {xs ys : List V} {us ws : List Value},Vals xs us → Vals ys ws → Vals (xs ++ ys) (us ++ ws)
 | _,_,_,_,.nil,s => s
 | _,_,_,_,.cons r t,s => .cons r (Vals.append t s)
theorem Vals.take : ∀ {xs : List V} {us : List Value} (n : Nat),Vals xs us → Vals (xs.take n) (us.take n)
 | _,_,0,_ => .nil
 | _,_,_ + 1,.nil => .nil
 | _,_,n + 1,.cons r t => .cons r (Vals.take n t)
theorem Vals.drop : ∀ {xs : List V} {us : List Value} (n : Nat),Vals xs us → Vals (xs.drop n) (us.drop n)
 | _,_,0,r => r
 | _,_,_ + 1,.nil => .nil
 | _,_,n + 1,.cons _ t => Vals.drop n t
def RelO : Option V → Option Value → Prop
 | some v,some u => RelV v u
 | none,none => True
 | _,_ => False
def KV {κ : Type} : List (κ × V) → List (κ × Value) → Prop := Paired fun (p : κ × V) (q : κ × Value) => p.1 = q.1 ∧ RelV p.2 q.2
def kV : Key → V
 | .inl i => .int i
 | .inr x => .str x
inductive HO where
 | lst (xs : List V)
 | tup (xs : List V)
 | dK (kvs : List (Key × V)) | dT (kvs : List (List Key × V))
 | set (S : Int → Bool) (n : Nat)
 | ins (C dx : Addr) (fs : List (Str × V))
 | own (x : Addr)
 | xd (fs : List (Str × V))
 | met (f x : Addr)
 | rng (lo hi : Int)
 | frz (o : Obj) (u : HO)
 | tbl (ps : Array Value)
 | ext (φ : Heap → Prop)
abbrev Hp := Addr → Option HO
def upd (H : Hp) (a : Addr) (o : HO) : Hp := fun b => if b = a then some o else H b
theorem upd_same {H : Hp} {a : Addr} {o : HO} : upd H a o a = some o := by unfold upd; rw [if_pos rfl]
theorem upd_ne {H : Hp} {a b : Addr} {o : HO} (h : b ≠ a) : upd H a o b = H b := by unfold upd; rw [if_neg h]
theorem upd_upd {H : Hp} {a : Addr} {o u : HO} : upd (upd H a o) a u = upd H a u := by
 funext b; unfold upd; split <;> rfl
theorem ne_of {H : Hp} {a b : Addr} {o u : HO} (h : H a = some o) (h' : H b = some u) (d : o ≠ u) : a ≠ b := by
 intro e; subst e; rw [h] at h'; exact d (Option.some.inj h')
theorem ne_of_none {H : Hp} {a b : Addr} {o : HO} (h : H a = some o) (h' : H b = none) : a ≠ b := by
 intro e; subst e; rw [h] at h'; cases h'
section
variable (P : Program) (w : World)
def ObjOk (H : Hp) (h : Heap) (a : Addr) : HO → Prop
 | .lst xs => xs.length ≤ sizeLine ∧ ∃ (its : List Value) (n : Nat),Vals xs its ∧ h.get? a = some { cls := .type "list",data := .seq its.toArray n }
 | .tup xs => xs.length ≤ sizeLine ∧ ∃ its : List Value,Vals xs its ∧ IsTup h a its.toArray
 | .dK kvs => kvs.length ≤ sizeLine ∧ (a == sysModules) = false ∧ ∃ vs,KV kvs vs ∧ h.DictOf (mixKind P w) a vs
 | .dT kvs => kvs.length ≤ sizeLine ∧ (a == sysModules) = false ∧ ∃ xs : List (List Key × Addr × Value),
   Paired (fun (p : List Key × V) (q : List Key × Addr × Value) => p.1 = q.1 ∧ H q.2.1 = some (.tup (p.1.map kV)) ∧ RelV p.2 q.2.2) kvs xs ∧
   ∃ o es ep,h.get? a = some o ∧ o.ExactDict ∧ o.data = .dict es ep ∧ es.toList = xs.map (entryOfKey (tupleKind (mixKind P w))) ∧ (xs.map (·.1)).Nodup
 | .set S n => h.SetOf (intKind P w) a S n
 | .ins C dx fs => H dx = some (.own a) ∧ fs.length ≤ 1000 ∧ dx ≠ a ∧ h.get? a = some (PySem.W.instObj C dx) ∧
   ∃ mA,h.Ns1 dx mA ∧ (∀ f,RelO (fs.lookup f) (mA f)) ∧ PySem.Within mA (fs.map (·.1))
 | .own _ => ∃ o,h.get? a = some o
 | .xd fs => ∃ mA,h.Ns1 a mA ∧ ∀ f,RelO (fs.lookup f) (mA f)
 | .rng lo hi => ∃ t u v,h.get? a = some { cls := .type "range",data := .fields #[.int lo t,.int hi u,.int 1 v] }
 | .frz o u => h.get? a = some o ∧ ObjOk H h a u
 | .tbl ps => h.get? a = some { cls := .none,data := .fields ps }
 | .met f x => h.get? a = some (PySem.W.methodObj (.ref f) (.ref x))
 | .ext φ => φ h ∧ (∃ o,h.get? a = some o) ∧ ∀ h1 h2 : Heap,φ h1 → (∀ o,h1.get? a = some o → h2.get? a = some o) → φ h2
def HOk (H : Hp) (h : Heap) : Prop := ∀ a o,H a = some o → ObjOk P w H h a o
end
section
variable {P : Program} {w : World} {H H' : Hp} {h h' : Heap} {a : Addr} {o : HO}
theorem ObjOk.lt (x : ObjOk P w H h a o) : a < h.objs.size := by
 cases o with
 | lst xs => obtain ⟨_,_,_,_,e⟩ := x; exact Heap.lt_size e
 | tup xs => obtain ⟨_,_,_,p⟩ := x; exact p.lt
 | dK kvs => obtain ⟨_,_,_,_,o,_,_,e,_⟩ := x; exact Heap.lt_size e
 | dT kvs => obtain ⟨_,_,_,_,o,_,_,e,_⟩ := x; exact Heap.lt_size e
 | set S n => obtain ⟨o,_,_,_,e,_⟩ := x; exact Heap.lt_size e
 | ins C dx fs => obtain ⟨_,_,_,e,_⟩ := x; exact Heap.lt_size e
 | own y => obtain ⟨_,e⟩ := x; exact Heap.lt_size e
 | xd fs => obtain ⟨_,⟨_,_,_,e,_⟩,_⟩ := x; exact Heap.lt_size e
 | rng lo hi => obtain ⟨_,_,_,e⟩ := x; exact Heap.lt_size e
 | frz ob u => obtain ⟨e,_⟩ := x; exact Heap.lt_size e
 | tbl ps => exact Heap.lt_size (show h.get? a = some _ from x)
 | met f y => exact Heap.lt_size (show h.get? a = some _ from x)
 | ext φ => obtain ⟨_,⟨_,e⟩,_⟩ := x; exact Heap.lt_size e
theorem Paired.mapP {α β : Type} {F G : α → β → Prop} : ∀ {l₁ : List α} {l₂ : List β},Paired F l₁ l₂ → (∀ a b,F a b → G a b) → Paired G l₁ l₂
 | _,_,.nil,_ => .nil
 | _,_,.cons r t,f => .cons (f _ _ r) (Paired.mapP t f)
theorem ObjOk.stay (x : ObjOk P w H h a o) (k : ∀ b u,(b = a ∨ H b = some (.own a)) → h.get? b = some u → h'.get? b = some u)
  (ho : ∀ b,H b = some (.own a) → H' b = some (.own a)) (ht : ∀ b xs,H b = some (.tup xs) → H' b = some (.tup xs)) : ObjOk P w H' h' a o := by
 induction o with
 | lst xs => obtain ⟨z,its,n,r,e⟩ := x; exact ⟨z,its,n,r,k _ _ (.inl rfl) e⟩
 | tup xs => obtain ⟨z,its,r,ob,e,c⟩ := x; exact ⟨z,its,r,ob,k _ _ (.inl rfl) e,c⟩
 | dK kvs => obtain ⟨z,y,vs,r,ob,es,ep,e,c⟩ := x; exact ⟨z,y,vs,r,ob,es,ep,k _ _ (.inl rfl) e,c⟩
 | dT kvs =>
  obtain ⟨z,y,xs,r,ob,es,ep,e,c⟩ := x
  exact ⟨z,y,xs,Paired.mapP r fun p q z => ⟨z.1,ht _ _ z.2.1,z.2.2⟩,ob,es,ep,k _ _ (.inl rfl) e,c⟩
 | set S n => obtain ⟨ob,es,ep,t,e,c⟩ := x; exact ⟨ob,es,ep,t,k _ _ (.inl rfl) e,c⟩
 | ins C dx fs =>
  obtain ⟨d,z,ne,e,mA,⟨od,es,ep,e2,c⟩,r⟩ := x
  exact ⟨ho _ d,z,ne,k _ _ (.inl rfl) e,mA,⟨od,es,ep,k _ _ (.inr d) e2,c⟩,r⟩
 | own y => obtain ⟨ob,e⟩ := x; exact ⟨ob,k _ _ (.inl rfl) e⟩
 | xd fs => obtain ⟨mA,⟨od,es,ep,e,c⟩,r⟩ := x; exact ⟨mA,⟨od,es,ep,k _ _ (.inl rfl) e,c⟩,r⟩
 | rng lo hi => obtain ⟨t,u,v,e⟩ := x; exact ⟨t,u,v,k _ _ (.inl rfl) e⟩
 | frz ob u ih => obtain ⟨e,q⟩ := x; exact ⟨k _ _ (.inl rfl) e,ih q⟩
 | tbl ps =>
  have e : h.get? a = some { cls := .none,data := .fields ps } := x
  show h'.get? a = some { cls := .none,data := .fields ps }
  exact k a _ (.inl rfl) e
 | met f y =>
  have e : h.get? a = some (PySem.W.methodObj (.ref f) (.ref y)) := x
  show h'.get? a = some (PySem.W.methodObj (.ref f) (.ref y))
  exact k a _ (.inl rfl) e
 | ext φ => obtain ⟨p,⟨o,e⟩,st⟩ := x; exact ⟨st _ _ p fun o q => k _ _ (.inl rfl) q,⟨o,k _ _ (.inl rfl) e⟩,st⟩
theorem HOk.lt (x : HOk P w H h) (e : H a = some o) : a < h.objs.size := (x a o e).lt
theorem HOk.fresh (x : HOk P w H h) (e : h.objs.size ≤ a) : H a = none := by
 cases q : H a with
 | none => rfl
 | some u => exact absurd (Nat.lt_of_lt_of_le (x.lt q) e) (Nat.lt_irrefl _)
theorem HOk.kept (x : HOk P w H h) (k : ∀ b u,h.get? b = some u → h'.get? b = some u) : HOk P w H h' := fun a o e =>
 (x a o e).stay (fun b u _ q => k b u q) (fun _ q => q) fun _ _ q => q
theorem HOk.laid (x : HOk P w H h) (k : ∀ b u,h.get? b = some u → h'.get? b = some u) (hp : h.objs.size ≤ a) (new : ObjOk P w (upd H a o) h' a o) : HOk P w (upd H a o) h' := fun b u e => by
 have hn := x.fresh hp
 by_cases hb : b = a
 ·subst hb; rw [upd_same] at e; cases e; exact new
 ·rw [upd_ne hb] at e
  exact (x b u e).stay (fun c v _ q => k c v q) (fun c q => by rw [upd_ne (ne_of_none q hn)]; exact q) fun c xs q => by rw [upd_ne (ne_of_none q hn)]; exact q
end
def Rd (H : Hp) (a : Addr) (u : HO) : Prop := H a = some u ∨ ∃ o,H a = some (.frz o u)
theorem Rd.ok {P : Program} {w : World} {H : Hp} {h : Heap} {a : Addr} {u : HO} (r : Rd H a u) (x : HOk P w H h) : ObjOk P w H h a u := by
 rcases r with r | ⟨o,r⟩
 ·exact x a u r
 ·obtain ⟨_,q⟩ := x a _ r
  exact q
def Mut : Option HO → Prop
 | some (.lst _) => True
 | some (.dK _) => True
 | some (.dT _) => True
 | some (.set _ _) => True
 | some (.ins _ _ _) => True
 | some (.ext _) => True
 | _ => False
section
variable {P : Program} {w : World} {H : Hp} {h h' : Heap} {x e : Addr} {o' : HO}
theorem HOk.write (ok : HOk P w H h) (mu : Mut (H x)) (he : e = x ∨ H e = some (.own x)) (k : ∀ b u,b ≠ e → h.get? b = some u → h'.get? b = some u) (heo : ∃ u,h'.get? e = some u)
  (new : ObjOk P w (upd H x o') h' x o') : HOk P w (upd H x o') h' := fun b u q => by
 have nown : ∀ c y,H c = some (.own y) → c ≠ x := fun c y r z => by subst z; rw [r] at mu; exact mu
 have ntup : ∀ c xs,H c = some (.tup xs) → c ≠ x := fun c xs r z => by subst z; rw [r] at mu; exact mu
 by_cases hb : b = x
 ·subst hb; rw [upd_same] at q; cases q; exact new
 ·rw [upd_ne hb] at q
  by_cases hbe : b = e
  ·have q' : H b = some (.own x) := by
    rcases he with z | z
    ·exact absurd (hbe.trans z) hb
    ·rw [hbe]; exact z
   rw [q] at q'; cases q'
   obtain ⟨v,hv⟩ := heo
   exact ⟨v,by rw [hbe]; exact hv⟩
  ·refine (ok b u q).stay (fun c v hc r => k c v ?_ r) (fun c r => by rw [upd_ne (nown c b r)]; exact r) fun c xs r => by rw [upd_ne (ntup c xs r)]; exact r
   rcases hc with rfl | hc
   ·exact hbe
   ·rintro rfl
    rcases he with z | z
    ·exact nown c b hc z
    ·rw [hc] at z; cases z; exact hb rfl
end
structure Un (fs ex : List Addr) (H H' : Hp) (h h' : Heap) : Prop where
 keep : ∀ b o,h.get? b = some o → H b = none → b ∉ fs → b ∉ ex → h'.get? b = some o
 slot : ∀ b o,h.get? b = some o → H b = none → b ∈ fs → b ∉ ex → ∃ sl,h'.get? b = some { o with slots := sl }
 free : ∀ b o,h.get? b = some o → H b = none → b ∉ ex → H' b = none
 there : ∀ b o,h.get? b = some o → b ∉ ex → ∃ o',h'.get? b = some o'
 tups : ∀ b xs,H b = some (.tup xs) → H' b = some (.tup xs)
 frzs : ∀ b o u,H b = some (.frz o u) → H' b = some (.frz o u)
 tbls : ∀ b ps,H b = some (.tbl ps) → ∃ more,H' b = some (.tbl (ps ++ more))
section
variable {fs fs' ex ex' : List Addr} {H H1 H2 : Hp} {h h1 h2 h' : Heap} {a x e : Addr} {o : HO}
theorem Un.any (u : Un fs ex H H1 h h1) {b : Addr} {ob : Obj} (q : h.get? b = some ob) (n : H b = none) (hx : b ∉ ex) : ∃ sl,h1.get? b = some { ob with slots := sl } := by
 by_cases hb : b ∈ fs
 ·exact u.slot b ob q n hb hx
 ·exact ⟨ob.slots,u.keep b ob q n hb hx⟩
theorem Un.kept (k : ∀ b u,h.get? b = some u → h'.get? b = some u) : Un fs ex H H h h' :=
 ⟨fun b ob q _ _ _ => k b ob q,fun b ob q _ _ _ => ⟨ob.slots,k b ob q⟩,fun _ _ _ n _ => n,fun b ob q _ => ⟨ob,k b ob q⟩,fun _ _ q => q,fun _ _ _ q => q,fun _ ps q => ⟨#[],by rw [q]; simp⟩⟩
theorem Un.refl : Un fs ex H H h h := Un.kept fun _ _ q => q
theorem Un.laid (k : ∀ b u,h.get? b = some u → h'.get? b = some u) (hp : h.objs.size ≤ a) (hn : H a = none) : Un fs ex H (upd H a o) h h' where
 keep := fun b u q _ _ _ => k b u q
 slot := fun b u q _ _ _ => ⟨u.slots,k b u q⟩
 free := fun b u q n _ => by rw [upd_ne (Nat.ne_of_lt (Nat.lt_of_lt_of_le (Heap.lt_size q) hp))]; exact n
 there := fun b u q _ => ⟨u,k b u q⟩
 tups := fun b xs q => by rw [upd_ne (ne_of_none q hn)]; exact q
 frzs := fun b u xs q => by rw [upd_ne (ne_of_none q hn)]; exact q
 tbls := fun b ps q => ⟨#[],by rw [upd_ne (ne_of_none q hn),q]; simp⟩
theorem Un.write (mu : Mut (H x)) (he : e = x ∨ H e = some (.own x)) (k : ∀ b u,b ≠ e → h.get? b = some u → h'.get? b = some u) (heo : ∃ u,h'.get? e = some u) : Un fs ex H (upd H x o) h h' := by
 have hx : ∀ b,H b = none → b ≠ x := fun b n z => by subst z; rw [n] at mu; exact mu
 have hb : ∀ b,H b = none → b ≠ e := fun b n z => by
  subst z
  rcases he with r | r
  ·exact hx b n r
  ·rw [n] at r; cases r
 have hm : ∀ b u,H b = some u → ¬ Mut (some u) → b ≠ x := fun b u q nm z => by subst z; rw [q] at mu; exact nm mu
 refine ⟨fun b u q n _ _ => k b u (hb b n) q,fun b u q n _ _ => ⟨u.slots,k b u (hb b n) q⟩,fun b u q n _ => by rw [upd_ne (hx b n)]; exact n,fun b u q _ => ?_,
  fun b xs q => by rw [upd_ne (hm b _ q fun z => z)]; exact q,fun b u xs q => by rw [upd_ne (hm b _ q fun z => z)]; exact q,fun b ps q => ⟨#[],by rw [upd_ne (hm b _ q fun z => z),q]; simp⟩⟩
 by_cases hbe : b = e
 ·subst hbe; exact heo
 ·exact ⟨u,k b u hbe q⟩
end
def trk (h : Heap) (H : Hp) : List Addr := (List.range h.objs.size).filter fun a => (H a).isSome
def hidT (h : Heap) (H : Hp) : Heap := PySem.W.hideAll h (trk h H)
theorem hidT_size (h : Heap) (H : Hp) : (hidT h H).objs.size = h.objs.size := PySem.W.hideAll_size _ _
theorem hidT_get {h : Heap} {H : Hp} {b : Addr} {o : Obj} (e : h.get? b = some o) (n : H b = none) : (hidT h H).get? b = some o :=
 PySem.W.hideAll_get _ e fun hm => by
  have q : (H b).isSome = true := (List.mem_filter.mp hm).2
  rw [n] at q; simp at q
theorem of_hidT {h : Heap} {H : Hp} {b : Addr} {o : Obj} (e : (hidT h H).get? b = some o) : h.get? b = some o ∧ H b = none := by
 have e' : h.get? b = some o := PySem.W.of_hideAll (trk h H) e
 refine ⟨e',?_⟩
 cases q : H b with
 | none => rfl
 | some x =>
  have hm : b ∈ trk h H := List.mem_filter.mpr ⟨List.mem_range.mpr (Heap.lt_size e'),by simp [q]⟩
  have z : (hidT h H).get? b = none := PySem.W.hideAll_none (trk h H) hm
  rw [z] at e; cases e
end L2
namespace L2
open PySem PySem.Spec PyProof.Rows
structure Mod (K : PySem.W.Frag) (mg : Str → Option Value) (base : Heap) : Prop where
 kin : K.In base
 glob : base.Ns mainGlobals mg
 blt : ∃ mb,base.Ns builtinsNs mb ∧ ∀ x : Str,x ≠ "__name__" → mb x = bootBuiltins x
 nolimit : base.NoLimit
structure Cx where
 prog : Program
 w : World
 K : PySem.W.Frag
 mg : Str → Option Value
 base : Heap
 A : Around
 N : List Str
 s₀ : Shared
 H₀ : Hp
 env : Env
 outer : List Env
 stack : List Env
 ex : List Addr
 fn : Str → Bool
 calm : Bool
 pn : List (Addr × Obj)
 xe : Value → Shared → Prop
def frs (l : List Env) : List Addr := l.filterMap (·.frame)
abbrev Cx.fs (X : Cx) : List Addr := frs X.outer
def Vis (sc : Scope) (x : Str) : Prop := sc.names.lookup x = some .local ∨ sc.names.lookup x = some .cell ∨ sc.names.lookup x = some .free
def Loc (sc : Scope) (x : Str) : Prop := sc.names.lookup x = some .local ∨ sc.names.lookup x = some .cell
def Look (env : Env) (h : Heap) (m : Str → Option Value) (x : Str) (u : Value) : Prop :=
 (env.kindOf x = some .local ∧ m x = some u) ∨ ((env.kindOf x = some .cell ∨ env.kindOf x = some .free) ∧ ∃ c,env.cells.lookup x = some c ∧ h.IsCell c (some u))
structure Cx.Ok (X : Cx) : Prop where
 mod : Mod X.K X.mg X.base
 kind : X.env.scope.kind = .function
 glob : X.env.globals = mainGlobals
 blt : X.env.builtins = builtinsNs
 above : X.s₀.heap.objs.size ≤ X.env.locals
 inj : ∀ x y c,X.env.cells.lookup x = some c → X.env.cells.lookup y = some c → x = y
 has : ∀ x,(X.env.kindOf x = some .cell ∨ X.env.kindOf x = some .free) → ∃ c,X.env.cells.lookup x = some c
 cab : ∀ x c,X.fn x = true → X.env.cells.lookup x = some c → X.s₀.heap.objs.size ≤ c
 hd : X.calm = true → X.A.handled = none
 frames : X.A.frames = some X.stack
 stk : X.stack = X.outer ∨ (X.stack = X.env :: X.outer ∧ X.env.frame = some X.env.locals)
 exf : ∀ b ∈ X.ex,b ≠ X.env.locals ∧ ∀ x c,X.env.cells.lookup x = some c → c ≠ b
 bs : ∀ b o,X.base.get? b = some o → X.s₀.heap.get? b = some o ∧ X.H₀ b = none
 bsz : X.base.objs.size ≤ X.s₀.heap.objs.size
 noex : ∀ b o,X.base.get? b = some o → b ∉ X.ex
 exfs : ∀ b ∈ X.ex,b ∉ X.fs
 funs : X.s₀.heap.FunFrames X.base X.outer
 frf : ∀ b ∈ X.fs,X.H₀ b = none
structure Inv (X : Cx) (pins : List (Addr × Obj)) (σ : List (Option V)) (H : Hp) (s : Shared) : Prop where
 ok : X.Ok
 os : s.os = X.s₀.os
 bare : AllBare s.gens
 base : Un X.fs X.ex X.H₀ H X.s₀.heap s.heap
 loc : ∃ m,s.heap.Ns X.env.locals m ∧ ∀ (i : Nat) (x : Str) (v : V),X.N[i]? = some x → σ[i]? = some (some v) → Vis X.env.scope x → ∃ u,RelV v u ∧ Look X.env s.heap m x u
 cell : ∀ x c,X.env.cells.lookup x = some c → ∃ v,s.heap.IsCell c v
 free : H X.env.locals = none
 freeC : ∀ x c,X.env.cells.lookup x = some c → H c = none
 pin : ∀ p ∈ X.pn ++ pins,s.heap.get? p.1 = some p.2 ∧ H p.1 = none ∧ p.1 ≠ X.env.locals ∧ p.1 ∉ X.fs ∧ ∀ v,p.2.data ≠ .cell v
 hok : HOk X.prog X.w H s.heap
 len : σ.length = X.N.length
section
variable {X : Cx} {pins : List (Addr × Obj)} {σ : List (Option V)} {H H' : Hp} {s : Shared} {h' : Heap}
theorem Cx.Ok.nofr (ok : X.Ok) {b : Addr} {o : Obj} (e : X.base.get? b = some o) : b ∉ X.fs := fun hb => by
 have := (ok.funs.mem hb).1
 rw [e] at this; cases this
theorem Inv.bs (I : Inv X pins σ H s) : ∀ b o,X.base.get? b = some o → s.heap.get? b = some o ∧ H b = none := fun b o e =>
 ⟨I.base.keep b o (I.ok.bs b o e).1 (I.ok.bs b o e).2 (I.ok.nofr e) (I.ok.noex b o e),I.base.free b o (I.ok.bs b o e).1 (I.ok.bs b o e).2 (I.ok.noex b o e)⟩
theorem Inv.bk (I : Inv X pins σ H s) : ∀ b o,X.base.get? b = some o → s.heap.get? b = some o := fun b o e => (I.bs b o e).1
theorem Inv.mod (I : Inv X pins σ H s) : Mod X.K X.mg X.base := I.ok.mod
theorem Inv.kIn (I : Inv X pins σ H s) : X.K.In s.heap := I.ok.mod.kin.keeps I.bk
theorem Inv.fr (I : Inv X pins σ H s) : ∃ m,Fr X.base X.env.locals s.heap m :=
 let ⟨m,hn,_⟩ := I.loc
 ⟨m,hn,I.bk,Nat.le_trans I.ok.bsz I.ok.above⟩
theorem Inv.lt (I : Inv X pins σ H s) : X.env.locals < s.heap.objs.size := let ⟨_,hn,_⟩ := I.loc; hn.lt
theorem Inv.sz (I : Inv X pins σ H s) : X.s₀.heap.objs.size ≤ s.heap.objs.size := Nat.le_trans I.ok.above (Nat.le_of_lt I.lt)
theorem Inv.nofs (I : Inv X pins σ H s) {a : Addr} (h : s.heap.objs.size ≤ a) : a ∉ X.fs := fun hb => by
 obtain ⟨_,o,ho,_⟩ := I.ok.funs.mem hb
 exact absurd (Nat.lt_of_lt_of_le (Heap.lt_size ho) (Nat.le_trans I.sz h)) (Nat.lt_irrefl _)
theorem Inv.cne (I : Inv X pins σ H s) : ∀ x c,X.env.cells.lookup x = some c → c ≠ X.env.locals := fun x c e z => by
 obtain ⟨v,o,ho,hd⟩ := I.cell x c e
 obtain ⟨m,⟨o',es,ep,ho',hd',_⟩,_⟩ := I.loc
 rw [z,ho'] at ho; cases ho; rw [hd'] at hd; cases hd
theorem Inv.funs (I : Inv X pins σ H s) : s.heap.FunFrames X.base X.outer := by
 have all : ∀ (l : List Env),(∀ b ∈ frs l,b ∈ X.fs) → X.s₀.heap.FunFrames X.base l → s.heap.FunFrames X.base l := by
  intro l
  induction l with
  | nil => intro _ _; trivial
  | cons env r ih =>
   intro hs hl
   obtain ⟨hk,⟨L,o,hf,hn,ho,hd⟩,hr⟩ := hl
   have hL : L ∈ X.fs := hs L (by unfold frs; rw [List.filterMap_cons,hf]; exact List.mem_cons_self)
   obtain ⟨sl,e⟩ := I.base.slot L o ho (I.ok.frf L hL) hL fun z => I.ok.exfs L z hL
   exact ⟨hk,⟨L,_,hf,hn,e,hd⟩,ih (fun b hb => hs b (by unfold frs; rw [List.filterMap_cons,hf]; exact List.mem_cons_of_mem _ hb)) hr⟩
 exact all X.outer (fun _ hb => hb) I.ok.funs
theorem Inv.stack (I : Inv X pins σ H s) : s.heap.FunFrames X.base X.stack := by
 rcases I.ok.stk with e | ⟨e,hf⟩
 ·rw [e]; exact I.funs
 ·rw [e]
  obtain ⟨m,hn,_⟩ := I.loc
  refine .cons (by rw [I.ok.kind]; decide) hf hn ?_ I.funs
  exact Heap.get?_none_of_le (Nat.le_trans I.ok.bsz I.ok.above)
theorem Inv.stkSub (I : Inv X pins σ H s) : ∀ b ∈ frs X.stack,b ∈ X.env.locals :: X.fs := fun b hb => by
 rcases I.ok.stk with e | ⟨e,hf⟩
 ·rw [e] at hb; exact List.mem_cons_of_mem _ hb
 ·rw [e] at hb
  unfold frs at hb
  rw [List.filterMap_cons,hf] at hb
  exact hb
theorem Inv.stkFree (I : Inv X pins σ H s) : ∀ b ∈ frs X.stack,H b = none := fun b hb => by
 rcases List.mem_cons.mp (I.stkSub b hb) with e | hb
 ·rw [e]; exact I.free
 ·obtain ⟨_,o,ho,_⟩ := I.ok.funs.mem hb
  exact I.base.free b o ho (I.ok.frf b hb) fun z => I.ok.exfs b z hb
theorem Inv.step {g' : Array GenState} {t' : Nat} {d' : Drawn} {ch : List Addr} (I : Inv X pins σ H s)
  (hch : ∀ b ∈ ch,(b ∈ X.ex ∨ X.s₀.heap.objs.size ≤ b) ∧ b ≠ X.env.locals ∧ (∀ x c,X.env.cells.lookup x = some c → c ≠ b) ∧ ∀ p ∈ X.pn ++ pins,p.1 ≠ b)
  (keep : ∀ b o,b ≠ X.env.locals → b ∉ X.fs → b ∉ ch → s.heap.get? b = some o → H b = none → h'.get? b = some o)
  (slot : ∀ b o,b ≠ X.env.locals → b ∈ X.fs → b ∉ ch → s.heap.get? b = some o → H b = none → ∃ sl,h'.get? b = some { o with slots := sl }) (free : ∀ b o,b ∉ ch → s.heap.get? b = some o → H b = none → H' b = none)
  (there : ∀ b o,b ∉ ch → s.heap.get? b = some o → ∃ o',h'.get? b = some o')
  (tups : ∀ b xs,H b = some (.tup xs) → H' b = some (.tup xs)) (frzs : ∀ b o u,H b = some (.frz o u) → H' b = some (.frz o u)) (tbls : ∀ b ps,H b = some (.tbl ps) → ∃ more,H' b = some (.tbl (ps ++ more)))
  (ns : ∀ m,s.heap.Ns X.env.locals m → h'.Ns X.env.locals m) (hok : HOk X.prog X.w H' h') (hg : AllBare g') :
  Inv X pins σ H' { s with heap := h',gens := g',drawn := d',toks := t' } := by
 have neL : ∀ b o,X.s₀.heap.get? b = some o → b ≠ X.env.locals := fun b o e => Nat.ne_of_lt (Nat.lt_of_lt_of_le (Heap.lt_size e) I.ok.above)
 have neC : ∀ b o,X.s₀.heap.get? b = some o → b ∉ X.ex → b ∉ ch := fun b o e hx hb => by
  rcases (hch b hb).1 with z | z
  ·exact hx z
  ·exact absurd (Nat.lt_of_lt_of_le (Heap.lt_size e) z) (Nat.lt_irrefl _)
 have cellK : ∀ x c,X.env.cells.lookup x = some c → ∀ v,s.heap.IsCell c v → h'.IsCell c v := fun x c e v ⟨o,ho,hd⟩ => by
  have nch : c ∉ ch := fun z => (hch c z).2.2.1 x c e rfl
  by_cases hc : c ∈ X.fs
  ·obtain ⟨sl,q⟩ := slot c o (I.cne x c e) hc nch ho (I.freeC x c e)
   exact ⟨_,q,hd⟩
  ·exact ⟨o,keep c o (I.cne x c e) hc nch ho (I.freeC x c e),hd⟩
 refine ⟨I.ok,I.os,hg,⟨fun b o e n hb hx => ?_,fun b o e n hb hx => ?_,fun b o e n hx => ?_,fun b o e hx => ?_,fun b xs e => tups b xs (I.base.tups b xs e),fun b o xs e => frzs b o xs (I.base.frzs b o xs e),fun b ps e => ?_⟩,?_,fun x c e => ?_,?_,fun x c e => ?_,fun p hp => ?_,hok,I.len⟩
 ·exact keep b o (neL b o e) hb (neC b o e hx) (I.base.keep b o e n hb hx) (I.base.free b o e n hx)
 ·obtain ⟨sl,e1⟩ := I.base.slot b o e n hb hx
  obtain ⟨sl',e2⟩ := slot b _ (neL b o e) hb (neC b o e hx) e1 (I.base.free b o e n hx)
  exact ⟨sl',e2⟩
 ·obtain ⟨o',e1⟩ := I.base.there b o e hx
  exact free b o' (neC b o e hx) e1 (I.base.free b o e n hx)
 ·obtain ⟨o',e1⟩ := I.base.there b o e hx
  exact there b o' (neC b o e hx) e1
 ·obtain ⟨m1,e1⟩ := I.base.tbls b ps e
  obtain ⟨m2,e2⟩ := tbls b _ e1
  exact ⟨m1 ++ m2,by rw [e2,Array.append_assoc]⟩
 ·obtain ⟨m,hn,hl⟩ := I.loc
  refine ⟨m,ns m hn,fun i x v e1 e2 e3 => ?_⟩
  obtain ⟨u,r,l⟩ := hl i x v e1 e2 e3
  refine ⟨u,r,?_⟩
  rcases l with l | ⟨k,c,e,z⟩
  ·exact .inl l
  ·exact .inr ⟨k,c,e,cellK x c e _ z⟩
 ·obtain ⟨v,z⟩ := I.cell x c e
  exact ⟨v,cellK x c e v z⟩
 ·obtain ⟨m,⟨o,_,_,ho,_⟩,_⟩ := I.loc
  exact free _ o (fun z => (hch _ z).2.1 rfl) ho I.free
 ·obtain ⟨v,o,ho,hd⟩ := I.cell x c e
  exact free c o (fun z => (hch c z).2.2.1 x c e rfl) ho (I.freeC x c e)
 ·obtain ⟨e,n,ne,nf,d⟩ := I.pin p hp
  have nch : p.1 ∉ ch := fun z => (hch p.1 z).2.2.2 p hp rfl
  exact ⟨keep p.1 p.2 ne nf nch e n,free p.1 p.2 nch e n,ne,nf,d⟩
theorem Inv.un {t' : Nat} (I : Inv X pins σ H s) (u : Un X.fs [] H H' s.heap h') (hok : HOk X.prog X.w H' h') : Inv X pins σ H' { s with heap := h',toks := t' } := by
 obtain ⟨m,⟨o,es,ep,ho,r⟩,_⟩ := id I.loc
 obtain ⟨sl,hL⟩ := u.any ho I.free (by simp)
 exact I.step (g' := s.gens) (d' := s.drawn) (ch := []) (fun _ z => nomatch z) (fun b o _ hb _ e n => u.keep b o e n hb (by simp)) (fun b o _ hb _ e n => u.slot b o e n hb (by simp)) (fun b o _ e n => u.free b o e n (by simp)) (fun b o _ e => u.there b o e (by simp)) u.tups u.frzs u.tbls (fun m' hm => by
  obtain ⟨o',es',ep',ho',r'⟩ := hm
  rw [ho] at ho'; cases ho'
  exact ⟨_,es',ep',hL,r'⟩) hok I.bare
theorem Inv.call {g' : Array GenState} {t' : Nat} {d' : Drawn} {ch : List Addr} (I : Inv X pins σ H s) (u : Un (frs X.stack) ch H H' s.heap h') (hok : HOk X.prog X.w H' h') (hg : AllBare g')
  (hch : ∀ b ∈ ch,(b ∈ X.ex ∨ X.s₀.heap.objs.size ≤ b) ∧ b ≠ X.env.locals ∧ (∀ x c,X.env.cells.lookup x = some c → c ≠ b) ∧ ∀ p ∈ X.pn ++ pins,p.1 ≠ b) :
  Inv X pins σ H' { s with heap := h',gens := g',drawn := d',toks := t' } := by
 obtain ⟨m,⟨o,es,ep,ho,r⟩,_⟩ := id I.loc
 obtain ⟨sl,hL⟩ := u.any ho I.free fun z => (hch _ z).2.1 rfl
 exact I.step (ch := ch) hch (fun b o hL hb hc e n => u.keep b o e n (fun z => (List.mem_cons.mp (I.stkSub b z)).elim hL hb) hc) (fun b o _ _ hc e n => u.any e n hc) (fun b o hc e n => u.free b o e n hc) (fun b o hc e => u.there b o e hc) u.tups u.frzs u.tbls (fun m' hm => by
  obtain ⟨o',es',ep',ho',r'⟩ := hm
  rw [ho] at ho'; cases ho'
  exact ⟨_,es',ep',hL,r'⟩) hok hg
theorem Inv.turned {t' : Nat} {it : Addr} (I : Inv X pins σ H s) (k : ∀ b o,b ≠ it → s.heap.get? b = some o → h'.get? b = some o) (hn : H it = none) (hL : it ≠ X.env.locals)
  (h1 : it ∈ X.ex ∨ X.s₀.heap.objs.size ≤ it) (h2 : ∀ x c,X.env.cells.lookup x = some c → c ≠ it) (h3 : ∀ p ∈ X.pn ++ pins,p.1 ≠ it) : Inv X pins σ H { s with heap := h',toks := t' } := by
 have nit : ∀ b u,H b = some u → b ≠ it := fun b u e z => by rw [z,hn] at e; cases e
 refine I.step (g' := s.gens) (d' := s.drawn) (ch := [it]) (fun b hb => ?_) (fun b o _ _ hc e _ => k b o (fun z => hc (by simp [z])) e) (fun b o _ _ hc e _ => ⟨o.slots,k b o (fun z => hc (by simp [z])) e⟩) (fun _ _ _ _ n => n)
  (fun b o hc e => ⟨o,k b o (fun z => hc (by simp [z])) e⟩) (fun _ _ e => e) (fun _ _ _ e => e) (fun b ps e => ⟨#[],by rw [e]; simp⟩) (fun m hm => ?_) (fun b u e => ?_) I.bare
 ·have e : b = it := by simpa using hb
  subst e
  exact ⟨h1,hL,h2,h3⟩
 ·obtain ⟨o,es,ep,ho,r⟩ := hm
  exact ⟨o,es,ep,k _ o (Ne.symm hL) ho,r⟩
 ·refine (I.hok b u e).stay (fun c v hc q => k c v ?_ q) (fun _ q => q) fun _ _ q => q
  rcases hc with z | z
  ·rw [z]; exact nit b u e
  ·exact nit c _ z
theorem Inv.tok (I : Inv X pins σ H s) (t : Nat) : Inv X pins σ H { s with toks := t } := I.un (h' := s.heap) (t' := t) Un.refl I.hok
theorem Inv.kept {t' : Nat} (I : Inv X pins σ H s) (k : ∀ b u,s.heap.get? b = some u → h'.get? b = some u) : Inv X pins σ H { s with heap := h',toks := t' } := I.un (Un.kept k) (I.hok.kept k)
theorem Inv.laid {a : Addr} {o : HO} {t' : Nat} (I : Inv X pins σ H s) (k : ∀ b u,s.heap.get? b = some u → h'.get? b = some u) (hp : s.heap.objs.size ≤ a) (new : ObjOk X.prog X.w (upd H a o) h' a o) :
  Inv X pins σ (upd H a o) { s with heap := h',toks := t' } := I.un (Un.laid k hp (I.hok.fresh hp)) (I.hok.laid k hp new)
theorem Inv.write {x e : Addr} {o : HO} {t' : Nat} (I : Inv X pins σ H s) (mu : Mut (H x)) (he : e = x ∨ H e = some (.own x)) (k : ∀ b u,b ≠ e → s.heap.get? b = some u → h'.get? b = some u) (heo : ∃ u,h'.get? e = some u)
  (new : ObjOk X.prog X.w (upd H x o) h' x o) : Inv X pins σ (upd H x o) { s with heap := h',toks := t' } := I.un (Un.write mu he k heo) (I.hok.write mu he k heo new)
theorem Inv.weak {σ' : List (Option V)} (I : Inv X pins σ H s) (hl : σ'.length = σ.length) (w : ∀ (i : Nat) v,σ'[i]? = some (some v) → σ[i]? = some (some v)) : Inv X pins σ' H s :=
 ⟨I.ok,I.os,I.bare,I.base,let ⟨m,hn,hl'⟩ := I.loc; ⟨m,hn,fun i x v e1 e2 e3 => hl' i x v e1 (w i v e2) e3⟩,I.cell,I.free,I.freeC,I.pin,I.hok,hl.trans I.len⟩
theorem Inv.pins_of {pins' : List (Addr × Obj)} (I : Inv X pins σ H s) (h : ∀ p ∈ pins',s.heap.get? p.1 = some p.2 ∧ H p.1 = none ∧ p.1 ≠ X.env.locals ∧ p.1 ∉ X.fs ∧ ∀ v,p.2.data ≠ .cell v) : Inv X pins' σ H s :=
 ⟨I.ok,I.os,I.bare,I.base,I.loc,I.cell,I.free,I.freeC,fun p hp => (List.mem_append.mp hp).elim (fun z => I.pin p (List.mem_append_left _ z)) (h p),I.hok,I.len⟩
theorem nodup_ix {N : List Str} (hN : N.Nodup) {i j : Nat} {x : Str} (a : N[i]? = some x) (b : N[j]? = some x) : i = j := by
 obtain ⟨h1,e1⟩ := List.getElem?_eq_some_iff.mp a
 obtain ⟨h2,e2⟩ := List.getElem?_eq_some_iff.mp b
 exact (List.getElem_inj hN).mp (e1.trans e2.symm)
theorem store_ok2 {M : Model} {A : Around} {E : Value → Shared → Prop} {i : Nat} {x : Str} {v : V} {u : Value} {Q : Unit → Shared → Prop} (I : Inv X pins σ H s) (hN : X.N.Nodup) (hi : X.N[i]? = some x) (hx : Loc X.env.scope x) (r : RelV v u)
  (h : ∀ s',Inv X pins (σ.set i (some v)) H s' → (∃ a,Heap.SameBut a s.heap s'.heap ∧ (a = X.env.locals ∨ X.env.cells.lookup x = some a)) → Q () s') (hf : X.fn x = true ∨ X.env.scope.names.lookup x = some .local := by first | exact .inl rfl | exact .inr rfl | assumption) : wpAny M A (storeName X.env x u) Q E s := by
 obtain ⟨m,hn,hl⟩ := id I.loc
 have hcls : (X.env.scope.kind == .class || (X.env.scope.kind == .module && X.env.locals != X.env.globals)) = false := by rw [I.ok.kind]; rfl
 have hiσ : i < σ.length := by rw [I.len]; exact (List.getElem?_eq_some_iff.mp hi).1
 have cne := I.cne
 have tracked : ∀ {a : Addr} {h' : Heap},(∃ o,s.heap.get? a = some o ∧ H a = none) → Heap.SameBut a s.heap h' → HOk X.prog X.w H h' := fun {a h'} ha hs b ob e => by
  obtain ⟨_,_,hfree⟩ := ha
  refine (I.hok b ob e).stay (fun c w' hc q => (hs.2 c ?_).trans q) (fun _ q => q) fun _ _ q => q
  rintro rfl
  rcases hc with rfl | hc
  ·rw [hfree] at e; cases e
  ·rw [hfree] at hc; cases hc
 rcases hx with hk | hk
 ·refine wpAny_storeName_local hk hn (fun h' hn' hs => ?_) hcls
  obtain ⟨oL,_,_,hoL,_⟩ := id hn
  refine h _ ⟨I.ok,I.os,I.bare,⟨fun b o e n hb hx => ?_,fun b o e n hb hx => ?_,I.base.free,fun b o e hx => ?_,I.base.tups,I.base.frzs,I.base.tbls⟩,⟨_,hn',fun j y v' e1 e2 e3 => ?_⟩,fun y c e => ?_,I.free,I.freeC,fun p hp => ?_,tracked ⟨oL,hoL,I.free⟩ hs,by simpa using I.len⟩ ⟨_,hs,.inl rfl⟩
  ·exact (hs.2 b (Nat.ne_of_lt (Nat.lt_of_lt_of_le (Heap.lt_size e) I.ok.above))).trans (I.base.keep b o e n hb hx)
  ·obtain ⟨sl,e1⟩ := I.base.slot b o e n hb hx
   exact ⟨sl,(hs.2 b (Nat.ne_of_lt (Nat.lt_of_lt_of_le (Heap.lt_size e) I.ok.above))).trans e1⟩
  ·obtain ⟨o',e1⟩ := I.base.there b o e hx
   exact ⟨o',(hs.2 b (Nat.ne_of_lt (Nat.lt_of_lt_of_le (Heap.lt_size e) I.ok.above))).trans e1⟩
  ·by_cases hj : j = i
   ·subst hj
    rw [hi] at e1; cases e1
    rw [List.getElem?_set_self hiσ] at e2
    cases e2
    exact ⟨u,r,.inl ⟨hk,by simp⟩⟩
   ·rw [List.getElem?_set_ne (Ne.symm hj)] at e2
    obtain ⟨u',r',q⟩ := hl j y v' e1 e2 e3
    refine ⟨u',r',?_⟩
    rcases q with ⟨k,e⟩ | ⟨k,c,e,z⟩
    ·refine .inl ⟨k,?_⟩
     have : y ≠ x := fun e => hj (nodup_ix hN e1 (e ▸ hi))
     simp [this,e]
    ·exact .inr ⟨k,c,e,z.sameBut hs (cne y c e)⟩
  ·obtain ⟨w',z⟩ := I.cell y c e
   exact ⟨w',z.sameBut hs (cne y c e)⟩
  ·obtain ⟨e,n,ne,nf,d⟩ := I.pin p hp
   exact ⟨(hs.2 p.1 ne).trans e,n,ne,nf,d⟩
 ·have hfn : X.fn x = true := by
   rcases hf with z | z
   ·exact z
   ·rw [z] at hk; cases hk
  obtain ⟨c,hc⟩ := I.ok.has x (.inl hk)
  obtain ⟨w',z⟩ := I.cell x c hc
  refine wpAny_storeName_cell I.ok.kind hk hc z (fun h' hc' hs => ?_)
  obtain ⟨oc,hoc,hocd⟩ := id z
  refine h { s with heap := h' } ⟨I.ok,I.os,I.bare,⟨fun b o e n hb hx => ?_,fun b o e n hb hx => ?_,I.base.free,fun b o e hx => ?_,I.base.tups,I.base.frzs,I.base.tbls⟩,⟨m,hn.sameBut hs (Ne.symm (cne x c hc)),fun j y v' e1 e2 e3 => ?_⟩,fun y c' e => ?_,I.free,I.freeC,fun p hp => ?_,tracked ⟨oc,hoc,I.freeC x c hc⟩ hs,by simpa using I.len⟩ ⟨c,hs,.inr hc⟩
  ·exact (hs.2 b (Nat.ne_of_lt (Nat.lt_of_lt_of_le (Heap.lt_size e) (I.ok.cab x c hfn hc)))).trans (I.base.keep b o e n hb hx)
  ·obtain ⟨sl,e1⟩ := I.base.slot b o e n hb hx
   exact ⟨sl,(hs.2 b (Nat.ne_of_lt (Nat.lt_of_lt_of_le (Heap.lt_size e) (I.ok.cab x c hfn hc)))).trans e1⟩
  ·obtain ⟨o',e1⟩ := I.base.there b o e hx
   exact ⟨o',(hs.2 b (Nat.ne_of_lt (Nat.lt_of_lt_of_le (Heap.lt_size e) (I.ok.cab x c hfn hc)))).trans e1⟩
  ·by_cases hj : j = i
   ·subst hj
    rw [hi] at e1; cases e1
    rw [List.getElem?_set_self hiσ] at e2
    cases e2
    exact ⟨u,r,.inr ⟨.inl hk,c,hc,hc'⟩⟩
   ·rw [List.getElem?_set_ne (Ne.symm hj)] at e2
    obtain ⟨u',r',q⟩ := hl j y v' e1 e2 e3
    refine ⟨u',r',?_⟩
    rcases q with q | ⟨k,c',e,z'⟩
    ·exact .inl q
    ·refine .inr ⟨k,c',e,z'.sameBut hs ?_⟩
     rintro rfl
     exact hj (nodup_ix hN e1 (I.ok.inj _ _ _ e hc ▸ hi))
  ·by_cases hcc : c' = c
   ·subst hcc; exact ⟨_,hc'⟩
   ·obtain ⟨w2,z2⟩ := I.cell y c' e
    exact ⟨w2,z2.sameBut hs hcc⟩
  ·obtain ⟨e,n,ne,nf,d⟩ := I.pin p hp
   refine ⟨(hs.2 p.1 ?_).trans e,n,ne,nf,d⟩
   intro q
   rw [q,hoc] at e
   have q' : oc = p.2 := Option.some.inj e
   exact d w' (by rw [← q']; exact hocd)
theorem store_ok {M : Model} {A : Around} {E : Value → Shared → Prop} {i : Nat} {x : Str} {v : V} {u : Value} {Q : Unit → Shared → Prop} (I : Inv X pins σ H s) (hN : X.N.Nodup) (hi : X.N[i]? = some x) (hx : Loc X.env.scope x) (r : RelV v u)
  (h : ∀ s',Inv X pins (σ.set i (some v)) H s' → Q () s') (hf : X.fn x = true ∨ X.env.scope.names.lookup x = some .local := by first | exact .inl rfl | exact .inr rfl | assumption) : wpAny M A (storeName X.env x u) Q E s :=
 store_ok2 I hN hi hx r (fun s' I' _ => h s' I') hf
theorem Inv.call' {s' : Shared} {ch : List Addr} (I : Inv X pins σ H s) (ho : s'.os = s.os) (u : Un (frs X.stack) ch H H' s.heap s'.heap) (hok : HOk X.prog X.w H' s'.heap) (hg : AllBare s'.gens)
  (hch : ∀ b ∈ ch,(b ∈ X.ex ∨ X.s₀.heap.objs.size ≤ b) ∧ b ≠ X.env.locals ∧ (∀ x c,X.env.cells.lookup x = some c → c ≠ b) ∧ ∀ p ∈ X.pn ++ pins,p.1 ≠ b) : Inv X pins σ H' s' := by
 obtain ⟨h',g',d',t',o'⟩ := s'
 have e : o' = s.os := ho
 subst e
 exact I.call (g' := g') (t' := t') (d' := d') u hok hg hch
end
abbrev XK := Value → Option Addr → Hp → Prop
abbrev St := List (Option V)
abbrev VK := V → Hp → Prop
abbrev TE := St → Hp → VK → Prop
abbrev TT := St → Hp → (Bool → Hp → Prop) → Prop
abbrev TA := St → Hp → (List V → Hp → Prop) → Prop
structure Ends where
 nx : St → Hp → Prop
 rt : VK
 bk : St → Hp → Prop := fun _ _ => False
 ct : St → Hp → Prop := fun _ _ => False
abbrev TS := Ends → St → Hp → Prop
def EP (X : Cx) (pins : List (Addr × Obj)) (σ : St) (Q : VK) (u : Value) (s' : Shared) : Prop := ∃ v H',Inv X pins σ H' s' ∧ RelV v u ∧ Q v H'
def TP (X : Cx) (pins : List (Addr × Obj)) (σ : St) (Q : Bool → Hp → Prop) (b : Bool) (s' : Shared) : Prop := ∃ H',Inv X pins σ H' s' ∧ Q b H'
def AP (X : Cx) (pins : List (Addr × Obj)) (σ : St) (Q : List V → Hp → Prop) (us : List Value) (s' : Shared) : Prop := ∃ vs H',Inv X pins σ H' s' ∧ Vals vs us ∧ Q vs H'
def SP (X : Cx) (pins : List (Addr × Obj)) (D : Ends) (f : Flow) (s' : Shared) : Prop :=
 match f with
 | .next => ∃ σ' H',Inv X pins σ' H' s' ∧ D.nx σ' H'
 | .brk => ∃ σ' H',Inv X pins σ' H' s' ∧ D.bk σ' H'
 | .cont => ∃ σ' H',Inv X pins σ' H' s' ∧ D.ct σ' H'
 | .ret u => ∃ v σ' H',Inv X pins σ' H' s' ∧ RelV v u ∧ D.rt v H'
def PE (X : Cx) (e : Expr) (t : TE) : Prop :=
 ∀ (pins : List (Addr × Obj)) (s : Shared) (σ : St) (H : Hp) (Q : VK),Inv X pins σ H s → t σ H Q → wpAny (model X.prog X.w) X.A (eval e X.env) (EP X pins σ Q) X.xe s
def PT (X : Cx) (e : Expr) (t : TT) : Prop :=
 ∀ (pins : List (Addr × Obj)) (s : Shared) (σ : St) (H : Hp) (Q : Bool → Hp → Prop),Inv X pins σ H s → t σ H Q → wpAny (model X.prog X.w) X.A (isTrue e X.env (eval e X.env)) (TP X pins σ Q) X.xe s
def PW (X : Cx) (e : Expr) (t : TT) : Prop :=
 ∀ (whole : Sem Value) (pins : List (Addr × Obj)) (s : Shared) (σ : St) (H : Hp) (Q : Bool → Hp → Prop),Inv X pins σ H s → t σ H Q → wpAny (model X.prog X.w) X.A (isTrue e X.env whole) (TP X pins σ Q) X.xe s
theorem PW.pt {X : Cx} {e : Expr} {t : TT} (h : PW X e t) : PT X e t := h _
def PA (X : Cx) (es : List Expr) (t : TA) : Prop :=
 ∀ (pos : Pos) (pins : List (Addr × Obj)) (s : Shared) (σ : St) (H : Hp) (Q : List V → Hp → Prop),Inv X pins σ H s → t σ H Q → wpAny (model X.prog X.w) X.A (spliced (backTo pos (starEach es X.env))) (AP X pins σ Q) X.xe s
def PS (X : Cx) (st : Stmt) (t : TS) : Prop :=
 ∀ (pins : List (Addr × Obj)) (s : Shared) (σ : St) (H : Hp) (D : Ends),Inv X pins σ H s → t D σ H → wpAny (model X.prog X.w) X.A (exec st X.env) (SP X pins D) X.xe s
def PSs (X : Cx) (st : List Stmt) (t : TS) : Prop :=
 ∀ (pins : List (Addr × Obj)) (s : Shared) (σ : St) (H : Hp) (D : Ends),Inv X pins σ H s → t D σ H → wpAny (model X.prog X.w) X.A (execs st X.env) (SP X pins D) X.xe s
theorem thn {α : Type} {t : Sem α} {Q Q' : α → Shared → Prop} {M : Model} {A : Around} {E : Value → Shared → Prop} {s : Shared} (h : wpAny M A t Q E s) (hQ : ∀ a s,Q a s → Q' a s) : wpAny M A t Q' E s := wpAny_mono h hQ fun _ _ x => x
end L2
namespace L2
open PySem PySem.Spec PyProof.Rows
section
variable {X : Cx}
theorem bin {a b : Expr} {ta tb : TE} (ha : PE X a ta) (hb : PE X b tb) {pins : List (Addr × Obj)} {s : Shared} {σ : St} {H : Hp} {R : V → V → Hp → Prop} (I : Inv X pins σ H s) (h : ta σ H fun x H1 => tb σ H1 fun y H2 => R x y H2)
  {α : Type} {Q : α → Shared → Prop} {f : Value → Value → Sem α}
  (hf : ∀ v u s2 x y H2,Inv X pins σ H2 s2 → RelV x v → RelV y u → R x y H2 → wpAny (model X.prog X.w) X.A (f v u) Q X.xe s2) :
  wpAny (model X.prog X.w) X.A (eval a X.env) (fun v s₁ => wpAny (model X.prog X.w) X.A (eval b X.env) (fun u s₂ => wpAny (model X.prog X.w) X.A (f v u) Q X.xe s₂) X.xe s₁) X.xe s := by
 refine thn (ha pins s σ H _ I h) fun v s1 ⟨x,H1,I1,r1,q1⟩ => ?_
 refine thn (hb pins s1 σ H1 _ I1 q1) fun u s2 ⟨y,H2,I2,r2,q2⟩ => ?_
 exact hf v u s2 x y H2 I2 r1 r2 q2
def tVar (i : Nat) : TE := fun σ H Q => ∃ v,σ[i]? = some (some v) ∧ Q v H
def tC (v : V) : TE := fun _ H Q => Q v H
theorem pe_var {i : Nat} {x : Str} {pos : Pos} (hN : X.N[i]? = some x) (hv : Vis X.env.scope x) (hd : (x == ("__debug__" : Str)) = false := by decide) (hcd : (x == ("__classdict__" : Str)) = false := by decide) : PE X (.Name x pos) (tVar i) := by
 intro pins s σ H Q I h
 obtain ⟨v,e,h⟩ := h
 obtain ⟨m,hn,hl⟩ := I.loc
 obtain ⟨u,r,l⟩ := hl i x v hN e hv
 have fin : EP X pins σ Q u s := ⟨v,H,I,r,h⟩
 rcases l with ⟨hk,hm⟩ | ⟨hk,c,hc,hcell⟩
 ·exact wpAny_Name (wpAny_loadName_local I.ok.kind hk hn hm fin) hd
 ·rcases hk with hk | hk
  ·exact wpAny_Name (wpAny_loadName_cell I.ok.kind hk hc hcell fin) hd
  ·exact wpAny_Name (wpAny_loadName_free I.ok.kind hk hc hcell fin hcd) hd
theorem pe_int {i j pos} : PE X (.Constant (.int i) j pos) (tC (.int i)) := fun _ _ _ H _ I h => wpAny_Constant_int ⟨.int i,H,I.tok _,⟨_,rfl⟩,h⟩
theorem pe_bl {b j pos} : PE X (.Constant (.bool b) j pos) (tC (.bl b)) := fun _ _ _ H _ I h => Constant_bool ⟨.bl b,H,I,rfl,h⟩
theorem pe_non {j pos} : PE X (.Constant .none j pos) (tC .non) := fun _ _ _ H _ I h => Constant_none ⟨.non,H,I,rfl,h⟩
theorem pe_str {x j pos} : PE X (.Constant (.str x) j pos) (tC (.str x)) := fun _ _ _ H _ I h => Calls.Constant_str ⟨.str x,H,I.tok _,⟨_,rfl⟩,h⟩
def Gl (X : Cx) (x : Str) : Prop := X.env.kindOf x = some .globalImplicit
theorem ld_glob {E : Value → Shared → Prop} {pins : List (Addr × Obj)} {s : Shared} {σ : St} {H : Hp} {x : Str} {u : Value} {pos : Pos} {Q : Value → Shared → Prop} (I : Inv X pins σ H s) (hg : Gl X x) (hm : X.mg x = some u) (h : Q u s)
  (hd : (x == ("__debug__" : Str)) = false := by decide) : wpAny (model X.prog X.w) X.A (eval (.Name x pos) X.env) Q E s :=
 Calls.Name_function_global I.ok.kind hg (Calls.loadGlobal_global (by rw [I.ok.glob]; exact I.mod.glob.keeps I.bk) hm h) hd
theorem ld_blt {E : Value → Shared → Prop} {pins : List (Addr × Obj)} {s : Shared} {σ : St} {H : Hp} {x : Str} {u : Value} {pos : Pos} {Q : Value → Shared → Prop} (I : Inv X pins σ H s) (hg : Gl X x) (hm : X.mg x = none) (hv : bootBuiltins x = some u) (h : Q u s)
  (hn : x ≠ "__name__" := by decide) (hd : (x == ("__debug__" : Str)) = false := by decide) : wpAny (model X.prog X.w) X.A (eval (.Name x pos) X.env) Q E s := by
 obtain ⟨mb,h1,h2⟩ := I.mod.blt
 exact Calls.Name_function_global I.ok.kind hg (Calls.loadGlobal_builtin (by rw [I.ok.glob]; exact I.mod.glob.keeps I.bk) hm (by rw [I.ok.blt]; exact h1.keeps I.bk) ((h2 x hn).trans hv) h) hd
theorem pe_glob {x : Str} {v : V} {u : Value} {pos : Pos} (hg : Gl X x) (hm : X.mg x = some u) (r : RelV v u) (hd : (x == ("__debug__" : Str)) = false := by decide) : PE X (.Name x pos) (tC v) :=
 fun _ _ _ H _ I h => ld_glob I hg hm ⟨v,H,I,r,h⟩ hd
theorem pe_bltn {x : Str} {v : V} {u : Value} {pos : Pos} (hg : Gl X x) (hm : X.mg x = none) (hv : bootBuiltins x = some u) (r : RelV v u) (hn : x ≠ "__name__" := by decide) (hd : (x == ("__debug__" : Str)) = false := by decide) : PE X (.Name x pos) (tC v) :=
 fun _ _ _ H _ I h => ld_blt I hg hm hv ⟨v,H,I,r,h⟩ hn hd
variable {a b : Expr} {ta tb : TE} {pos : Pos}
def PC (X : Cx) (op : CmpOp) (a b : Expr) (t : TE) : Prop :=
 ∀ (pins : List (Addr × Obj)) (s : Shared) (σ : St) (H : Hp) (Q : VK),Inv X pins σ H s → t σ H Q →
  wpAny (model X.prog X.w) X.A (eval a X.env) (fun v s₁ => wpAny (model X.prog X.w) X.A (eval b X.env) (fun u s₂ => wpAny (model X.prog X.w) X.A (compareOp op v u) (EP X pins σ Q) X.xe s₂) X.xe s₁) X.xe s
def tB (t : TE) : TT := fun σ H Q => t σ H fun x H1 => ∃ c,x = .bl c ∧ Q c H1
theorem pt_cmp {op : CmpOp} {t : TE} (h : PC X op a b t) (h1 : behindInMarks op b = false := by first | exact nobehind _ (by decide) (by decide) | rfl) : PT X (.Compare a [op] [b] pos) (tB t) := by
 intro pins s σ H Q I hw
 refine wpAny_isTrue_Compare1 (thn (h pins s σ H _ I hw) fun v s1 h1 => thn h1 fun u s2 h2 => thn h2 fun c s3 ⟨x,H1,I1,r1,q1⟩ => ?_) h1
 obtain ⟨d,rfl,q⟩ := q1
 cases r1
 exact wpAny_truthy_bool ⟨H1,I1,q⟩
theorem pt_val {e : Expr} {t : TE} (h : PE X e t) (he : ∀ whole,isTrue e X.env whole = (do let v ← whole; standAt e.pos; holding [v] (truthy v)) := by intro _; rfl) : PT X e (tB t) := by
 intro pins s σ H Q I hw
 refine isTrue_plain (thn (h pins s σ H _ I hw) fun v s1 ⟨x,H1,I1,r1,q1⟩ => ?_) (he _)
 obtain ⟨d,rfl,q⟩ := q1
 cases r1
 exact wpAny_truthy_bool ⟨H1,I1,q⟩
variable {tA tB' : TT} {rest : List Expr}
def tAnd (t u : TT) : TT := fun σ H Q => t σ H fun c H1 => if c = true then u σ H1 Q else Q false H1
def tOr (t u : TT) : TT := fun σ H Q => t σ H fun c H1 => if c = true then Q true H1 else u σ H1 Q
def tNot (t : TT) : TT := fun σ H Q => t σ H fun c H1 => Q (!c) H1
theorem pw_and1 (ha : PT X a tA) : PW X (.BoolOp .And [a] pos) tA := by
 intro wh pins s σ H Q I h
 refine isTrue_and (thn (ha pins s σ H Q I h) fun c s1 e => ?_)
 cases c with
 | true => exact isTrue_and_nil e
 | false => exact e
theorem pw_or1 (ha : PT X a tA) : PW X (.BoolOp .Or [a] pos) tA := by
 intro wh pins s σ H Q I h
 refine isTrue_or (thn (ha pins s σ H Q I h) fun c s1 e => ?_)
 cases c with
 | false => exact isTrue_or_nil e
 | true => exact e
theorem pw_and (ha : PT X a tA) (hb : PW X (.BoolOp .And (b :: rest) pos) tB') : PW X (.BoolOp .And (a :: b :: rest) pos) (tAnd tA tB') := by
 intro wh pins s σ H Q I h
 refine isTrue_and (thn (ha pins s σ H _ I h) fun c s1 ⟨H1,I1,q1⟩ => ?_)
 cases c with
 | true => exact hb wh pins s1 σ H1 Q I1 q1
 | false => exact ⟨H1,I1,q1⟩
theorem pw_or (ha : PT X a tA) (hb : PW X (.BoolOp .Or (b :: rest) pos) tB') : PW X (.BoolOp .Or (a :: b :: rest) pos) (tOr tA tB') := by
 intro wh pins s σ H Q I h
 refine isTrue_or (thn (ha pins s σ H _ I h) fun c s1 ⟨H1,I1,q1⟩ => ?_)
 cases c with
 | true => exact ⟨H1,I1,q1⟩
 | false => exact hb wh pins s1 σ H1 Q I1 q1
theorem pt_not (ha : PT X a tA) : PT X (.UnaryOp .Not a pos) (tNot tA) := by
 intro pins s σ H Q I h
 exact isTrue_not (ha pins s σ H (fun c H1 => Q (!c) H1) I h)
def tAndV (ta tb : TE) : TE := fun σ H Q => ta σ H fun x H1 => ∃ c,x = .bl c ∧ if c = true then tb σ H1 Q else Q (.bl false) H1
def tNotV (ta : TE) : TE := fun σ H Q => ta σ H fun x H1 => ∃ c,x = .bl c ∧ Q (.bl (!c)) H1
theorem pe_one {op} {t : TE} (h : PE X a t) : PE X (.BoolOp op [a] pos) t := fun pins s σ H Q I hw => BoolOp_one (h pins s σ H Q I hw)
theorem pe_and (ha : PE X a ta) (hb : PE X (.BoolOp .And (b :: rest) pos) tb) : PE X (.BoolOp .And (a :: b :: rest) pos) (tAndV ta tb) := by
 intro pins s σ H Q I h
 refine BoolOp_and (thn (ha pins s σ H _ I h) fun v s1 ⟨x,H1,I1,r1,q1⟩ => ?_)
 obtain ⟨c,rfl,q1⟩ := q1
 cases r1
 refine wpAny_truthy_bool ?_
 cases c with
 | true => exact hb pins s1 σ H1 Q I1 q1
 | false => exact ⟨.bl false,H1,I1,rfl,q1⟩
theorem pe_not (ha : PE X a ta) : PE X (.UnaryOp .Not a pos) (tNotV ta) := by
 intro pins s σ H Q I h
 refine UnaryOp_ (thn (ha pins s σ H _ I h) fun v s1 ⟨x,H1,I1,r1,q1⟩ => ?_)
 obtain ⟨c,rfl,q1⟩ := q1
 cases r1
 exact not_of (wpAny_truthy_bool ⟨.bl (!c),H1,I1,rfl,q1⟩)
def tIf (t : TT) (ta tb : TE) : TE := fun σ H Q => t σ H fun c H1 => if c = true then ta σ H1 Q else tb σ H1 Q
theorem pe_ifExp {c : Expr} (hc : PT X c tA) (ha : PE X a ta) (hb : PE X b tb) : PE X (.IfExp c a b pos) (tIf tA ta tb) := by
 intro pins s σ H Q I h
 refine wpAny_IfExp (thn (hc pins s σ H _ I h) fun d s1 ⟨H1,I1,q1⟩ => ?_)
 cases d with
 | true => exact ha pins s1 σ H1 Q I1 q1
 | false => exact hb pins s1 σ H1 Q I1 q1
end
end L2
namespace L2
open PySem PySem.Spec PyProof.Rows
def SqL (K : PySem.W.Frag) (H : Hp) (a : Addr) (xs : List V) : Prop :=
 Rd H a (.lst xs) ∨
  ∃ (o : Obj) (its : Array Value) (n : Nat),K.lookup a = some o ∧ o.cls = .type "list" ∧ o.dict = none ∧ o.data = .seq its n ∧ its.size ≤ sizeLine ∧ Vals xs its.toList
def SqT (K : PySem.W.Frag) (H : Hp) (a : Addr) (xs : List V) : Prop :=
 Rd H a (.tup xs) ∨
  ∃ (o : Obj) (its : Array Value) (n : Nat),K.lookup a = some o ∧ o.cls = .type "tuple" ∧ o.data = .seq its n ∧ its.size ≤ sizeLine ∧ Vals xs its.toList
def absV : Value → Option V
 | .none => some .non
 | .bool b => some (.bl b)
 | .int i _ => some (.int i)
 | .str x _ => some (.str x)
 | .bytes b _ => some (.byt b)
 | .float b _ => some (.flt b)
 | .ref a => some (.ref a)
 | .type n => some (.ty n)
 | _ => none
theorem RelV.abs {x : V} {u : Value} (r : RelV x u) : absV u = some x := by
 cases x with
 | non => cases r; rfl
 | bl _ => cases r; rfl
 | int _ => obtain ⟨t,rfl⟩ := r; rfl
 | str _ => obtain ⟨t,rfl⟩ := r; rfl
 | byt _ => obtain ⟨t,rfl⟩ := r; rfl
 | flt _ => obtain ⟨t,rfl⟩ := r; rfl
 | ref _ => cases r; rfl
 | ty _ => cases r; rfl
theorem RelV.inj {x y : V} {u : Value} (r : RelV x u) (q : RelV y u) : x = y := Option.some.inj (r.abs.symm.trans q.abs)
theorem Vals.inj : ∀ {xs ys : List V} {us : List Value},Vals xs us → Vals ys us → xs = ys
 | _,_,_,.nil,.nil => rfl
 | _,_,_,.cons r t,.cons r' t' => by rw [r.inj r',Vals.inj t t']
section
variable {X : Cx} {pins : List (Addr × Obj)} {σ : St} {H : Hp} {s : Shared} {a : Addr} {xs ys : List V}
theorem SqL.of {K : PySem.W.Frag} (h : H a = some (.lst xs)) : SqL K H a xs := .inl (.inl h)
theorem SqT.of {K : PySem.W.Frag} (h : H a = some (.tup xs)) : SqT K H a xs := .inl (.inl h)
theorem Inv.list (I : Inv X pins σ H s) (h : SqL X.K H a xs) : ∃ its : List Value,Vals xs its ∧ PlainL s.heap a its.toArray ∧ xs.length ≤ sizeLine := by
 rcases h with h | ⟨o,its,n,hk,hc,hd,hs,hz,r⟩
 ·obtain ⟨z,its,n,r,e⟩ := h.ok I.hok
  exact ⟨its,r,⟨_,n,e,rfl,rfl,rfl⟩,z⟩
 ·refine ⟨its.toList,r,⟨o,n,I.kIn a o hk,hc,hd,by simpa using hs⟩,?_⟩
  have e := r.length
  simp only [Array.length_toList] at e
  omega
theorem Inv.tuple (I : Inv X pins σ H s) (h : SqT X.K H a xs) : ∃ its : List Value,Vals xs its ∧ IsTup s.heap a its.toArray ∧ xs.length ≤ sizeLine := by
 rcases h with h | ⟨o,its,n,hk,hc,hs,hz,r⟩
 ·obtain ⟨z,its,r,p⟩ := h.ok I.hok
  exact ⟨its,r,p,z⟩
 ·refine ⟨its.toList,r,⟨o,I.kIn a o hk,hc,n,by simpa using hs⟩,?_⟩
  have e := r.length
  simp only [Array.length_toList] at e
  omega
theorem Inv.list_inj (I : Inv X pins σ H s) (h : SqL X.K H a xs) (h' : SqL X.K H a ys) : xs = ys := by
 obtain ⟨its,r,⟨o,n,e,_,_,d⟩,_⟩ := I.list h
 obtain ⟨its',r',⟨o',n',e',_,_,d'⟩,_⟩ := I.list h'
 rw [e] at e'; cases e'
 rw [d] at d'
 injection d' with d1 _
 have : its = its' := by simpa using congrArg Array.toList d1
 subst this
 exact r.inj r'
theorem Inv.tuple_inj (I : Inv X pins σ H s) (h : SqT X.K H a xs) (h' : SqT X.K H a ys) : xs = ys := by
 obtain ⟨its,r,⟨o,e,_,n,d⟩,_⟩ := I.tuple h
 obtain ⟨its',r',⟨o',e',_,n',d'⟩,_⟩ := I.tuple h'
 rw [e] at e'; cases e'
 rw [d] at d'
 injection d' with d1 _
 have : its = its' := by simpa using congrArg Array.toList d1
 subst this
 exact r.inj r'
end
abbrev Cx.wish (X : Cx) (E : Value → Shared → Prop) : Cx := { X with xe := E }
abbrev Cx.nox (X : Cx) : Cx := X.wish fun _ _ => False
theorem Cx.Ok.wish {X : Cx} (ok : X.Ok) (E : Value → Shared → Prop) : (X.wish E).Ok :=
 ⟨ok.mod,ok.kind,ok.glob,ok.blt,ok.above,ok.inj,ok.has,ok.cab,ok.hd,ok.frames,ok.stk,ok.exf,ok.bs,ok.bsz,ok.noex,ok.exfs,ok.funs,ok.frf⟩
theorem Cx.Ok.unwish {X : Cx} {E : Value → Shared → Prop} (ok : (X.wish E).Ok) : X.Ok :=
 ⟨ok.mod,ok.kind,ok.glob,ok.blt,ok.above,ok.inj,ok.has,ok.cab,ok.hd,ok.frames,ok.stk,ok.exf,ok.bs,ok.bsz,ok.noex,ok.exfs,ok.funs,ok.frf⟩
section
variable {X : Cx} {pins : List (Addr × Obj)} {σ : St} {H : Hp} {s : Shared} {E : Value → Shared → Prop}
theorem Inv.wish (I : Inv X pins σ H s) (E : Value → Shared → Prop) : Inv (X.wish E) pins σ H s := ⟨I.ok.wish E,I.os,I.bare,I.base,I.loc,I.cell,I.free,I.freeC,I.pin,I.hok,I.len⟩
theorem Inv.unwish (I : Inv (X.wish E) pins σ H s) : Inv X pins σ H s := ⟨I.ok.unwish,I.os,I.bare,I.base,I.loc,I.cell,I.free,I.freeC,I.pin,I.hok,I.len⟩
theorem SP.unwish {D : Ends} {f : Flow} {s' : Shared} (h : SP (X.wish E) pins D f s') : SP X pins D f s' := by
 cases f with
 | next => obtain ⟨σ',H',I,q⟩ := h; exact ⟨σ',H',I.unwish,q⟩
 | brk => obtain ⟨σ',H',I,q⟩ := h; exact ⟨σ',H',I.unwish,q⟩
 | cont => obtain ⟨σ',H',I,q⟩ := h; exact ⟨σ',H',I.unwish,q⟩
 | ret u => obtain ⟨v,σ',H',I,r,q⟩ := h; exact ⟨v,σ',H',I.unwish,r,q⟩
theorem PSs.nox {st : List Stmt} {t : TS} (h : PSs X.nox st t) : PSs X st t := fun pins s σ H D I hw =>
 wpAny_mono (h pins s σ H D (I.wish _) hw) (fun _ _ q => q.unwish) fun _ _ z => False.elim z
end
section
variable {X : Cx} {st : Stmt} {rest : List Stmt} {t u : TS} {e : Expr} {te : TE} {pos : Pos}
def tNext : TS := fun D σ H => D.nx σ H
def tSeq (t u : TS) : TS := fun D σ H => t { D with nx := u D } σ H
theorem pss_nil : PSs X [] tNext := fun _ _ σ H _ I h => wpAny_execs_nil ⟨σ,H,I,h⟩
theorem pss_cons (h1 : PS X st t) (h2 : PSs X rest u) : PSs X (st :: rest) (tSeq t u) := by
 intro pins s σ H D I h
 refine wpAny_execs_cons (thn (h1 pins s σ H { D with nx := u D } I h) fun f s1 q => ?_)
 cases f with
 | next =>
  obtain ⟨σ',H',I',q⟩ := q
  exact h2 pins s1 σ' H' D I' q
 | ret v => exact q
 | brk => exact q
 | cont => exact q
theorem pss_one (h1 : PS X st t) : PSs X [st] t := by
 intro pins s σ H D I h
 refine wpAny_execs_cons (thn (h1 pins s σ H D I h) fun f s1 q => ?_)
 cases f with
 | next => exact wpAny_execs_nil q
 | ret v => exact q
 | brk => exact q
 | cont => exact q
theorem Inv.quiet {pins : List (Addr × Obj)} {σ : St} {H : Hp} {s : Shared} (I : Inv X pins σ H s) : interactive X.env = false := by simp [interactive,I.ok.kind]
def tDrop (te : TE) : TS := fun D σ H => te σ H fun _ H1 => D.nx σ H1
theorem ps_expr (he : PE X e te) (hs : swapsWith e none pos.line X.env = pure false := by rfl) : PS X (.Expr e pos) (tDrop te) := by
 intro pins s σ H D I h
 exact wpAny_Expr_any (thn (he pins s σ H _ I h) fun v s1 ⟨x,H1,I1,r1,q1⟩ => ⟨σ,H1,I1,q1⟩) I.quiet hs
def tRet (te : TE) : TS := fun D σ H => te σ H D.rt
theorem ps_ret (he : PE X e te) : PS X (.Return (some e) pos) (tRet te) := by
 intro pins s σ H D I h
 exact wpAny_Return_some (thn (he pins s σ H _ I h) fun v s1 ⟨x,H1,I1,r1,q1⟩ => ⟨x,σ,H1,I1,r1,q1⟩)
def tIfS (c : TT) (t u : TS) : TS := fun D σ H => c σ H fun b H1 => if b = true then t D σ H1 else u D σ H1
theorem ps_if {c : Expr} {a b : List Stmt} {tc : TT} (hc : PT X c tc) (ha : PSs X a t) (hb : PSs X b u) : PS X (.If c a b pos) (tIfS tc t u) := by
 intro pins s σ H D I h
 refine wpAny_If (thn (hc pins s σ H _ I h) fun d s1 ⟨H1,I1,q1⟩ => ?_)
 cases d with
 | true => exact ha pins s1 σ H1 D I1 q1
 | false => exact hb pins s1 σ H1 D I1 q1
end
abbrev TG := V → St → Hp → (St → Hp → Prop) → Prop
abbrev TGs := List V → St → Hp → (St → Hp → Prop) → Prop
def PG (X : Cx) (target : Expr) (t : TG) : Prop :=
 ∀ (pins : List (Addr × Obj)) (s : Shared) (σ : St) (H : Hp) (v : V) (u : Value) (Q : St → Hp → Prop),Inv X pins σ H s → RelV v u → t v σ H Q →
  wpAny (model X.prog X.w) X.A (assign target X.env u) (fun _ s' => ∃ σ' H',Inv X pins σ' H' s' ∧ Q σ' H') X.xe s
def PGs (X : Cx) (ts : List Expr) (t : TGs) : Prop :=
 ∀ (pins : List (Addr × Obj)) (s : Shared) (σ : St) (H : Hp) (vs : List V) (us : List Value) (Q : St → Hp → Prop),Inv X pins σ H s → Vals vs us → t vs σ H Q →
  wpAny (model X.prog X.w) X.A (assignInOrder ((assignEach ts X.env).map (·.2)) us) (fun _ s' => ∃ σ' H',Inv X pins σ' H' s' ∧ Q σ' H') X.xe s
abbrev TSet := V → V → V → Hp → (Hp → Prop) → Prop
def PSet (X : Cx) (t : TSet) : Prop :=
 ∀ (pins : List (Addr × Obj)) (s : Shared) (σ : St) (H : Hp) (o i v : V) (ov iv u : Value) (Q : Hp → Prop),Inv X pins σ H s → RelV o ov → RelV i iv → RelV v u → t o i v H Q →
  wpAny (model X.prog X.w) X.A (setItem ov iv u) (fun _ s' => ∃ H',Inv X pins σ H' s' ∧ Q H') X.xe s
abbrev TIp := V → V → Hp → VK → Prop
def PIp (X : Cx) (op : Operator) (t : TIp) : Prop :=
 ∀ (pins : List (Addr × Obj)) (s : Shared) (σ : St) (H : Hp) (x y : V) (v u : Value) (Q : VK),Inv X pins σ H s → RelV x v → RelV y u → t x y H Q →
  wpAny (model X.prog X.w) X.A (inplaceOp op v u) (EP X pins σ Q) X.xe s
section
variable {X : Cx} {pos : Pos}
def gName (i : Nat) : TG := fun v σ H Q => Q (σ.set i (some v)) H
theorem pg_name {i : Nat} {x : Str} (hN : X.N.Nodup) (hi : X.N[i]? = some x) (hx : Loc X.env.scope x) (hf : X.fn x = true ∨ X.env.scope.names.lookup x = some .local := by first | exact .inl rfl | exact .inr rfl | assumption) : PG X (.Name x pos) (gName i) := by
 intro pins s σ H v u Q I r h
 exact wpAny_assign_Name (store_ok I hN hi hx r (fun s' I' => ⟨_,H,I',h⟩) hf)
def gNil : TGs := fun vs σ H Q => vs = [] ∧ Q σ H
def gCons (t : TG) (u : TGs) : TGs := fun vs σ H Q => ∃ v r,vs = v :: r ∧ t v σ H fun σ' H' => u r σ' H' Q
theorem pgs_nil : PGs X [] gNil := by
 intro pins s σ H vs us Q I r h
 obtain ⟨e,h⟩ := h
 subst e
 cases r
 exact assignInOrder_nil ⟨σ,H,I,h⟩
theorem pgs_cons {e : Expr} {es : List Expr} {t : TG} {u : TGs} (h1 : PG X e t) (h2 : PGs X es u)
  (hs : (assignEach (e :: es) X.env).map (·.2) = assign e X.env :: (assignEach es X.env).map (·.2) := by rfl) : PGs X (e :: es) (gCons t u) := by
 intro pins s σ H vs us Q I r h
 obtain ⟨v,vr,e1,h⟩ := h
 subst e1
 cases r with
 | cons r rr =>
  rw [hs]
  refine assignInOrder_cons (thn (h1 pins s σ H _ _ _ I r h) fun _ s1 ⟨σ1,H1,I1,q1⟩ => ?_)
  exact h2 pins s1 σ1 H1 _ _ Q I1 rr q1
def gTup (K : PySem.W.Frag) (n : Nat) (t : TGs) : TG := fun v σ H Q => ∃ a xs,v = .ref a ∧ SqT K H a xs ∧ xs.length = n ∧ t xs σ H Q
theorem pg_tup {es : List Expr} {k : Nat} {t : TGs} {n : Nat} (hc : X.calm = true) (h : PGs X es t)
  (hn : (assignEach es X.env).length = n := by rfl) (hst : (assignEach es X.env).findIdx? (·.1) = none := by rfl) : PG X (.Tuple es k pos) (gTup X.K n t) := by
 intro pins s σ H v u Q I r hw
 obtain ⟨a,xs,e1,hq,hl,hw⟩ := hw
 subst e1
 cases r
 obtain ⟨its,rv,ht,hz⟩ := I.tuple hq
 refine assign_Tuple_tuple (I.ok.hd hc) ht (by simp [hn,← hl,rv.length]) hst fun h' hx => ?_
 have I1 : Inv X pins σ H { s with heap := h' } := I.kept (t' := s.toks) fun b o e => hx b o (Nat.ne_of_lt (Heap.lt_size e)) e
 exact h pins _ σ H xs _ Q I1 (by simpa using rv) hw
def gSub (to ti : TE) (t : TSet) : TG := fun v σ H Q => to σ H fun o H1 => ti σ H1 fun i H2 => t o i v H2 fun H3 => Q σ H3
theorem pg_sub {o i : Expr} {to ti : TE} {t : TSet} (ho : PE X o to) (hi : PE X i ti) (hs : PSet X t)
  (ha : ∀ v,assign (.Subscript o i pos) X.env v = (do
   let ov ← holding [v] (eval o X.env)
   let iv ← holding [v,ov] (eval i X.env)
   standAt pos
   holding [v,ov,iv] (setItem ov iv v)
   release [v,ov,iv] []) := by intro _; rfl) : PG X (.Subscript o i pos) (gSub to ti t) := by
 intro pins s σ H v u Q I r h
 rw [ha]
 refine wpAny_bind (wpAny_holding (thn (ho pins s σ H _ I h) fun ov s1 ⟨x,H1,I1,r1,q1⟩ => ?_))
 refine wpAny_bind (wpAny_holding (thn (hi pins s1 σ H1 _ I1 q1) fun iv s2 ⟨y,H2,I2,r2,q2⟩ => ?_))
 refine wpAny_bind (wpAny_standAt (wpAny_bind (wpAny_holding (thn (hs pins s2 σ H2 x y v ov iv u _ I2 r1 r2 r q2) fun _ s3 ⟨H3,I3,q3⟩ => ?_))))
 exact wpAny_release ⟨σ,H3,I3,q3⟩
def tAsg (te : TE) (g : TG) : TS := fun D σ H => te σ H fun x H1 => g x σ H1 D.nx
theorem ps_asg {tg e : Expr} {te : TE} {g : TG} (he : PE X e te) (hg : PG X tg g) (hs : swapsWithSole [tg] e pos.line X.env = pure false := by rfl) (hw : swappedStores [tg] e X.env = pure none := by rfl)
  (h1 : (assignEach [tg] X.env).map (·.2) = [assign tg X.env] := by rfl) : PS X (.Assign [tg] e pos) (tAsg te g) := by
 intro pins s σ H D I h
 refine wpAny_Assign_stores (thn (he pins s σ H _ I h) fun v s1 ⟨x,H1,I1,r1,q1⟩ => ?_) hs hw
 rw [h1]
 exact thn (hg pins s1 σ H1 x v _ I1 r1 q1) fun _ s2 q => q
theorem ps_set {i : Nat} {x : Str} {e : Expr} {te : TE} {pos' : Pos} (hN : X.N.Nodup) (hi : X.N[i]? = some x) (hx : Loc X.env.scope x) (he : PE X e te) (hs : swapsWith e (some (.Name x pos')) pos.line X.env = pure false := by rfl) (hf : X.fn x = true ∨ X.env.scope.names.lookup x = some .local := by first | exact .inl rfl | exact .inr rfl | assumption) :
  PS X (.Assign [.Name x pos'] e pos) (tAsg te (gName i)) := by
 intro pins s σ H D I h
 refine wpAny_Assign_Name (thn (he pins s σ H _ I h) fun v s1 ⟨y,H1,I1,r1,q1⟩ => ?_) hs
 exact store_ok I1 hN hi hx r1 (fun s2 I2 => ⟨_,H1,I2,q1⟩) hf
def tAugS (to ti te : TE) (tget : V → V → Hp → VK → Prop) (tip : TIp) (tset : TSet) : TS := fun D σ H => to σ H fun o H1 => ti σ H1 fun i H2 => tget o i H2 fun x H3 => te σ H3 fun y H4 => tip x y H4 fun z H5 => tset o i z H5 fun H6 => D.nx σ H6
def PGet (X : Cx) (t : V → V → Hp → VK → Prop) : Prop :=
 ∀ (pins : List (Addr × Obj)) (s : Shared) (σ : St) (H : Hp) (o i : V) (ov iv : Value) (Q : VK),Inv X pins σ H s → RelV o ov → RelV i iv → t o i H Q →
  wpAny (model X.prog X.w) X.A (getItem ov iv) (EP X pins σ Q) X.xe s
theorem ps_augS {o i e : Expr} {to ti te : TE} {tget : V → V → Hp → VK → Prop} {tip : TIp} {tset : TSet} {op : Operator} {tpos : Pos} (ho : PE X o to) (hi : PE X i ti) (hg : PGet X tget) (he : PE X e te) (hp : PIp X op tip) (hs : PSet X tset)
  (ha : ∀ ov iv new,augStore i ov iv new = (do holding [new,ov,iv] (setItem ov iv new); release [new,ov,iv] []; pure .next) := by intros; rfl) : PS X (.AugAssign (.Subscript o i tpos) op e pos) (tAugS to ti te tget tip tset) := by
 intro pins s σ H D I h
 refine wpAny_AugAssign_SubscriptAny (thn (ho pins s σ H _ I h) fun ov s1 ⟨x1,H1,I1,r1,q1⟩ => ?_) ha
 refine thn (hi pins s1 σ H1 _ I1 q1) fun iv s2 ⟨x2,H2,I2,r2,q2⟩ => ?_
 refine thn (hg pins s2 σ H2 x1 x2 ov iv _ I2 r1 r2 q2) fun old s3 ⟨x3,H3,I3,r3,q3⟩ => ?_
 refine thn (he pins s3 σ H3 _ I3 q3) fun v s4 ⟨x4,H4,I4,r4,q4⟩ => ?_
 refine thn (hp pins s4 σ H4 x3 x4 old v _ I4 r3 r4 q4) fun new s5 ⟨x5,H5,I5,r5,q5⟩ => ?_
 exact thn (hs pins s5 σ H5 x1 x2 x5 ov iv new _ I5 r1 r2 r5 q5) fun _ s6 ⟨H6,I6,q6⟩ => ⟨σ,H6,I6,q6⟩
def ipI (f : Int → Int → Int) : TIp := fun x y H Q => ∃ i j,x = .int i ∧ y = .int j ∧ Q (.int (f i j)) H
theorem ip_add : PIp X .Add (ipI fun i j => i + j) := by
 intro pins s σ H x y v u Q I r1 r2 h
 obtain ⟨i,j,e1,e2,q⟩ := h
 subst e1; subst e2
 obtain ⟨t,rfl⟩ := r1
 obtain ⟨t',rfl⟩ := r2
 exact iadd_int ⟨.int _,H,I.tok _,⟨_,rfl⟩,q⟩
end
section
variable {X : Cx} {pos : Pos}
def tWhile (c : TT) (tb : TS) : TS := fun D σ H => ∃ W : Nat → St → Hp → Prop,(∃ m,W m σ H) ∧ ∀ m σ H,W m σ H →
 c σ H fun b H1 => if b = true then ∃ N : St → Hp → Prop,(∀ σ' H',N σ' H' → ∃ m',m' < m ∧ W m' σ' H') ∧ tb { D with nx := N,ct := N,bk := D.nx } σ H1 else D.nx σ H1
theorem ps_while {c : Expr} {body : List Stmt} {tc : TT} {tb : TS} (hp : PassesOwn (model X.prog X.w) X.A X.env X.xe) (hc : PT X c tc) (hb : PSs X body tb) : PS X (.While c body [] pos) (tWhile tc tb) := by
 intro pins s σ H D I h
 obtain ⟨W,⟨m0,w0⟩,turn⟩ := h
 refine wpAny_While (codeAny_whileLoop (fun n s' => ∃ σ' H',Inv X pins σ' H' s' ∧ W n σ' H') ?_ m0 ⟨σ,H,I,w0⟩)
 rintro n s1 ⟨σ1,H1,I1,w1⟩
 refine wpAny_passesOwn hp (thn (hc pins s1 σ1 H1 _ I1 (turn n σ1 H1 w1)) fun b s2 ⟨H2,I2,q2⟩ => ?_)
 cases b with
 | true =>
  obtain ⟨N,hN,q2⟩ := q2
  rw [if_pos rfl]
  refine wpAny_passesOwn hp (thn (hb pins s2 σ1 H2 _ I2 q2) fun f s3 q3 => ?_)
  cases f with
  | next =>
   obtain ⟨σ3,H3,I3,n3⟩ := q3
   obtain ⟨m',hm,w3⟩ := hN σ3 H3 n3
   exact ⟨m',hm,σ3,H3,I3,w3⟩
  | cont =>
   obtain ⟨σ3,H3,I3,n3⟩ := q3
   obtain ⟨m',hm,w3⟩ := hN σ3 H3 n3
   exact ⟨m',hm,σ3,H3,I3,w3⟩
  | brk => exact q3
  | ret v => exact q3
 | false =>
  rw [if_neg Bool.false_ne_true]
  exact wpAny_execs_nil ⟨σ1,H2,I2,q2⟩
end
structure It where
 go : Nat → Hp → Prop
 yld : Nat → Hp → V → Hp → Prop
 stop : Nat → Hp → Prop
def FpOk (X : Cx) (pins : List (Addr × Obj)) (H : Hp) (b : Addr) : Prop :=
 H b = none ∧ b ≠ X.env.locals ∧ b ∉ X.fs ∧ (b ∈ X.ex ∨ X.s₀.heap.objs.size ≤ b) ∧ (∀ x c,X.env.cells.lookup x = some c → c ≠ b) ∧ ∀ p ∈ X.pn ++ pins,p.1 ≠ b
theorem Inv.fpOk {X : Cx} {pins : List (Addr × Obj)} {σ : St} {H H' : Hp} {s : Shared} {b : Addr} (I : Inv X pins σ H s) (hb : s.heap.objs.size ≤ b) (hn : H' b = none) : FpOk X pins H' b := by
 refine ⟨hn,Nat.ne_of_gt (Nat.lt_of_lt_of_le I.lt hb),I.nofs hb,.inr (Nat.le_trans I.sz hb),fun x c e z => ?_,fun p hp z => ?_⟩
 ·obtain ⟨v,q⟩ := I.cell x c e
  exact absurd (Nat.lt_of_lt_of_le q.lt (by rw [z]; exact hb)) (Nat.lt_irrefl _)
 ·exact absurd (Nat.lt_of_lt_of_le (Heap.lt_size (I.pin p hp).1) (by rw [z]; exact hb)) (Nat.lt_irrefl _)
structure Turn (P : Program) (w : World) (K : PySem.W.Frag) (tg : Expr) (J : It) (fp : List Addr) (it : Addr) (tn : Nat → Heap → Prop) : Prop where
 mem : it ∈ fp
 obj : ∀ i h,tn i h → ∀ b ∈ fp,∃ o,h.get? b = some o ∧ ∀ v,o.data ≠ .cell v
 keep : ∀ i h h',tn i h → (∀ b ∈ fp,∀ o,h.get? b = some o → h'.get? b = some o) → tn i h'
 item : ∀ (X : Cx),X.prog = P → X.w = w → X.K = K → X.calm = true → ∀ (i : Nat) (pins : List (Addr × Obj)) (s : Shared) (σ : St) (H : Hp) (E : Value → Shared → Prop),Inv X pins σ H s → (∀ b ∈ fp,FpOk X pins H b) → tn i s.heap → J.go i H →
  wpAny (model P w) X.A (pyNext (.ref it)) (fun r s1 => ∃ u,r = some u ∧
   wpAny (model P w) X.A (letOwnedTupleGo tg (.ref it) u) (fun _ s2 => ∃ x H',Inv X pins σ H' s2 ∧ RelV x u ∧ J.yld i H x H' ∧ tn (i + 1) s2.heap ∧ ∀ b ∈ fp,H' b = none) E s1) E s
 done : ∀ (X : Cx),X.prog = P → X.w = w → X.K = K → X.calm = true → ∀ (i : Nat) (pins : List (Addr × Obj)) (s : Shared) (σ : St) (H : Hp) (E : Value → Shared → Prop),Inv X pins σ H s → (∀ b ∈ fp,FpOk X pins H b) → tn i s.heap → J.stop i H →
  wpAny (model P w) X.A (pyNext (.ref it)) (fun r s1 => r = none ∧ Inv X pins σ H s1) E s
 self : ∀ (A : Around) (i : Nat) (s : Shared) (Q : Value → Shared → Prop) (E : Value → Shared → Prop),tn i s.heap → Q (.ref it) s → wpAny (model P w) A (pyIter (.ref it)) Q E s
abbrev TI := St → Hp → (It → Hp → Prop) → Prop
def PIE (X : Cx) (pins : List (Addr × Obj)) (σ : St) (tg : Expr) (R : It → Hp → Prop) (itv : Value) (s2 : Shared) : Prop :=
 ∃ (it : Addr) (fp : List Addr) (tn : Nat → Heap → Prop) (J : It) (H' : Hp),itv = .ref it ∧ Inv X pins σ H' s2 ∧ Turn X.prog X.w X.K tg J fp it tn ∧ tn 0 s2.heap ∧ (∀ b ∈ fp,FpOk X pins H' b) ∧ R J H'
def PI (X : Cx) (tg iter : Expr) (wi : TI) : Prop :=
 ∀ (pins : List (Addr × Obj)) (s : Shared) (σ : St) (H : Hp) (R : It → Hp → Prop),Inv X pins σ H s → wi σ H R →
  wpAny (model X.prog X.w) X.A (eval iter X.env) (fun v s1 => wpAny (model X.prog X.w) X.A (pyIter v) (PIE X pins σ tg R) X.xe s1) X.xe s
theorem go_of {M : Model} {A : Around} {E : Value → Shared → Prop} {s : Shared} {tg : Expr} {it : Addr} {u : Value} {o : Obj} {n : String} {vs : Array Value} {Q : Unit → Shared → Prop} (ho : s.heap.get? it = some o) (hc : o.cls = .type n) (hd : o.data = .fields vs)
    (hn : ["enumerate","zip","dict_itemiterator","dict_reverseitemiterator","odict_iterator","itertools.zip_longest","itertools.pairwise"].contains n = false) (hQ : Q () s) : wpAny M A (letOwnedTupleGo tg (.ref it) u) Q E s := by
  unfold letOwnedTupleGo
  cases tg <;> first
    | exact wpAny_pure hQ
    | (cases u <;> first
        | exact wpAny_pure hQ
        | (refine wpAny_bind (wpAny_load ho ?_)
           rw [hc,hd]
           show wpAny M A (if (["enumerate","zip","dict_itemiterator","dict_reverseitemiterator","odict_iterator","itertools.zip_longest","itertools.pairwise"].contains n && vs[0]? == some (rawInt _)) = true then _ else _) Q E s
           rw [if_neg (by intro h; rw [hn,Bool.false_and] at h; cases h)]
           exact wpAny_pure hQ))
def Itl (K : PySem.W.Frag) (a : Addr) : It :=
 ⟨fun i H => ∃ xs x,SqL K H a xs ∧ xs[i]? = some x,fun i H x H' => H' = H ∧ ∀ xs,SqL K H a xs → xs[i]? = some x,fun i H => ∃ xs,SqL K H a xs ∧ xs.length ≤ i⟩
def Itt (K : PySem.W.Frag) (a : Addr) : It :=
 ⟨fun i H => ∃ xs x,SqT K H a xs ∧ xs[i]? = some x,fun i H x H' => H' = H ∧ ∀ xs,SqT K H a xs → xs[i]? = some x,fun i H => ∃ xs,SqT K H a xs ∧ xs.length ≤ i⟩
def Itr (lo : Int) (n : Nat) : It := ⟨fun i _ => i < n,fun i H x H' => H' = H ∧ x = .int (lo + i),fun i _ => n ≤ i⟩
theorem turn_list {P : Program} {w : World} {K : PySem.W.Frag} {tg : Expr} (a it : Addr) : Turn P w K tg (Itl K a) [it] it (fun i h => h.IsListIter it a i) where
 mem := by simp
 obj := fun i h st b hb => by
  have e : b = it := by simpa using hb
  subst e
  obtain ⟨o,e,c,d⟩ := st
  exact ⟨o,e,fun v z => by rw [d] at z; cases z⟩
 keep := fun i h h' st k => st.at fun o e => k it (by simp) o e
 item := by
  intro X hP hw hK hc i pins s σ H E I hf st hg
  subst hP hw hK
  obtain ⟨xs,x,hq,hx⟩ := hg
  obtain ⟨its,rv,p,hz⟩ := I.list hq
  obtain ⟨u,hu,ru⟩ := rv.get hx
  obtain ⟨f0,f1,f2,f3,f4,f5⟩ := hf it (by simp)
  refine wpAny_pyNext_list_item st p.isList (x := u) (by simpa using hu) fun h' st' sb => ?_
  have I1 : Inv X pins σ H { s with heap := h' } := I.turned (t' := s.toks) (fun b o hb e => (sb.2 b hb).trans e) f0 f1 f3 f4 f5
  obtain ⟨o,e,c,d⟩ := id st'
  exact ⟨u,rfl,go_of (s := { s with heap := h' }) e c d (by decide) ⟨x,H,I1,ru,⟨rfl,fun ys hy => by rw [I.list_inj hy hq]; exact hx⟩,st',fun b hb => (hf b hb).1⟩⟩
 done := by
  intro X hP hw hK hc i pins s σ H E I hf st hg
  subst hP hw hK
  obtain ⟨xs,hq,hx⟩ := hg
  obtain ⟨its,rv,p,hz⟩ := I.list hq
  obtain ⟨f0,f1,f2,f3,f4,f5⟩ := hf it (by simp)
  have hl := rv.length
  exact wpAny_pyNext_list_end (I.ok.hd hc) st p.isList (by simp; omega) fun h' eb => ⟨rfl,I.turned (t' := s.toks) (fun b o hb e => eb b o hb e) f0 f1 f3 f4 f5⟩
 self := fun _ _ _ _ _ st h => wpAny_pyIter_listiter st h
theorem turn_tuple {P : Program} {w : World} {K : PySem.W.Frag} {tg : Expr} (a it : Addr) : Turn P w K tg (Itt K a) [it] it (fun i h => h.IsTupleIter it a i) where
 mem := by simp
 obj := fun i h st b hb => by
  have e : b = it := by simpa using hb
  subst e
  obtain ⟨o,e,c,d⟩ := st
  exact ⟨o,e,fun v z => by rw [d] at z; cases z⟩
 keep := fun i h h' st k => st.at fun o e => k it (by simp) o e
 item := by
  intro X hP hw hK hc i pins s σ H E I hf st hg
  subst hP hw hK
  obtain ⟨xs,x,hq,hx⟩ := hg
  obtain ⟨its,rv,p,hz⟩ := I.tuple hq
  obtain ⟨u,hu,ru⟩ := rv.get hx
  obtain ⟨f0,f1,f2,f3,f4,f5⟩ := hf it (by simp)
  refine wpAny_pyNext_tuple_item st (show s.heap.IsTuple a its.toArray from p) (x := u) (by simpa using hu) fun h' st' sb => ?_
  have I1 : Inv X pins σ H { s with heap := h' } := I.turned (t' := s.toks) (fun b o hb e => (sb.2 b hb).trans e) f0 f1 f3 f4 f5
  obtain ⟨o,e,c,d⟩ := id st'
  exact ⟨u,rfl,go_of (s := { s with heap := h' }) e c d (by decide) ⟨x,H,I1,ru,⟨rfl,fun ys hy => by rw [I.tuple_inj hy hq]; exact hx⟩,st',fun b hb => (hf b hb).1⟩⟩
 done := by
  intro X hP hw hK hc i pins s σ H E I hf st hg
  subst hP hw hK
  obtain ⟨xs,hq,hx⟩ := hg
  obtain ⟨its,rv,p,hz⟩ := I.tuple hq
  obtain ⟨f0,f1,f2,f3,f4,f5⟩ := hf it (by simp)
  have hl := rv.length
  exact wpAny_pyNext_tuple_end (I.ok.hd hc) st (show s.heap.IsTuple a its.toArray from p) (by simp; omega) fun h' eb => ⟨rfl,I.turned (t' := s.toks) (fun b o hb e => eb b o hb e) f0 f1 f3 f4 f5⟩
 self := fun _ _ _ _ _ st h => wpAny_pyIter_tupleiter st h
theorem turn_range {P : Program} {w : World} {K : PySem.W.Frag} {tg : Expr} (it : Addr) (lo : Int) (n : Nat) : Turn P w K tg (Itr lo n) [it] it (fun i h => IsRangeIter h it (lo + (i : Nat) * 1) ((n : Int) - (i : Nat)) 1) where
 mem := by simp
 obj := fun i h st b hb => by
  have e : b = it := by simpa using hb
  subst e
  exact ⟨_,st,fun v z => by
   have z' : Data.fields _ = Data.cell v := z
   cases z'⟩
 keep := fun i h h' st k => k it (by simp) _ st
 item := by
  intro X hP hw hK hc i pins s σ H E I hf st hg
  subst hP hw hK
  obtain ⟨f0,f1,f2,f3,f4,f5⟩ := hf it (by simp)
  have W := Walks.range (prog := X.prog) (w := X.w) (I.ok.hd hc) it lo 1 n
  refine W.item i s _ _ hg st fun v h' tk hv st' kk => ?_
  obtain ⟨t,rfl⟩ := hv
  have I1 : Inv X pins σ H { s with heap := h',toks := tk } := I.turned (fun b o hb e => kk b o (by simpa using hb) e) f0 f1 f3 f4 f5
  refine ⟨_,rfl,go_of (s := { s with heap := h',toks := tk }) (n := "range_iterator") st' rfl rfl (by decide) ⟨.int (lo + i),H,I1,⟨t,?_⟩,⟨rfl,rfl⟩,st',fun b hb => (hf b hb).1⟩⟩
  rw [Int.mul_one]
 done := by
  intro X hP hw hK hc i pins s σ H E I hf st hg
  subst hP hw hK
  obtain ⟨f0,f1,f2,f3,f4,f5⟩ := hf it (by simp)
  exact wpAny_pyNext_range_end (I.ok.hd hc) st (by have : n ≤ i := hg; omega) fun h' eb => ⟨rfl,I.turned (t' := s.toks) (fun b o hb e => eb b o hb e) f0 f1 f3 f4 f5⟩
 self := fun _ _ _ _ _ st h => wpAny_pyIter_rangeiter st h
end L2
namespace L2
open PySem PySem.Spec PyProof.Rows
section
variable {X : Cx} {tg : Expr}
def iList (K : PySem.W.Frag) (tl : TE) : TI := fun σ H R => tl σ H fun x H1 => ∃ a,x = .ref a ∧ (∃ xs,SqL K H1 a xs) ∧ R (Itl K a) H1
def iTup (K : PySem.W.Frag) (tl : TE) : TI := fun σ H R => tl σ H fun x H1 => ∃ a,x = .ref a ∧ (∃ xs,SqT K H1 a xs) ∧ R (Itt K a) H1
theorem pi_list {l : Expr} {tl : TE} (hl : PE X l tl) : PI X tg l (iList X.K tl) := by
 intro pins s σ H R I h
 refine thn (hl pins s σ H _ I h) fun v s1 ⟨x,H1,I1,r1,q1⟩ => ?_
 obtain ⟨a,e,⟨xs,hq⟩,q⟩ := q1
 subst e
 cases r1
 obtain ⟨its,rv,p,hz⟩ := I1.list hq
 refine wpAny_pyIter_list p.isList ?_
 refine ⟨s1.heap.objs.size,[s1.heap.objs.size],_,_,H1,rfl,I1.kept (t' := s1.toks) fun b o e => Heap.get?_push_of_some _ e,turn_list a _,⟨_,Heap.get?_push_size _ rfl,rfl,rfl⟩,fun b hb => ?_,q⟩
 have e : b = s1.heap.objs.size := by simpa using hb
 subst e
 exact I1.fpOk (Nat.le_refl _) (I1.hok.fresh (Nat.le_refl _))
theorem pi_tup {l : Expr} {tl : TE} (hl : PE X l tl) : PI X tg l (iTup X.K tl) := by
 intro pins s σ H R I h
 refine thn (hl pins s σ H _ I h) fun v s1 ⟨x,H1,I1,r1,q1⟩ => ?_
 obtain ⟨a,e,⟨xs,hq⟩,q⟩ := q1
 subst e
 cases r1
 obtain ⟨its,rv,p,hz⟩ := I1.tuple hq
 refine wpAny_pyIter_tuple (show s1.heap.IsTuple a its.toArray from p) ?_
 refine ⟨s1.heap.objs.size,[s1.heap.objs.size],_,_,H1,rfl,I1.kept (t' := s1.toks) fun b o e => Heap.get?_push_of_some _ e,turn_tuple a _,⟨_,Heap.get?_push_size _ rfl,rfl,rfl⟩,fun b hb => ?_,q⟩
 have e : b = s1.heap.objs.size := by simpa using hb
 subst e
 exact I1.fpOk (Nat.le_refl _) (I1.hok.fresh (Nat.le_refl _))
theorem range_it {pins : List (Addr × Obj)} {σ : St} {H : Hp} {s : Shared} {R : It → Hp → Prop} {E : Value → Shared → Prop} {lo hi : Int} {t u v : Tok} {tk : Nat} (I : Inv X pins σ H s) (h1 : -(2 ^ 62) ≤ lo) (h2 : lo < 2 ^ 62) (h3 : -(2 ^ 62) ≤ hi) (h4 : hi < 2 ^ 62)
  (q : R (Itr lo (hi - lo).toNat) H) : wpAny (model X.prog X.w) X.A (pyIter (.ref s.heap.objs.size)) (PIE X pins σ tg R) E { s with heap := s.heap.push { cls := .type "range",data := .fields #[.int lo t,.int hi u,.int 1 v] },toks := tk } := by
 refine wpAny_pyIter_range (IsRange.new ..) (small_one h1 h2 h3 h4) ?_
 have I1 : Inv X pins σ H { s with heap := s.heap.push { cls := .type "range",data := .fields #[.int lo t,.int hi u,.int 1 v] },toks := tk } := I.kept fun b o e => Heap.get?_push_of_some _ e
 refine ⟨(s.heap.push { cls := .type "range",data := .fields #[.int lo t,.int hi u,.int 1 v] }).objs.size,[(s.heap.push { cls := .type "range",data := .fields #[.int lo t,.int hi u,.int 1 v] }).objs.size],_,_,H,rfl,
  I1.kept (t' := tk) fun b o e => Heap.get?_push_of_some _ e,turn_range _ lo (hi - lo).toNat,?_,fun b hb => ?_,q⟩
 ·have e1 : lo + ((0 : Nat) : Int) * 1 = lo := by simp
  have e2 : (((hi - lo).toNat : Nat) : Int) - ((0 : Nat) : Int) = Builtin.Range.rangeSize lo hi 1 := by rw [rangeSize_one]; split <;> omega
  show IsRangeIter _ _ (lo + ((0 : Nat) : Int) * 1) ((((hi - lo).toNat : Nat) : Int) - ((0 : Nat) : Int)) 1
  rw [e1,e2]
  exact Heap.get?_push_size _ rfl
 ·have e : b = (s.heap.push { cls := .type "range",data := .fields #[.int lo t,.int hi u,.int 1 v] }).objs.size := by simpa using hb
  subst e
  exact I1.fpOk (Nat.le_refl _) (I1.hok.fresh (Nat.le_refl _))
def iRng1 (ta : TA) : TI := fun σ H R => ta σ H fun vs H1 => ∃ j : Int,vs = [.int j] ∧ -(2 ^ 62) ≤ j ∧ j < 2 ^ 62 ∧ R (Itr 0 j.toNat) H1
theorem pi_range1 {a : Expr} {ta : TA} {p pos : Pos} (hg : Gl X "range") (hm : X.mg "range" = none) (ha : PA X [a] ta) (hs : starEach [a] X.env = [(false,eval a X.env)] := by rfl) : PI X tg (.Call (.Name "range" p) [a] [] pos) (iRng1 ta) := by
 intro pins s σ H R I h
 refine Call_ (ld_blt I hg hm boot_range (PyProof.Rows.callWith_type1 (thn (ha pos pins s σ H _ I h) fun us s1 ⟨vs,H1,I1,r1,q1⟩ => ?_) hs rfl))
 obtain ⟨j,e,q1,q2,q⟩ := q1
 subst e
 cases r1 with
 | cons r rr =>
  cases rr
  obtain ⟨t,rfl⟩ := r
  exact call_range_1 (range_it I1 (by omega) (by omega) q1 q2 (by simpa using q))
def tFor (wi : TI) (g : TG) (tb : TS) : TS := fun D σ H => wi σ H fun J H1 => ∃ W : Nat → Nat → St → Hp → Prop,(∃ m,W 0 m σ H1) ∧ ∀ i m σ H,W i m σ H →
 (J.stop i H ∧ D.nx σ H) ∨ (J.go i H ∧ ∃ N : St → Hp → Prop,(∀ σ' H',N σ' H' → ∃ m',m' < m ∧ W (i + 1) m' σ' H') ∧ ∀ x H',J.yld i H x H' → g x σ H' fun σ2 H2 => tb { D with nx := N,ct := N,bk := D.nx } σ2 H2)
def pinsAt (fp : List Addr) (h : Heap) : List (Addr × Obj) := fp.filterMap fun b => (h.get? b).map fun o => (b,o)
theorem mem_pinsAt {fp : List Addr} {h : Heap} {b : Addr} {o : Obj} (hb : b ∈ fp) (e : h.get? b = some o) : (b,o) ∈ pinsAt fp h := List.mem_filterMap.mpr ⟨b,hb,by rw [e]; rfl⟩
theorem of_pinsAt {fp : List Addr} {h : Heap} {p : Addr × Obj} (hp : p ∈ pinsAt fp h) : p.1 ∈ fp ∧ h.get? p.1 = some p.2 := by
 obtain ⟨b,hb,e⟩ := List.mem_filterMap.mp hp
 cases q : h.get? b with
 | none => rw [q] at e; cases e
 | some o =>
  rw [q] at e
  have e' : (b,o) = p := Option.some.inj e
  subst e'
  exact ⟨hb,q⟩
theorem Inv.pinned {pins : List (Addr × Obj)} {σ : St} {H : Hp} {s : Shared} {fp : List Addr} (I : Inv X pins σ H s) (hf : ∀ b ∈ fp,FpOk X pins H b) (ho : ∀ b ∈ fp,∃ o,s.heap.get? b = some o ∧ ∀ v,o.data ≠ .cell v) : Inv X (pins ++ pinsAt fp s.heap) σ H s :=
 I.pins_of fun p hp => (List.mem_append.mp hp).elim (fun z => I.pin p (List.mem_append_right _ z)) fun z => by
  obtain ⟨hb,e⟩ := of_pinsAt z
  obtain ⟨f0,f1,f2,_⟩ := hf p.1 hb
  obtain ⟨o,e',d⟩ := ho p.1 hb
  rw [e] at e'; cases e'
  exact ⟨e,f0,f1,f2,d⟩
theorem Inv.unpinned {pins pl : List (Addr × Obj)} {σ : St} {H : Hp} {s : Shared} (I : Inv X (pins ++ pl) σ H s) : Inv X pins σ H s := I.pins_of fun p hp => I.pin p (List.mem_append_right _ (List.mem_append_left _ hp))
theorem ps_for {iter : Expr} {body : List Stmt} {wi : TI} {g : TG} {tb : TS} {pos : Pos} (hp : PassesOwn (model X.prog X.w) X.A X.env X.xe) (hc : X.calm = true) (hi : PI X tg iter wi) (hg : PG X tg g) (hb : PSs X body tb)
  (hs : ∀ x,foldedSetIterable iter X.env x = pure x := by intro _; rfl) : PS X (.For tg iter body [] pos) (tFor wi g tb) := by
 intro pins s σ H D I h
 refine wpAny_For (thn (hi pins s σ H _ I h) fun v s1 h1 => thn h1 fun itv s2 h2 => ?_) hs
 obtain ⟨it,fp,tn,J,H2,e,I2,T,st2,f2,W,⟨m0,w0⟩,turn⟩ := h2
 subst e
 have stat : ∀ {H' : Hp},(∀ b ∈ fp,H' b = none) → ∀ b ∈ fp,FpOk X pins H' b := fun hn b hb => ⟨hn b hb,(f2 b hb).2⟩
 refine codeAny_forLoop_any (fun n s' => ∃ i σ' H',Inv X pins σ' H' s' ∧ tn i s'.heap ∧ (∀ b ∈ fp,H' b = none) ∧ W i n σ' H') ?_ m0 ⟨0,σ,H2,I2,st2,fun b hb => (f2 b hb).1,w0⟩
 rintro n s3 ⟨i,σ3,H3,I3,st3,fr3,w3⟩
 rcases turn i n σ3 H3 w3 with ⟨stop,qn⟩ | ⟨go,N,hN,step⟩
 ·refine wpAny_passesOwn hp (thn (T.done X rfl rfl rfl hc i pins s3 σ3 H3 X.xe I3 (stat fr3) st3 stop) fun r s4 ⟨hr,I4⟩ => ?_)
  subst hr
  exact wpAny_execs_nil ⟨σ3,H3,I4,qn⟩
 ·refine wpAny_passesOwn hp (thn (T.item X rfl rfl rfl hc i pins s3 σ3 H3 X.xe I3 (stat fr3) st3 go) fun r s4 ⟨u,hr,h4⟩ => ?_)
  subst hr
  refine wpAny_passesOwn hp (thn h4 fun _ s5 ⟨x,H5,I5,r5,y5,st5,fr5⟩ => ?_)
  have I5' := I5.pinned (stat fr5) (T.obj _ _ st5)
  refine wpAny_passesOwn hp (thn (hg _ s5 σ3 H5 x u _ I5' r5 (step x H5 y5)) fun _ s6 ⟨σ6,H6,I6,q6⟩ => ?_)
  refine wpAny_passesOwn hp (thn (hb _ s6 σ6 H6 _ I6 q6) fun f s7 q7 => ?_)
  have again : ∀ {σ7 : St} {H7 : Hp},Inv X (pins ++ pinsAt fp s5.heap) σ7 H7 s7 → N σ7 H7 → ∃ m,m < n ∧ ∃ i σ' H',Inv X pins σ' H' s7 ∧ tn i s7.heap ∧ (∀ b ∈ fp,H' b = none) ∧ W i m σ' H' := fun {σ7 H7} I7 n7 => by
   obtain ⟨m',hm,w7⟩ := hN σ7 H7 n7
   refine ⟨m',hm,i + 1,σ7,H7,I7.unpinned,T.keep _ _ _ st5 fun b hb o e => (I7.pin (b,o) (List.mem_append_right _ (List.mem_append_right _ (mem_pinsAt hb e)))).1,fun b hb => ?_,w7⟩
   obtain ⟨o,e,d⟩ := T.obj _ _ st5 b hb
   exact (I7.pin (b,o) (List.mem_append_right _ (List.mem_append_right _ (mem_pinsAt hb e)))).2.1
  cases f with
  | next => obtain ⟨σ7,H7,I7,n7⟩ := q7; exact again I7 n7
  | cont => obtain ⟨σ7,H7,I7,n7⟩ := q7; exact again I7 n7
  | brk => obtain ⟨σ7,H7,I7,q7⟩ := q7; exact ⟨σ7,H7,I7.unpinned,q7⟩
  | ret v => obtain ⟨x7,σ7,H7,I7,r7,q7⟩ := q7; exact ⟨x7,σ7,H7,I7.unpinned,r7,q7⟩
end
theorem for_list {K : PySem.W.Frag} {a : Addr} {xs : List V} {g : TG} {tb : TS} {D : Ends} {σ : St} {H : Hp} (Pv : Nat → St → Hp → Prop) (h0 : Pv 0 σ H) (hl : ∀ i σ H,i ≤ xs.length → Pv i σ H → SqL K H a xs)
  (hs : ∀ i x σ H,xs[i]? = some x → Pv i σ H → g x σ H fun σ2 H2 => tb { D with nx := Pv (i + 1),ct := Pv (i + 1),bk := D.nx } σ2 H2) (hd : ∀ σ H,Pv xs.length σ H → D.nx σ H) :
  ∃ W : Nat → Nat → St → Hp → Prop,(∃ m,W 0 m σ H) ∧ ∀ i m σ H,W i m σ H →
   ((Itl K a).stop i H ∧ D.nx σ H) ∨ ((Itl K a).go i H ∧ ∃ N : St → Hp → Prop,(∀ σ' H',N σ' H' → ∃ m',m' < m ∧ W (i + 1) m' σ' H') ∧ ∀ x H',(Itl K a).yld i H x H' → g x σ H' fun σ2 H2 => tb { D with nx := N,ct := N,bk := D.nx } σ2 H2) := by
 refine ⟨fun i m σ H => m = xs.length - i ∧ i ≤ xs.length ∧ Pv i σ H,⟨xs.length,by simp,Nat.zero_le _,h0⟩,?_⟩
 rintro i m σ H ⟨rfl,hi,p⟩
 have q := hl i σ H hi p
 by_cases hlt : i < xs.length
 ·refine .inr ⟨⟨xs,xs[i],q,by simp [hlt]⟩,Pv (i + 1),fun σ' H' p' => ⟨xs.length - (i + 1),by omega,rfl,hlt,p'⟩,fun x H' y => ?_⟩
  obtain ⟨e,y⟩ := y
  subst e
  exact hs i x σ _ (y xs q) p
 ·have e : i = xs.length := by omega
  subst e
  exact .inl ⟨⟨xs,q,Nat.le_refl _⟩,hd σ H p⟩
theorem for_range {lo : Int} {n : Nat} {g : TG} {tb : TS} {D : Ends} {σ : St} {H : Hp} (Pv : Nat → St → Hp → Prop) (h0 : Pv 0 σ H)
  (hs : ∀ i σ H,i < n → Pv i σ H → g (.int (lo + i)) σ H fun σ2 H2 => tb { D with nx := Pv (i + 1),ct := Pv (i + 1),bk := D.nx } σ2 H2) (hd : ∀ σ H,Pv n σ H → D.nx σ H) :
  ∃ W : Nat → Nat → St → Hp → Prop,(∃ m,W 0 m σ H) ∧ ∀ i m σ H,W i m σ H →
   ((Itr lo n).stop i H ∧ D.nx σ H) ∨ ((Itr lo n).go i H ∧ ∃ N : St → Hp → Prop,(∀ σ' H',N σ' H' → ∃ m',m' < m ∧ W (i + 1) m' σ' H') ∧ ∀ x H',(Itr lo n).yld i H x H' → g x σ H' fun σ2 H2 => tb { D with nx := N,ct := N,bk := D.nx } σ2 H2) := by
 refine ⟨fun i m σ H => m = n - i ∧ i ≤ n ∧ Pv i σ H,⟨n,by simp,Nat.zero_le _,h0⟩,?_⟩
 rintro i m σ H ⟨rfl,hi,p⟩
 by_cases hlt : i < n
 ·refine .inr ⟨hlt,Pv (i + 1),fun σ' H' p' => ⟨n - (i + 1),by omega,rfl,hlt,p'⟩,fun x H' y => ?_⟩
  obtain ⟨e,y⟩ := y
  subst e y
  exact hs i σ _ hlt p
 ·have e : i = n := by omega
  subst e
  exact .inl ⟨Nat.le_refl _,hd σ H p⟩
end L2
namespace L2
open PySem PySem.Spec PyProof.Rows
abbrev R2 := V → V → Hp → VK → Prop
def OpR (X : Cx) (f : Value → Value → Sem Value) (r : R2) : Prop :=
 ∀ (pins : List (Addr × Obj)) (s : Shared) (σ : St) (H : Hp) (x y : V) (v u : Value) (Q : VK),Inv X pins σ H s → RelV x v → RelV y u → r x y H Q →
  wpAny (model X.prog X.w) X.A (f v u) (EP X pins σ Q) X.xe s
def UnR (X : Cx) (f : Value → Sem Value) (r : V → Hp → VK → Prop) : Prop :=
 ∀ (pins : List (Addr × Obj)) (s : Shared) (σ : St) (H : Hp) (x : V) (v : Value) (Q : VK),Inv X pins σ H s → RelV x v → r x H Q →
  wpAny (model X.prog X.w) X.A (f v) (EP X pins σ Q) X.xe s
def CallR (X : Cx) (f : Value) (r : List V → Hp → VK → Prop) : Prop :=
 ∀ (pins : List (Addr × Obj)) (s : Shared) (σ : St) (H : Hp) (xs : List V) (us : List Value) (Q : VK),Inv X pins σ H s → Vals xs us → r xs H Q →
  wpAny (model X.prog X.w) X.A (call f us) (EP X pins σ Q) X.xe s
def tOp (r : R2) (ta tb : TE) : TE := fun σ H Q => ta σ H fun x H1 => tb σ H1 fun y H2 => r x y H2 Q
def tUn (r : V → Hp → VK → Prop) (ta : TE) : TE := fun σ H Q => ta σ H fun x H1 => r x H1 Q
def rI (C : Int → Int → Prop) (g : Int → Int → V) : R2 := fun x y H Q => ∃ i j,x = .int i ∧ y = .int j ∧ C i j ∧ Q (g i j) H
def rI0 (g : Int → Int → V) : R2 := fun x y H Q => ∃ i j,x = .int i ∧ y = .int j ∧ Q (g i j) H
def rU (g : Int → V) : V → Hp → VK → Prop := fun x H Q => ∃ i,x = .int i ∧ Q (g i) H
section
variable {X : Cx} {a b c : Expr} {ta tb tc : TE} {pos : Pos}
theorem binT (ha : PE X a ta) (hb : PE X b tb) {pins : List (Addr × Obj)} {s : Shared} {σ : St} {H : Hp} {R : V → V → Hp → Prop} (I : Inv X pins σ H s)
  (h : ta σ H fun x H1 => tb σ H1 fun y H2 => R x y H2) {Q : Value → Shared → Prop} {f : Value → Value → Sem Value}
  (hf : ∀ v u s2 x y H2,Inv X pins σ H2 s2 → RelV x v → RelV y u → R x y H2 → wpAny (model X.prog X.w) X.A (f v u) Q X.xe s2) :
  wpAny (model X.prog X.w) X.A (eval a X.env) (fun v s₁ => wpAny (model X.prog X.w) X.A (eval b X.env) (fun u s₂ => wpAny (model X.prog X.w) X.A (f v u) Q X.xe s₂) X.xe s₁) X.xe s := by
 refine thn (ha pins s σ H _ I h) fun v s1 ⟨x,H1,I1,r1,q1⟩ => ?_
 refine thn (hb pins s1 σ H1 _ I1 q1) fun u s2 ⟨y,H2,I2,r2,q2⟩ => ?_
 exact hf v u s2 x y H2 I2 r1 r2 q2
theorem pe_op {op : Operator} {r : R2} (ho : OpR X (binaryOp op) r) (ha : PE X a ta) (hb : PE X b tb) : PE X (.BinOp a op b pos) (tOp r ta tb) := by
 intro pins s σ H Q I h
 exact wpAny_BinOp (binT ha hb I h fun v u s2 x y H2 I2 rx ry q => ho pins s2 σ H2 x y v u Q I2 rx ry q)
theorem pe_un {op : UnaryOp} {r : V → Hp → VK → Prop} (ho : UnR X (unaryOp op) r) (ha : PE X a ta) : PE X (.UnaryOp op a pos) (tUn r ta) := by
 intro pins s σ H Q I h
 exact UnaryOp_ (thn (ha pins s σ H _ I h) fun v s1 ⟨x,H1,I1,r1,q1⟩ => ho pins s1 σ H1 x v Q I1 r1 q1)
theorem opI {f : Value → Value → Sem Value} {C : Int → Int → Prop} {g : Int → Int → Int}
  (rule : ∀ (i j : Int) (t u : Tok) (s : Shared) (Q : Value → Shared → Prop) (E : Value → Shared → Prop),C i j → Q (.int (g i j) s.toks) { s with toks := s.toks + 1 } → wpAny (model X.prog X.w) X.A (f (.int i t) (.int j u)) Q E s) :
  OpR X f (rI C fun i j => .int (g i j)) := by
 intro pins s σ H x y v u Q I rx ry h
 obtain ⟨i,j,rfl,rfl,hc,q⟩ := h
 obtain ⟨t,rfl⟩ := rx
 obtain ⟨t',rfl⟩ := ry
 exact rule i j t t' s _ _ hc ⟨.int (g i j),H,I.tok _,⟨_,rfl⟩,q⟩
theorem opI0 {f : Value → Value → Sem Value} {g : Int → Int → Int}
  (rule : ∀ (i j : Int) (t u : Tok) (s : Shared) (Q : Value → Shared → Prop) (E : Value → Shared → Prop),Q (.int (g i j) s.toks) { s with toks := s.toks + 1 } → wpAny (model X.prog X.w) X.A (f (.int i t) (.int j u)) Q E s) :
  OpR X f (rI0 fun i j => .int (g i j)) := by
 intro pins s σ H x y v u Q I rx ry h
 obtain ⟨i,j,rfl,rfl,q⟩ := h
 obtain ⟨t,rfl⟩ := rx
 obtain ⟨t',rfl⟩ := ry
 exact rule i j t t' s _ _ ⟨.int (g i j),H,I.tok _,⟨_,rfl⟩,q⟩
theorem opB0 {f : Value → Value → Sem Value} {g : Int → Int → Bool}
  (rule : ∀ (i j : Int) (t u : Tok) (s : Shared) (Q : Value → Shared → Prop) (E : Value → Shared → Prop),Q (.bool (g i j)) s → wpAny (model X.prog X.w) X.A (f (.int i t) (.int j u)) Q E s) :
  OpR X f (rI0 fun i j => .bl (g i j)) := by
 intro pins s σ H x y v u Q I rx ry h
 obtain ⟨i,j,rfl,rfl,q⟩ := h
 obtain ⟨t,rfl⟩ := rx
 obtain ⟨t',rfl⟩ := ry
 exact rule i j t t' s _ _ ⟨.bl (g i j),H,I,rfl,q⟩
def CDiv (i j : Int) : Prop := 0 < j ∧ j < 1073741824
def CPow (i j : Int) : Prop := 0 ≤ j ∧ j ≤ 1000000 ∧ i.natAbs < 2 ^ 64
def CMul (i j : Int) : Prop := (-(2 ^ 64) < i ∧ i < 2 ^ 64) ∨ (-(2 ^ 64) < j ∧ j < 2 ^ 64)
theorem CMul.ok {i j : Int} (h : CMul i j) : IntMulOk i j := by
 rcases h with ⟨h1,h2⟩ | ⟨h1,h2⟩
 ·exact .of_left (intBits_le_64 h1 h2)
 ·exact .of_right (intBits_le_64 h1 h2)
theorem op_add : OpR X (binaryOp .Add) (rI0 fun i j => .int (i + j)) := opI0 fun _ _ _ _ _ _ _ q => add_int q
theorem op_sub : OpR X (binaryOp .Sub) (rI0 fun i j => .int (i - j)) := opI0 fun _ _ _ _ _ _ _ q => sub_int q
theorem op_mul : OpR X (binaryOp .Mult) (rI CMul fun i j => .int (i * j)) := opI fun _ _ _ _ _ _ _ hc q => mul_int q hc.ok
theorem op_fdiv : OpR X (binaryOp .FloorDiv) (rI CDiv fun i j => .int (i / j)) := opI fun i j _ _ _ _ _ hc q => by
 have h1 : (0 : Int) < j := hc.1
 have h2 : j < 1073741824 := hc.2
 exact floordiv_int (by omega) (by rw [Int.fdiv_eq_ediv_of_nonneg i (by omega)]; exact q) (.inl (PyProof.noPylong_small (by omega)))
theorem op_mod : OpR X (binaryOp .Mod) (rI (fun _ j => 0 < j) fun i j => .int (i % j)) := opI fun i j _ _ _ _ _ hc q => by
 have h1 : (0 : Int) < j := hc
 exact mod_int' (by omega) (by rw [Int.fmod_eq_emod_of_nonneg i (by omega)]; exact q)
theorem op_pow : OpR X (binaryOp .Pow) (rI CPow fun i j => .int (i ^ j.toNat)) := opI fun _ _ _ _ _ _ _ hc q => pow_int_small hc.1 hc.2.1 hc.2.2 q
theorem unI {f : Value → Sem Value} {g : Int → Int}
  (rule : ∀ (i : Int) (t : Tok) (s : Shared) (Q : Value → Shared → Prop) (E : Value → Shared → Prop),Q (.int (g i) s.toks) { s with toks := s.toks + 1 } → wpAny (model X.prog X.w) X.A (f (.int i t)) Q E s) :
  UnR X f (rU fun i => .int (g i)) := by
 intro pins s σ H x v Q I rx h
 obtain ⟨i,rfl,q⟩ := h
 obtain ⟨t,rfl⟩ := rx
 exact rule i t s _ _ ⟨.int (g i),H,I.tok _,⟨_,rfl⟩,q⟩
theorem un_neg : UnR X (unaryOp .USub) (rU fun i => .int (-i)) := unI fun _ _ _ _ _ q => neg_int q
end
def scal : V → V → Bool
 | .non,.non => true | .non,.int _ => true | .int _,.non => true | .non,.bl _ => true | .bl _,.non => true | .non,.str _ => true | .str _,.non => true
 | .int _,.int _ => true | .bl _,.bl _ => true | .str _,.str _ => true | .byt _,.byt _ => true
 | .int _,.str _ => true | .str _,.int _ => true | .bl _,.str _ => true | .str _,.bl _ => true
 | _,_ => false
def rEq : R2 := fun x y H Q => scal x y = true ∧ Q (.bl (decide (x = y))) H
def rNe : R2 := fun x y H Q => scal x y = true ∧ Q (.bl (!decide (x = y))) H
theorem dec_int {i j : Int} : decide (V.int i = V.int j) = (i == j) := by
 rw [Bool.eq_iff_iff]
 simp
theorem dec_bl {i j : Bool} : decide (V.bl i = V.bl j) = (i == j) := by
 rw [Bool.eq_iff_iff]
 simp
theorem dec_str {i j : Str} : decide (V.str i = V.str j) = (i == j) := by
 rw [Bool.eq_iff_iff]
 simp
theorem dec_byt {i j : Array UInt8} : decide (V.byt i = V.byt j) = (i.toList == j.toList) := by
 rw [Bool.eq_iff_iff]
 cases i
 cases j
 simp
section
variable {X : Cx} {a b c : Expr} {ta tb tc : TE} {pos : Pos}
theorem fin_bl {pins : List (Addr × Obj)} {σ : St} {H : Hp} {s : Shared} {Q : VK} {k k' : Bool} (I : Inv X pins σ H s) (q : Q (.bl k) H) (e : k = k') : EP X pins σ Q (.bool k') s := by
 subst e
 exact ⟨.bl k,H,I,rfl,q⟩
theorem op_eq : OpR X (compareOp .Eq) rEq := by
 intro pins s σ H x y v u Q I rx ry h
 obtain ⟨hs,q⟩ := h
 cases x with
 | non =>
  cases rx
  cases y with
  | non => cases ry; exact PySem.EqNone.eq_none_none (fin_bl I q (by simp))
  | bl j => cases ry; exact PySem.EqNone.eq_none_bool (fin_bl I q (by simp))
  | int j => obtain ⟨t',rfl⟩ := ry; exact PySem.EqNone.eq_none_int (fin_bl I q (by simp))
  | str j => obtain ⟨t',rfl⟩ := ry; exact PySem.EqNone.eq_none_str (fin_bl I q (by simp))
  | _ => exact absurd (show false = true from hs) Bool.false_ne_true
 | bl i =>
  cases rx
  cases y with
  | non => cases ry; exact PySem.EqNone.eq_bool_none (fin_bl I q (by simp))
  | bl j => cases ry; exact eq_bool (fin_bl I q dec_bl)
  | str j => obtain ⟨t',rfl⟩ := ry; exact PySem.EqMixed.eq_bool_str (fin_bl I q (by simp))
  | _ => exact absurd (show false = true from hs) Bool.false_ne_true
 | int i =>
  obtain ⟨t,rfl⟩ := rx
  cases y with
  | non => cases ry; exact PySem.EqNone.eq_int_none (fin_bl I q (by simp))
  | int j => obtain ⟨t',rfl⟩ := ry; exact eq_int (fin_bl I q dec_int)
  | str j => obtain ⟨t',rfl⟩ := ry; exact PySem.EqMixed.eq_int_str (fin_bl I q (by simp))
  | _ => exact absurd (show false = true from hs) Bool.false_ne_true
 | str i =>
  obtain ⟨t,rfl⟩ := rx
  cases y with
  | non => cases ry; exact PySem.EqNone.eq_str_none (fin_bl I q (by simp))
  | bl j => cases ry; exact PySem.EqMixed.eq_str_bool (fin_bl I q (by simp))
  | int j => obtain ⟨t',rfl⟩ := ry; exact PySem.EqMixed.eq_str_int (fin_bl I q (by simp))
  | str j => obtain ⟨t',rfl⟩ := ry; exact eq_str (fin_bl I q dec_str)
  | _ => exact absurd (show false = true from hs) Bool.false_ne_true
 | byt i =>
  obtain ⟨t,rfl⟩ := rx
  cases y with
  | byt j => obtain ⟨t',rfl⟩ := ry; exact PySem.W.eq_bytes (fin_bl I q dec_byt)
  | _ => exact absurd (show false = true from hs) Bool.false_ne_true
 | _ => cases y <;> exact absurd (show false = true from hs) Bool.false_ne_true
theorem op_ne : OpR X (compareOp .NotEq) rNe := by
 intro pins s σ H x y v u Q I rx ry h
 obtain ⟨hs,q⟩ := h
 cases x with
 | non =>
  cases rx
  cases y with
  | non => cases ry; exact PySem.EqNone.ne_none_none (fin_bl I q (by simp))
  | bl j => cases ry; exact PySem.EqNone.ne_none_bool (fin_bl I q (by simp))
  | int j => obtain ⟨t',rfl⟩ := ry; exact PySem.EqNone.ne_none_int (fin_bl I q (by simp))
  | str j => obtain ⟨t',rfl⟩ := ry; exact PySem.EqNone.ne_none_str (fin_bl I q (by simp))
  | _ => exact absurd (show false = true from hs) Bool.false_ne_true
 | bl i =>
  cases rx
  cases y with
  | non => cases ry; exact PySem.EqNone.ne_bool_none (fin_bl I q (by simp))
  | bl j => cases ry; exact ne_bool (fin_bl I q (congrArg not dec_bl))
  | str j => obtain ⟨t',rfl⟩ := ry; exact PySem.EqMixed.ne_bool_str (fin_bl I q (by simp))
  | _ => exact absurd (show false = true from hs) Bool.false_ne_true
 | int i =>
  obtain ⟨t,rfl⟩ := rx
  cases y with
  | non => cases ry; exact PySem.EqNone.ne_int_none (fin_bl I q (by simp))
  | int j => obtain ⟨t',rfl⟩ := ry; exact ne_int (fin_bl I q (congrArg not dec_int))
  | str j => obtain ⟨t',rfl⟩ := ry; exact PySem.EqMixed.ne_int_str (fin_bl I q (by simp))
  | _ => exact absurd (show false = true from hs) Bool.false_ne_true
 | str i =>
  obtain ⟨t,rfl⟩ := rx
  cases y with
  | non => cases ry; exact PySem.EqNone.ne_str_none (fin_bl I q (by simp))
  | bl j => cases ry; exact PySem.EqMixed.ne_str_bool (fin_bl I q (by simp))
  | int j => obtain ⟨t',rfl⟩ := ry; exact PySem.EqMixed.ne_str_int (fin_bl I q (by simp))
  | str j => obtain ⟨t',rfl⟩ := ry; exact ne_str (fin_bl I q (congrArg not dec_str))
  | _ => exact absurd (show false = true from hs) Bool.false_ne_true
 | byt i =>
  obtain ⟨t,rfl⟩ := rx
  cases y with
  | byt j => obtain ⟨t',rfl⟩ := ry; exact PySem.W.ne_bytes (fin_bl I q (congrArg not dec_byt))
  | _ => exact absurd (show false = true from hs) Bool.false_ne_true
 | _ => cases y <;> exact absurd (show false = true from hs) Bool.false_ne_true
theorem op_lt : OpR X (compareOp .Lt) (rI0 fun i j => .bl (decide (i < j))) := opB0 fun _ _ _ _ _ _ _ q => lt_int q
theorem op_le : OpR X (compareOp .LtE) (rI0 fun i j => .bl (decide (i ≤ j))) := opB0 fun _ _ _ _ _ _ _ q => le_int q
theorem op_gt : OpR X (compareOp .Gt) (rI0 fun i j => .bl (decide (j < i))) := opB0 fun _ _ _ _ _ _ _ q => gt_int q
theorem op_ge : OpR X (compareOp .GtE) (rI0 fun i j => .bl (decide (j ≤ i))) := opB0 fun _ _ _ _ _ _ _ q => ge_int q
theorem op_in_str : OpR X (compareOp .In) (fun x y H Q => ∃ i j,x = .str i ∧ y = .str j ∧ Q (.bl (!(Builtin.Str.occurrences j i 0 j.length 1).isEmpty)) H) := by
 intro pins s σ H x y v u Q I rx ry h
 obtain ⟨i,j,rfl,rfl,q⟩ := h
 obtain ⟨t,rfl⟩ := rx
 obtain ⟨t',rfl⟩ := ry
 exact in_str (fin_bl I q rfl)
theorem op_isN : OpR X (compareOp .Is) (fun x y H Q => y = .non ∧ Q (.bl (decide (x = .non))) H) := by
 intro pins s σ H x y v u Q I rx ry h
 obtain ⟨rfl,q⟩ := h
 cases ry
 refine is_none_gen (fin_bl I q ?_)
 cases x <;> first
  | (cases rx; rfl)
  | (obtain ⟨t,rfl⟩ := rx; rfl)
theorem op_notN : OpR X (compareOp .IsNot) (fun x y H Q => y = .non ∧ Q (.bl (!decide (x = .non))) H) := by
 intro pins s σ H x y v u Q I rx ry h
 obtain ⟨rfl,q⟩ := h
 cases ry
 refine isnot_none_gen (fin_bl I q ?_)
 cases x <;> first
  | (cases rx; rfl)
  | (obtain ⟨t,rfl⟩ := rx; rfl)
theorem nomark (b : Expr) {op : CmpOp} (h : op ≠ .In := by decide) (h2 : op ≠ .NotIn := by decide) : behindInMarks op b = false := by
 have e1 : (op == CmpOp.In) = false := by cases op <;> first | rfl | exact absurd rfl h
 have e2 : (op == CmpOp.NotIn) = false := by cases op <;> first | rfl | exact absurd rfl h2
 cases b <;> simp [behindInMarks,e1,e2]
theorem pe_cmpR {op : CmpOp} {r : R2} (ho : OpR X (compareOp op) r) (ha : PE X a ta) (hb : PE X b tb) (hm : behindInMarks op b = false) : PE X (.Compare a [op] [b] pos) (tOp r ta tb) := by
 intro pins s σ H Q I h
 exact wpAny_Compare1 (binT ha hb I h fun v u s2 x y H2 I2 rx ry q => ho pins s2 σ H2 x y v u Q I2 rx ry q) hm
def tTest (t : TE) : TT := fun σ H Q => t σ H fun x H' => ∃ k,x = .bl k ∧ Q k H'
theorem pt_cmpR {op : CmpOp} {r : R2} (ho : OpR X (compareOp op) r) (ha : PE X a ta) (hb : PE X b tb) (hm : behindInMarks op b = false) : PT X (.Compare a [op] [b] pos) (tTest (tOp r ta tb)) := by
 intro pins s σ H Q I h
 refine wpAny_isTrue_Compare1 (thn (ha pins s σ H _ I h) fun v s1 ⟨x,H1,I1,r1,q1⟩ => thn (hb pins s1 σ H1 _ I1 q1) fun u s2 ⟨y,H2,I2,r2,q2⟩ =>
  thn (ho pins s2 σ H2 x y v u _ I2 r1 r2 q2) fun c s3 ⟨z,H3,I3,r3,k,e,q3⟩ => ?_) hm
 subst e
 cases r3
 exact wpAny_truthy_bool ⟨H3,I3,q3⟩
def tChain (r r' : R2) (ta tb tc : TE) : TE := fun σ H Q => ta σ H fun x H1 => tb σ H1 fun y H2 => r x y H2 fun z H3 => ∃ k,z = .bl k ∧
 (if k = true then tc σ H3 fun w' H4 => r' y w' H4 Q else Q (.bl false) H3)
theorem pe_chain {op op' : CmpOp} {r r' : R2} (ho : OpR X (compareOp op) r) (ho' : OpR X (compareOp op') r') (ha : PE X a ta) (hb : PE X b tb) (hc : PE X c tc)
  (hm : lastMarks [op,op'] [b,c] = false := by with_unfolding_all rfl) : PE X (.Compare a [op,op'] [b,c] pos) (tChain r r' ta tb tc) := by
 intro pins s σ H Q I h
 refine Compare_chain (thn (ha pins s σ H _ I h) fun v s1 ⟨x,H1,I1,r1,q1⟩ => chain_link (thn (hb pins s1 σ H1 _ I1 q1) fun u s2 ⟨y,H2,I2,r2,q2⟩ =>
  thn (ho pins s2 σ H2 x y v u _ I2 r1 r2 q2) fun d s3 ⟨z,H3,I3,r3,k,e,q3⟩ => ?_)) hm
 subst e
 cases r3
 refine wpAny_truthy_bool ?_
 cases k with
 | false => exact ite_ff ⟨.bl false,H3,I3,rfl,q3⟩
 | true => exact ite_tt (chain_last (thn (hc pins s3 σ H3 _ I3 q3) fun w' s4 ⟨z',H4,I4,r4,q4⟩ => ho' pins s4 σ H4 y z' u w' Q I4 r2 r4 q4))
theorem pt_chain {op op' : CmpOp} {r r' : R2} (ho : OpR X (compareOp op) r) (ho' : OpR X (compareOp op') r') (ha : PE X a ta) (hb : PE X b tb) (hc : PE X c tc)
  (hm : lastMarks [op,op'] [b,c] = false := by with_unfolding_all rfl) : PT X (.Compare a [op,op'] [b,c] pos) (tTest (tChain r r' ta tb tc)) := by
 intro pins s σ H Q I h
 refine isTrue_chain (thn (ha pins s σ H _ I h) fun v s1 ⟨x,H1,I1,r1,q1⟩ => test_link (thn (hb pins s1 σ H1 _ I1 q1) fun u s2 ⟨y,H2,I2,r2,q2⟩ =>
  thn (ho pins s2 σ H2 x y v u _ I2 r1 r2 q2) fun d s3 ⟨z,H3,I3,r3,k,e,q3⟩ => ?_)) hm
 subst e
 cases r3
 refine wpAny_truthy_bool ?_
 cases k with
 | false =>
  obtain ⟨k',e',q'⟩ := q3
  cases e'
  exact ite_ff ⟨H3,I3,q'⟩
 | true =>
  refine ite_tt (test_last (thn (hc pins s3 σ H3 _ I3 q3) fun w' s4 ⟨z',H4,I4,r4,q4⟩ => thn (ho' pins s4 σ H4 y z' u w' _ I4 r2 r4 q4) fun d' s5 ⟨z2,H5,I5,r5,k2,e2,q5⟩ => ?_))
  subst e2
  cases r5
  exact wpAny_truthy_bool ⟨H5,I5,q5⟩
theorem line63 : (sizeLine : Nat) < 2 ^ 63 := by rw [sizeLine_eq]; decide
theorem op_add_str : OpR X (binaryOp .Add) (fun x y H Q => ∃ i j,x = .str i ∧ y = .str j ∧ i.length + j.length ≤ sizeLine ∧ Q (.str (i ++ j)) H) := by
 intro pins s σ H x y v u Q I rx ry h
 obtain ⟨i,j,rfl,rfl,hz,q⟩ := h
 obtain ⟨t,rfl⟩ := rx
 obtain ⟨t',rfl⟩ := ry
 exact add_str (fun t' tk => ⟨.str (i ++ j),H,I.tok _,⟨_,rfl⟩,q⟩) hz
theorem vals1 {x : V} {us : List Value} (r : Vals [x] us) : ∃ u,us = [u] ∧ RelV x u := by
 cases r with
 | cons r1 r2 => cases r2; exact ⟨_,rfl,r1⟩
theorem vals2 {x y : V} {us : List Value} (r : Vals [x,y] us) : ∃ u w',us = [u,w'] ∧ RelV x u ∧ RelV y w' := by
 cases r with
 | cons r1 r2 =>
  cases r2 with
  | cons r3 r4 => cases r4; exact ⟨_,_,rfl,r1,r3⟩
theorem call_abs : CallR X (.builtin "abs") (fun xs H Q => ∃ i,xs = [.int i] ∧ Q (.int (if i < 0 then -i else i)) H) := by
 intro pins s σ H xs us Q I r h
 obtain ⟨i,rfl,q⟩ := h
 obtain ⟨u,rfl,t,rfl⟩ := vals1 r
 exact call_abs_int fun u tk => ⟨.int (if i < 0 then -i else i),H,I.tok _,⟨_,rfl⟩,q⟩
theorem call_max2 (hc : X.calm = true) : CallR X (.builtin "max") (fun xs H Q => ∃ i j,xs = [.int i,.int j] ∧ Q (.int (if j > i then j else i)) H) := by
 intro pins s σ H xs us Q I r h
 obtain ⟨i,j,rfl,q⟩ := h
 obtain ⟨u,w',rfl,⟨t,rfl⟩,⟨t',rfl⟩⟩ := vals2 r
 refine max_two_ints (I.ok.hd hc) fun h' tk k => ⟨_,H,I.kept k,?_,q⟩
 by_cases hj : j > i
 ·rw [if_pos hj,if_pos hj]; exact ⟨_,rfl⟩
 ·rw [if_neg hj,if_neg hj]; exact ⟨_,rfl⟩
theorem call_min2 (hc : X.calm = true) : CallR X (.builtin "min") (fun xs H Q => ∃ i j,xs = [.int i,.int j] ∧ Q (.int (if j < i then j else i)) H) := by
 intro pins s σ H xs us Q I r h
 obtain ⟨i,j,rfl,q⟩ := h
 obtain ⟨u,w',rfl,⟨t,rfl⟩,⟨t',rfl⟩⟩ := vals2 r
 refine min_two_ints (I.ok.hd hc) fun h' tk k => ⟨_,H,I.kept k,?_,q⟩
 by_cases hj : j < i
 ·rw [if_pos hj,if_pos hj]; exact ⟨_,rfl⟩
 ·rw [if_neg hj,if_neg hj]; exact ⟨_,rfl⟩
theorem call_int1 : CallR X (.type "int") (fun xs H Q => (∃ i,xs = [.int i] ∧ Q (.int i) H) ∨ ∃ k,xs = [.bl k] ∧ Q (.int (if k then 1 else 0)) H) := by
 intro pins s σ H xs us Q I r h
 rcases h with ⟨i,rfl,q⟩ | ⟨k,rfl,q⟩
 ·obtain ⟨u,rfl,t,rfl⟩ := vals1 r
  exact call_int_int ⟨.int i,H,I,⟨_,rfl⟩,q⟩
 ·obtain ⟨u,rfl,r1⟩ := vals1 r
  cases r1
  exact call_int_bool ⟨.int (if k then 1 else 0),H,I.tok _,⟨_,rfl⟩,q⟩
theorem call_str_int : CallR X (.type "str") (fun xs H Q => ∃ i,xs = [.int i] ∧ i.natAbs.log2 < 1920 ∧ Q (.str (toString i)) H) := by
 intro pins s σ H xs us Q I r h
 obtain ⟨i,rfl,hz,q⟩ := h
 obtain ⟨u,rfl,t,rfl⟩ := vals1 r
 exact PySem.P.str_of_int hz ⟨.str _,H,I.tok _,⟨_,rfl⟩,q⟩
end
end L2
namespace L2
open PySem PySem.Spec PyProof.Rows
structure ObjM (h : Heap) (x dx C : Addr) (mA : Str → Option Value) : Prop where
 obj : h.get? x = some (PySem.W.instObj C dx)
 ns : h.Ns1 dx mA
 ne : dx ≠ x
theorem lookIn_ns {h : Heap} {dx : Addr} {mA : Str → Option Value} (n : h.Ns1 dx mA) : ∃ od,h.get? dx = some od ∧ ∀ name,PySem.W.lookIn name od = some (mA name) := by
 obtain ⟨o,es,ep,ho,hd,hk,_,hm⟩ := n
 refine ⟨o,ho,fun name => ?_⟩
 have e := hm name
 unfold nsFind findBy at e
 rw [← Array.find?_toList] at e
 unfold PySem.W.lookIn
 rw [hd]
 dsimp only
 split
 ·rename_i y q
  rw [q] at e
  exact congrArg some e
 ·rename_i q
  rw [q] at e
  have a : es.toList.any (·.refKey) = false := by
   rw [List.any_eq_false]
   intro y hy
   obtain ⟨z,t,hkey⟩ := hk y (Array.mem_toList_iff.mp hy)
   simp [DictEntry.refKey,hkey]
  have a' : ¬ es.toList.any (·.refKey) = true := by rw [a]; exact Bool.false_ne_true
  rw [if_neg a']
  exact congrArg some e
theorem ObjM.look {h : Heap} {x dx C : Addr} {mA : Str → Option Value} (I : ObjM h x dx C mA) : ∃ od,PySem.W.InstAt h x (PySem.W.instObj C dx) C (some od) ∧ ∀ name,PySem.W.lookIn name od = some (mA name) :=
 let ⟨od,ho,hl⟩ := lookIn_ns I.ns
 ⟨od,⟨I.obj,rfl,rfl,ho⟩,hl⟩
section
variable {prog : Program} {w : World} {A : Around} {E : Value → Shared → Prop} {s : Shared} {K : PySem.W.Frag} {x dx C f : Addr} {mA : Str → Option Value} {name : Str} {v : Value}
theorem get_map {expr : Bool} {Q : Value → Shared → Prop} (X : K.In s.heap) (I : ObjM s.heap x dx C mA) (hg : PySem.W.plainGet K C name = true) (hh : PySem.W.hasDictIn K C = true)
  (ha : PySem.W.findIn K (.ref C) name = some none) (hv : mA name = some v) (hv' : PySem.W.handedIn v = true) (h : Q v { s with toks := s.toks + 1 }) :
  wpAny (model prog w) A (getAttr (.ref x) name expr) Q E s := by
 obtain ⟨od,J,hl⟩ := I.look
 exact PySem.W.get_value X J (PySem.W.plainGet_of hg).1 (PySem.W.findObj_own hh ha rfl (by rw [hl,hv])) hv' h
theorem get_meth {pl : Sem Bool} {Q : Value × List Value → Shared → Prop} (X : K.In s.heap) (I : ObjM s.heap x dx C mA) (hg : PySem.W.plainGet K C name = true)
  (hf : PySem.W.findIn K (.ref C) name = some (some (.ref f))) (ht : PySem.W.isFn K (.ref f) = true) (hv : mA name = none) (h : Q (.ref f,[.ref x]) s) :
  wpAny (model prog w) A (getMethod (.ref x) name pl) Q E s := by
 obtain ⟨od,J,hl⟩ := I.look
 exact PySem.W.method_fn X J (PySem.W.plainGet_of hg).1 (PySem.W.plainGet_of hg).2 hf (beq_iff_eq.mp ht) (by show (PySem.W.lookIn name od).map (·.isSome) = some false; rw [hl,hv]; rfl) h
theorem set_map {ns : List Str} {Q : Unit → Shared → Prop} (X : K.In s.heap) (I : ObjM s.heap x dx C mA)
  (hs : PySem.W.findIn K (.ref C) "__setattr__" = some (some (.builtin "object.__setattr__"))) (hp : PySem.W.plainOver K C = true) (ht : PySem.W.takerIn K C name = some none) (hh : PySem.W.hasDictIn K C = true)
  (hw : PySem.Within mA ns) (hsz : ns.length ≤ sizeLine)
  (h : ∀ h',ObjM h' x dx C (fun y => if y = name then some v else mA y) → Heap.SameBut dx s.heap h' → Q () { s with heap := h',toks := s.toks + 2 }) :
  wpAny (model prog w) A (setAttr (.ref x) name v) Q E s := by
 obtain ⟨od,J,hl⟩ := I.look
 refine PySem.W.set_plain X J hs (PySem.W.osa_open (s := { s with toks := s.toks + 1 }) (r := none) X J hp ht fun b => ?_)
 obtain ⟨cd,hc,hd'⟩ := PySem.W.any_some hh
 have hx : s.heap.get? x = some ⟨.ref C,some dx,.plain,#[]⟩ := I.obj
 refine wpAny_bind (wpAny_pure (wpAny_bind (wpAny_bind (wpAny_loadPart hx (wpAny_bind (PySem.W.Looks.here (s := { s with toks := s.toks + 1 }) (PySem.W.looks_clsIn X hc) ?_))))))
 rw [hd']
 refine wpAny_pure (a := some dx) (wpAny_bind (wpAny_pure (wpAny_bind ?_)))
 refine wpAny_nsSet1 (s := { s with toks := s.toks + 1 }) I.ns fun h' hn2 hs2 => ?_
 obtain ⟨oD,esD,epD,hoD,hdD,hcD⟩ := hn2.count (PySem.Within.cons name v hw)
 refine wpAny_bind (wpAny_lookBehind hoD (by rw [hdD]; exact pastItsLine_dict (Nat.le_trans hcD (by rw [List.length_cons]; omega))) ?_)
 exact wpAny_pure (h _ ⟨(hs2.2 _ (Ne.symm I.ne)).trans I.obj,hn2,I.ne⟩ hs2)
theorem make_map {R : Result → Shared → Prop} {vs : List Value} {kw : List (Str × Value)} (X : K.In s.heap) (hm : PySem.W.makesIn K C = true)
  (hi : PySem.W.findIn K (.ref C) "__init__" = some (some (.ref f))) (hf : PySem.W.typeIn K (.ref f) = some (.type "function"))
  (h : codeAny (model prog w) (A.under (.builtin "type.__call__" ⟨.ref C :: vs,kw⟩)) (.call (.ref f) ⟨.ref (s.heap.objs.size + 1) :: vs,kw⟩) (PySem.W.InitBack (s.heap.objs.size + 1) R)
   { s with heap := (s.heap.push PySem.W.emptyDict).push (PySem.W.instObj C s.heap.objs.size) }) :
  codeAny (model prog w) A (.call (.ref C) ⟨vs,kw⟩) R s := by
 obtain ⟨hh,g,d,t,os⟩ := s
 exact PySem.W.make_core (PySem.W.makes_of X hm) (PySem.W.looks_findIn X hi) (fun self => PySem.W.bind_fn X self hf) (.inl rfl) h
theorem make_map0 {R : Result → Shared → Prop} (X : K.In s.heap) (hm : PySem.W.makesIn K C = true)
  (hi : PySem.W.findIn K (.ref C) "__init__" = some (some (.builtin "object.__init__")))
  (hb : ∀ self,PySem.W.Looks (model prog w) s.heap (bindSpecial (.builtin "object.__init__") self) (.builtin "object.__init__",[self]))
  (h : codeAny (model prog w) (A.under (.builtin "type.__call__" ⟨[.ref C],[]⟩)) (.call (.builtin "object.__init__") ⟨[.ref (s.heap.objs.size + 1)],[]⟩) (PySem.W.InitBack (s.heap.objs.size + 1) R)
   { s with heap := (s.heap.push PySem.W.emptyDict).push (PySem.W.instObj C s.heap.objs.size) }) :
  codeAny (model prog w) A (.call (.ref C) ⟨[],[]⟩) R s := by
 obtain ⟨hh,g,d,t,os⟩ := s
 exact PySem.W.make_core (PySem.W.makes_of X hm) (PySem.W.looks_findIn X hi) hb (.inr ⟨rfl,rfl⟩) h
end
def putF (f : Str) (v : V) : List (Str × V) → List (Str × V)
 | [] => [(f,v)]
 | (g,x) :: r => if g = f then (g,v) :: r else (g,x) :: putF f v r
theorem lookup_putF (f g : Str) (v : V) : ∀ fs : List (Str × V),(putF f v fs).lookup g = if g = f then some v else fs.lookup g
 | [] => by
  show List.lookup g [(f,v)] = _
  by_cases h : g = f
  ·have hb : (g == f) = true := beq_iff_eq.mpr h
   simp only [List.lookup,hb,if_pos h]
  ·have hb : (g == f) = false := beq_eq_false_iff_ne.mpr h
   simp only [List.lookup,hb,if_neg h]
 | (k,x) :: r => by
  have ih := lookup_putF f g v r
  rw [show putF f v ((k,x) :: r) = (if k = f then (k,v) :: r else (k,x) :: putF f v r) from rfl]
  by_cases hk : k = f
  ·rw [if_pos hk]
   by_cases h : g = k
   ·have hb : (g == k) = true := beq_iff_eq.mpr h
    simp only [List.lookup,hb,if_pos (h.trans hk)]
   ·have hb : (g == k) = false := beq_eq_false_iff_ne.mpr h
    simp only [List.lookup,hb,if_neg (fun e : g = f => h (e.trans hk.symm))]
  ·rw [if_neg hk]
   by_cases h : g = k
   ·have hb : (g == k) = true := beq_iff_eq.mpr h
    simp only [List.lookup,hb,if_neg (fun e : g = f => hk (h.symm.trans e))]
   ·have hb : (g == k) = false := beq_eq_false_iff_ne.mpr h
    simp only [List.lookup,hb]
    exact ih
theorem keys_putF (f : Str) (v : V) : ∀ fs : List (Str × V),f ∈ (putF f v fs).map (·.1) ∧ ∀ g,g ∈ fs.map (·.1) → g ∈ (putF f v fs).map (·.1)
 | [] => ⟨by simp [putF],fun g h => by simp at h⟩
 | (k,x) :: r => by
  obtain ⟨i1,i2⟩ := keys_putF f v r
  rw [show putF f v ((k,x) :: r) = (if k = f then (k,v) :: r else (k,x) :: putF f v r) from rfl]
  by_cases hk : k = f
  ·rw [if_pos hk]
   subst hk
   exact ⟨by simp,fun g h => by simpa using h⟩
  ·rw [if_neg hk]
   refine ⟨?_,fun g h => ?_⟩
   ·rw [List.map_cons]
    exact List.mem_cons_of_mem _ i1
   ·rw [List.map_cons] at h ⊢
    rcases List.mem_cons.mp h with e | e
    ·exact List.mem_cons.mpr (.inl e)
    ·exact List.mem_cons_of_mem _ (i2 g e)
theorem length_putF (f : Str) (v : V) : ∀ fs : List (Str × V),(putF f v fs).length ≤ fs.length + 1
 | [] => by simp [putF]
 | (k,x) :: r => by
  have ih := length_putF f v r
  rw [show putF f v ((k,x) :: r) = (if k = f then (k,v) :: r else (k,x) :: putF f v r) from rfl]
  by_cases hk : k = f
  ·rw [if_pos hk,List.length_cons,List.length_cons]; omega
  ·rw [if_neg hk,List.length_cons,List.length_cons]; omega
theorem RelO.some_of {v : V} {o : Option Value} (r : RelO (some v) o) : ∃ u,o = some u ∧ RelV v u := by
 cases o with
 | none => exact (show False from r).elim
 | some u => exact ⟨u,rfl,r⟩
theorem RelO.none_of {o : Option Value} (r : RelO none o) : o = none := by
 cases o with
 | none => rfl
 | some u => exact (show False from r).elim
theorem handed_of {v : V} {u : Value} (r : RelV v u) : PySem.W.handedIn u = true := by
 cases v with
 | non => cases (show u = Value.none from r); rfl
 | bl b => cases (show u = Value.bool b from r); rfl
 | int i => obtain ⟨t,e⟩ := (show ∃ t,u = Value.int i t from r); cases e; rfl
 | str x => obtain ⟨t,e⟩ := (show ∃ t,u = Value.str x t from r); cases e; rfl
 | byt b => obtain ⟨t,e⟩ := (show ∃ t,u = Value.bytes b t from r); cases e; rfl
 | flt b => obtain ⟨t,e⟩ := (show ∃ t,u = Value.float b t from r); cases e; rfl
 | ref a => cases (show u = Value.ref a from r); rfl
 | ty n => cases (show u = Value.type n from r); rfl
section
variable {P : Program} {w : World} {H H' : Hp} {h h' : Heap} {a C dx : Addr} {fs fs' : List (Str × V)}
theorem ins_get (hok : HOk P w H h) (e : H a = some (.ins C dx fs)) : ∃ mA,ObjM h a dx C mA ∧ (∀ f,RelO (fs.lookup f) (mA f)) ∧ PySem.Within mA (fs.map (·.1)) ∧ fs.length ≤ 1000 ∧ H dx = some (.own a) := by
 obtain ⟨d,z,ne,ob,mA,n,r,q⟩ := (show ObjOk P w H h a (.ins C dx fs) from hok a _ e)
 exact ⟨mA,⟨ob,n,ne⟩,r,q,z,d⟩
end
structure Cls (K : PySem.W.Frag) (C : Addr) : Prop where
 pg : PySem.W.plainGet K C Str.empty = true
 hd : PySem.W.hasDictIn K C = true
 po : PySem.W.plainOver K C = true
 sa : PySem.W.findIn K (.ref C) "__setattr__" = some (some (.builtin "object.__setattr__"))
theorem Cls.get {K : PySem.W.Frag} {C : Addr} (c : Cls K C) (f : Str) : PySem.W.plainGet K C f = true := c.pg
def NoAttr (K : PySem.W.Frag) (C : Addr) (f : Str) : Prop := PySem.W.findIn K (.ref C) f = some none
theorem NoAttr.taker {K : PySem.W.Frag} {C : Addr} {f : Str} (n : NoAttr K C f) : PySem.W.takerIn K C f = some none := by
 unfold PySem.W.takerIn
 rw [show PySem.W.findIn K (.ref C) f = some none from n]
 rfl
structure Meth (K : PySem.W.Frag) (C : Addr) (m : Str) (f : Addr) : Prop where
 at_ : PySem.W.findIn K (.ref C) m = some (some (.ref f))
 fn : PySem.W.isFn K (.ref f) = true
 kp : PySem.W.keepIn K (.ref f) = true
section
variable {X : Cx} {pins : List (Addr × Obj)} {σ : St} {H : Hp} {s : Shared} {a C dx : Addr} {fs : List (Str × V)} {f : Str} {v : V} {A : Around} {E : Value → Shared → Prop}
theorem getattr_ok {b : Bool} {Q : Value → Shared → Prop} (I : Inv X pins σ H s) (e : H a = some (.ins C dx fs)) (c : Cls X.K C) (n : NoAttr X.K C f) (l : fs.lookup f = some v)
  (h : ∀ u s',Inv X pins σ H s' → RelV v u → Q u s') : wpAny (model X.prog X.w) A (getAttr (.ref a) f b) Q E s := by
 obtain ⟨mA,O,r,_,_,_⟩ := ins_get I.hok e
 obtain ⟨u,hu,ru⟩ := RelO.some_of (v := v) (o := mA f) (by rw [← l]; exact r f)
 exact get_map I.kIn O (c.get f) c.hd n hu (handed_of ru) (h u _ (I.tok _) ru)
theorem getmeth_ok {m : Str} {g : Addr} {pl : Sem Bool} {Q : Value × List Value → Shared → Prop} (I : Inv X pins σ H s) (e : H a = some (.ins C dx fs)) (c : Cls X.K C) (k : Meth X.K C m g) (l : fs.lookup m = none)
  (h : Q (.ref g,[.ref a]) s) : wpAny (model X.prog X.w) A (getMethod (.ref a) m pl) Q E s := by
 obtain ⟨mA,O,r,_,_,_⟩ := ins_get I.hok e
 have hn : mA m = none := RelO.none_of (by rw [← l]; exact r m)
 exact get_meth I.kIn O (c.get m) k.at_ k.fn hn h
theorem setattr_ok {y : V} {u : Value} {Q : Unit → Shared → Prop} (I : Inv X pins σ H s) (e : H a = some (.ins C dx fs)) (c : Cls X.K C) (n : NoAttr X.K C f) (hl : fs.length < 1000) (ry : RelV y u)
  (h : ∀ s',Inv X pins σ (upd H a (.ins C dx (putF f y fs))) s' → Q () s') : wpAny (model X.prog X.w) A (setAttr (.ref a) f u) Q E s := by
 obtain ⟨mA,O,r,wi,_,ho⟩ := ins_get I.hok e
 have hz : (fs.map (·.1)).length ≤ sizeLine := by rw [List.length_map,sizeLine_eq]; omega
 refine set_map I.kIn O c.sa c.po n.taker c.hd wi hz fun h' O' sb => h _ ?_
 have hd : ∃ o,h'.get? dx = some o := let ⟨o,_,_,e',_⟩ := O'.ns; ⟨o,e'⟩
 refine I.write (x := a) (e := dx) (by rw [e]; exact True.intro) (.inr ho) (fun b q hb z => (sb.2 b hb).trans z) hd ?_
 refine ⟨by rw [upd_ne O.ne]; exact ho,?_,O.ne,O'.obj,_,O'.ns,fun g => ?_,fun g hg => ?_⟩
 ·have := length_putF f y fs; omega
 ·show RelO ((putF f y fs).lookup g) (if g = f then some u else mA g)
  rw [lookup_putF]
  by_cases q : g = f
  ·rw [if_pos q,if_pos q]; exact ry
  ·rw [if_neg q,if_neg q]; exact r g
 ·by_cases q : g = f
  ·rw [q]; exact (keys_putF f y fs).1
  ·refine (keys_putF f y fs).2 g (wi g fun z => hg ?_)
   show (if g = f then some u else mA g) = none
   rw [if_neg q]; exact z
theorem Inv.made (I : Inv X pins σ H s) : Inv X pins σ (upd (upd H s.heap.objs.size (.own (s.heap.objs.size + 1))) (s.heap.objs.size + 1) (.ins C s.heap.objs.size []))
  { s with heap := (s.heap.push PySem.W.emptyDict).push (PySem.W.instObj C s.heap.objs.size) } := by
 have e1 : (s.heap.push PySem.W.emptyDict).get? s.heap.objs.size = some PySem.W.emptyDict := Heap.get?_push_size s.heap rfl
 have e2 : ((s.heap.push PySem.W.emptyDict).push (PySem.W.instObj C s.heap.objs.size)).get? (s.heap.objs.size + 1) = some (PySem.W.instObj C s.heap.objs.size) := by
  have := Heap.get?_push_size (s.heap.push PySem.W.emptyDict) (o := PySem.W.instObj C s.heap.objs.size) rfl
  rwa [Heap.size_push] at this
 have e3 : (s.heap.push PySem.W.emptyDict).Ns s.heap.objs.size (fun _ => none) := ⟨PySem.W.emptyDict,#[],_,e1,rfl,(fun e he => absurd he (by simp)),fun _ => rfl⟩
 have I1 := I.laid (a := s.heap.objs.size) (o := .own (s.heap.objs.size + 1)) (h' := s.heap.push PySem.W.emptyDict) (t' := s.toks) (fun b u q => Heap.get?_push_of_some _ q) (Nat.le_refl _) ⟨_,e1⟩
 refine I1.laid (a := s.heap.objs.size + 1) (o := .ins C s.heap.objs.size []) (t' := s.toks) (fun b u q => Heap.get?_push_of_some _ q) (Nat.le_of_eq (Heap.size_push _ _)) ?_
 have ne : s.heap.objs.size ≠ s.heap.objs.size + 1 := Nat.ne_of_lt (Nat.lt_succ_self _)
 refine ⟨by rw [upd_ne ne,upd_same],Nat.zero_le _,ne,e2,fun _ => none,(Heap.Ns1.of_empty e3).at fun o q => Heap.get?_push_of_some _ q,fun _ => True.intro,fun y hy => absurd rfl hy⟩
theorem attr_of {prog : Program} {w : World} {env : Env} {e : Expr} {f : Str} {pos : Pos} {s : Shared} {Q : Value → Shared → Prop} (hb : attributeBase e f env (eval e env) = eval e env)
  (h : wpAny (model prog w) A (eval e env) (fun o s₁ => wpAny (model prog w) A (getAttr o f true) Q E s₁) E s) : wpAny (model prog w) A (eval (.Attribute e f pos) env) Q E s :=
 Attribute_any_ h (by rw [arm_eval_Attribute,hb])
end
def tFld (K : PySem.W.Frag) (ta : TE) (f : Str) : TE := fun σ H Q => ta σ H fun x H1 => ∃ a C dx fs v,x = .ref a ∧ H1 a = some (.ins C dx fs) ∧ Cls K C ∧ NoAttr K C f ∧ fs.lookup f = some v ∧ Q v H1
def sFld (K : PySem.W.Frag) (ta tv : TE) (f : Str) : TS := fun D σ H => tv σ H fun y H1 => ta σ H1 fun x H2 => ∃ a C dx fs,x = .ref a ∧ H2 a = some (.ins C dx fs) ∧ Cls K C ∧ NoAttr K C f ∧ fs.length < 1000 ∧
 D.nx σ (upd H2 a (.ins C dx (putF f y fs)))
def InOp (X : Cx) (op : Operator) (rd : V → V → Hp → VK → Prop) : Prop :=
 ∀ (pins : List (Addr × Obj)) (s : Shared) (σ : St) (H : Hp) (x y : V) (u v : Value) (Q : VK),Inv X pins σ H s → RelV x u → RelV y v → rd x y H Q → wpAny (model X.prog X.w) X.A (inplaceOp op u v) (EP X pins σ Q) X.xe s
def sFldAug (K : PySem.W.Frag) (ta tv : TE) (rd : V → V → Hp → VK → Prop) (f : Str) : TS := fun D σ H => ta σ H fun x H1 => ∃ a C dx fs v,x = .ref a ∧ H1 a = some (.ins C dx fs) ∧ Cls K C ∧ NoAttr K C f ∧ fs.lookup f = some v ∧
 tv σ H1 fun y H2 => rd v y H2 fun z H3 => ∃ dx' fs',H3 a = some (.ins C dx' fs') ∧ fs'.length < 1000 ∧ D.nx σ (upd H3 a (.ins C dx' (putF f z fs')))
section
variable {X : Cx} {o e value : Expr} {f : Str} {pos pos' tpos : Pos} {ta tv : TE}
theorem pe_fld (he : PE X e ta) (hb : attributeBase e f X.env (eval e X.env) = eval e X.env) : PE X (.Attribute e f pos) (tFld X.K ta f) := by
 intro pins s σ H Q I h
 refine attr_of hb (thn (he pins s σ H _ I h) fun u s1 ⟨x,H1,I1,rx,a,C,dx,fs,v,ex,ea,c,n,l,q⟩ => ?_)
 subst ex
 obtain rfl : u = Value.ref a := rx
 exact getattr_ok I1 ea c n l fun u' s2 I2 ru => ⟨v,H1,I2,ru,q⟩
theorem ps_fld (ha : PE X o ta) (hv : PE X value tv) (hs : swapsWith value (some (.Attribute o f pos')) pos.line X.env = pure false) : PS X (.Assign [.Attribute o f pos'] value pos) (sFld X.K ta tv f) := by
 intro pins s σ H D I h
 refine plainObj_wpAny_Assign_Attribute (thn (hv pins s σ H _ I h) fun u s1 ⟨y,H1,I1,ry,q⟩ => thn (ha pins s1 σ H1 _ I1 q) fun ov s2 ⟨x,H2,I2,rx,a,C,dx,fs,ex,ea,c,n,l,q2⟩ => ?_) hs
 subst ex
 obtain rfl : ov = Value.ref a := rx
 exact setattr_ok I2 ea c n l ry fun s3 I3 => ⟨σ,_,I3,q2⟩
theorem ps_fldaug {op : Operator} {rd : V → V → Hp → VK → Prop} (ha : PE X o ta) (hv : PE X value tv) (hop : InOp X op rd) : PS X (.AugAssign (.Attribute o f tpos) op value pos) (sFldAug X.K ta tv rd f) := by
 intro pins s σ H D I h
 refine wpAny_AugAssign_AttributeAny (thn (ha pins s σ H _ I h) fun ov s1 ⟨x,H1,I1,rx,a,C,dx,fs,v,ex,ea,c,n,l,q⟩ => ?_)
 subst ex
 obtain rfl : ov = Value.ref a := rx
 refine getattr_ok I1 ea c n l fun u s2 I2 ru => thn (hv pins s2 σ H1 _ I2 q) fun w3 s3 ⟨y,H2,I3,ry,q3⟩ => thn (hop pins s3 σ H2 v y u w3 _ I3 ru ry q3) fun w4 s4 ⟨z,H3,I4,rz,dx',fs',ea',l',q4⟩ => ?_
 exact setattr_ok I4 ea' c n l' rz fun s5 I5 => ⟨σ,_,I5,q4⟩
def rAdd : V → V → Hp → VK → Prop := fun x y H Q => ∃ i j,x = .int i ∧ y = .int j ∧ Q (.int (i + j)) H
theorem in_add : InOp X .Add rAdd := by
 rintro pins s σ H x y u v Q I rx ry ⟨i,j,rfl,rfl,q⟩
 obtain ⟨t,rfl⟩ := (show ∃ t,u = Value.int i t from rx)
 obtain ⟨t',rfl⟩ := (show ∃ t',v = Value.int j t' from ry)
 exact PyProof.Rows.iadd_int ⟨.int (i + j),H,I.tok _,⟨_,rfl⟩,q⟩
theorem methcall_of {pl : Sem Bool} {m : Str} {apos : Pos} {args : List Expr} {pins : List (Addr × Obj)} {s : Shared} {σ : St} {H : Hp} {Q : Value → Shared → Prop} {te : TE} (he : PE X e te) (I : Inv X pins σ H s)
  (h : te σ H fun x H1 => ∃ a C dx fs g,x = .ref a ∧ H1 a = some (.ins C dx fs) ∧ Cls X.K C ∧ Meth X.K C m g ∧ fs.lookup m = none ∧
   ∀ s1,Inv X pins σ H1 s1 → wpAny (model X.prog X.w) X.A (callWith pos (.ref g) [.ref a] (backTo pos (starEach args X.env)) (backToKw pos (keywordEach [] X.env))) Q X.xe s1)
  (ht : eval (.Call (.Attribute e m apos) args [] pos) X.env = (do
   let ov ← eval e X.env
   standAt apos.atName
   let (f,first) ← holding [ov] (getMethod ov m pl)
   callWith pos f first (backTo pos (starEach args X.env)) (backToKw pos (keywordEach [] X.env)))) :
  wpAny (model X.prog X.w) X.A (eval (.Call (.Attribute e m apos) args [] pos) X.env) Q X.xe s := by
 refine PySem.W.methodCall_KW (pl := pl) (thn (he pins s σ H _ I h) fun u s1 ⟨x,H1,I1,rx,a,C,dx,fs,g,ex,ea,c,k,l,q⟩ => ?_) ht
 subst ex
 obtain rfl : u = Value.ref a := rx
 exact getmeth_ok I1 ea c k l (q s1 I1)
end
section
variable {X : Cx} {pins : List (Addr × Obj)} {σ : St} {H : Hp} {s : Shared} {A : Around} {E : Value → Shared → Prop} {Q : Value → Shared → Prop} {c : Value} {b : Bool}
inductive TyOf (K : PySem.W.Frag) (H : Hp) : V → Value → Prop where
 | non : TyOf K H .non (.type "NoneType")
 | bl (x : Bool) : TyOf K H (.bl x) (.type "bool")
 | int (i : Int) : TyOf K H (.int i) (.type "int")
 | str (x : Str) : TyOf K H (.str x) (.type "str")
 | flt (x : UInt64) : TyOf K H (.flt x) (.type "float")
 | lst {a : Addr} {xs : List V} (e : H a = some (.lst xs)) : TyOf K H (.ref a) (.type "list")
 | frz {a : Addr} {o : Obj} {xs : List V} (e : H a = some (.frz o (.lst xs))) : TyOf K H (.ref a) (.type "list")
 | tup {a : Addr} {xs : List V} (e : H a = some (.tup xs)) : TyOf K H (.ref a) (.type "tuple")
 | dK {a : Addr} {kvs : List (Key × V)} (e : H a = some (.dK kvs)) : TyOf K H (.ref a) (.type "dict")
 | dT {a : Addr} {kvs : List (List Key × V)} (e : H a = some (.dT kvs)) : TyOf K H (.ref a) (.type "dict")
 | ins {a C dx : Addr} {fs : List (Str × V)} (e : H a = some (.ins C dx fs)) (cl : Cls K C) (ha : PySem.W.findIn K (.ref C) "__class__" = some (some (.builtin "object.__class__")))
   (hn : PySem.W.specialIn K (.builtin "object.__class__") "__get__" = some (some (.builtin "getset_descriptor.__get__"))) (htk : PySem.W.takesIn K (.builtin "object.__class__") = some true)
   (hm : PySem.W.mroIn K C (.type "object") = some true) : TyOf K H (.ref a) (.ref C)
theorem isinst_ok {x : V} {u t : Value} (I : Inv X pins σ H s) (rx : RelV x u) (ty : TyOf X.K H x t) (e : PySem.W.kitOne X.K t c = some b) (h : ∀ tk,Q (.bool b) { s with toks := tk }) :
  wpAny (model X.prog X.w) A (call (.builtin "isinstance") [u,c]) Q E s := by
 cases ty with
 | non => cases (show u = Value.none from rx); exact PySem.W.kia_one PySem.W.kitx_none I.kIn True.intro e (fun z => nomatch z) h
 | bl y => cases (show u = Value.bool y from rx); exact PySem.W.kia_one PySem.W.kitx_bool I.kIn True.intro e (fun z => nomatch z) h
 | int i => obtain ⟨t,q⟩ := (show ∃ t,u = Value.int i t from rx); cases q; exact PySem.W.kia_one PySem.W.kitx_int I.kIn True.intro e (fun z => nomatch z) h
 | str y => obtain ⟨t,q⟩ := (show ∃ t,u = Value.str y t from rx); cases q; exact PySem.W.kia_one PySem.W.kitx_str I.kIn True.intro e (fun z => nomatch z) h
 | flt y => obtain ⟨t,q⟩ := (show ∃ t,u = Value.float y t from rx); cases q; exact PySem.W.kia_one PySem.W.kitx_float I.kIn True.intro e (fun z => nomatch z) h
 | @lst a xs ea =>
  cases (show u = Value.ref a from rx)
  obtain ⟨_,_,n,_,h1⟩ := (show ObjOk X.prog X.w H s.heap a (.lst xs) from I.hok a _ ea)
  exact PySem.W.kia_one PySem.W.kitx_list I.kIn ⟨_,h1,rfl⟩ e (fun z => nomatch z) h
 | @frz a ob xs ea =>
  cases (show u = Value.ref a from rx)
  obtain ⟨_,_,_,n,_,h1⟩ := (show ObjOk X.prog X.w H s.heap a (.frz ob (.lst xs)) from I.hok a _ ea)
  exact PySem.W.kia_one PySem.W.kitx_list I.kIn ⟨_,h1,rfl⟩ e (fun z => nomatch z) h
 | @tup a xs ea =>
  cases (show u = Value.ref a from rx)
  obtain ⟨_,_,_,p⟩ := (show ObjOk X.prog X.w H s.heap a (.tup xs) from I.hok a _ ea)
  obtain ⟨o,h1,h2,_⟩ := p
  exact PySem.W.kia_one PySem.W.kitx_tuple I.kIn ⟨o,h1,h2⟩ e (fun z => nomatch z) h
 | @dK a kvs ea =>
  cases (show u = Value.ref a from rx)
  obtain ⟨_,_,vs,_,p⟩ := (show ObjOk X.prog X.w H s.heap a (.dK kvs) from I.hok a _ ea)
  obtain ⟨o,es,ep,h1,h2,_⟩ := p
  exact PySem.W.kia_one PySem.W.kitx_dict I.kIn ⟨o,h1,h2.1⟩ e (fun z => nomatch z) h
 | @dT a kvs ea =>
  cases (show u = Value.ref a from rx)
  obtain ⟨_,_,xs,_,o,es,ep,h1,h2,_⟩ := (show ObjOk X.prog X.w H s.heap a (.dT kvs) from I.hok a _ ea)
  exact PySem.W.kia_one PySem.W.kitx_dict I.kIn ⟨o,h1,h2.1⟩ e (fun z => nomatch z) h
 | @ins a C dx fs ea cl ha hn htk hm =>
  cases (show u = Value.ref a from rx)
  obtain ⟨mA,O,_⟩ := ins_get I.hok ea
  obtain ⟨od,J,_⟩ := O.look
  exact PySem.W.kia_one (PySem.W.kitx_own (cl.get _) cl.hd ha hn htk hm) I.kIn J e (fun z => nomatch z) h
end
end L2
namespace L2
open PySem PySem.Spec PyProof.Rows
structure Room (k : Nat) (A : Around) : Prop where
 hd : A.handled = none
 dp : A.depth + 3 * k + 5 < recursionLimit
 un : A.units + 16 * k + 200 < cLine
theorem Room.mono {j k : Nat} {A : Around} (r : Room k A) (h : j ≤ k) : Room j A := ⟨r.hd,by have := r.dp; omega,by have := r.un; omega⟩
theorem Room.deeper {k : Nat} {A : Around} (r : Room (k + 1) A) (env : Env) : Room k (A.deeper env) :=
 ⟨r.hd,by have := r.dp; show A.depth + 1 + 3 * k + 5 < _; omega,by have := r.un; show A.units + 3 + 16 * k + 200 < _; omega⟩
theorem make_depth {A : Around} {C : Addr} {us : List Value} {kw : List (Str × Value)} : (A.under (.builtin "type.__call__" ⟨.ref C :: us,kw⟩)).depth = A.depth + 1 := by
 first | rfl | simp [Around.under,Code.weight,Code.isCreation,Code.isGuard,Code.isCaller,Code.frames,Code.isFrame,guardIds]
theorem make_units {A : Around} {C : Addr} {us : List Value} {kw : List (Str × Value)} : (A.under (.builtin "type.__call__" ⟨.ref C :: us,kw⟩)).units = A.units + 1 := by
 first | rfl | simp [Around.under,Code.cUnits,Code.frames,Code.isFrame]
theorem Room.make {k : Nat} {A : Around} (r : Room (k + 1) A) (C : Addr) (us : List Value) (kw : List (Str × Value)) : Room k (A.under (.builtin "type.__call__" ⟨.ref C :: us,kw⟩)) :=
 ⟨r.hd,by have := r.dp; rw [make_depth]; omega,by have := r.un; rw [make_units]; omega⟩
theorem Room.depth {k : Nat} {A : Around} (r : Room k A) : A.depth < recursionLimit := by have := r.dp; omega
theorem Room.units0 {k : Nat} {A : Around} (r : Room k A) : A.units < cLine := by have := r.un; omega
def tNil : TA := fun _ H Q => Q [] H
def tCons (ta : TE) (tr : TA) : TA := fun σ H Q => ta σ H fun x H1 => tr σ H1 fun xs H2 => Q (x :: xs) H2
section
variable {X : Cx} {e : Expr} {es : List Expr} {te : TE} {t : TA} {pos : Pos}
theorem pa_nil : PA X [] tNil := fun _ _ _ _ H Q I h => Calls.spliced_nil ⟨[],H,I,.nil,h⟩
theorem pa_cons (ha : PE X e te) (hr : PA X es t) (hs : starEach (e :: es) X.env = (false,eval e X.env) :: starEach es X.env := by rfl) : PA X (e :: es) (tCons te t) := by
 intro pos pins s σ H Q I h
 rw [hs]
 show wpAny _ _ (spliced ((false,eval e X.env) :: backTo pos (starEach es X.env))) _ _ s
 refine Calls.spliced_cons (thn (ha pins s σ H _ I h) fun u s1 ⟨x,H1,I1,r1,q1⟩ => ?_)
 exact thn (hr pos pins s1 σ H1 _ I1 q1) fun us s2 ⟨xs,H2,I2,r2,q2⟩ => ⟨x :: xs,H2,I2,.cons r1 r2,q2⟩
def tTup (t : TA) : TE := fun σ H Q => t σ H fun xs H1 => xs.length ≤ sizeLine ∧ ∀ p,H1 p = none → Q (.ref p) (upd H1 p (.tup xs))
def tLst (t : TA) : TE := fun σ H Q => t σ H fun xs H1 => xs.length ≤ sizeLine ∧ ∀ p,H1 p = none → Q (.ref p) (upd H1 p (.lst xs))
theorem pe_tup {x1} (h : PA X es t) : PE X (.Tuple es x1 pos) (tTup t) := by
 intro pins s σ H Q I hq
 refine wpAny_Tuple_spliced (thn (h pos pins s σ H _ I hq) fun us s1 ⟨xs,H1,I1,r,z,q⟩ => ⟨by rw [← r.length]; exact z,?_⟩)
 have hf : H1 s1.heap.objs.size = none := I1.hok.fresh (Nat.le_refl _)
 refine ⟨.ref s1.heap.objs.size,upd H1 s1.heap.objs.size (.tup xs),I1.laid (t' := s1.toks) (fun b u e => Heap.get?_push_of_some _ e) (Nat.le_refl _) ?_,rfl,q _ hf⟩
 exact ⟨z,us,r,⟨_,Heap.get?_push_size _ rfl,rfl,_,rfl⟩⟩
theorem pe_lst (h : PA X es t) : PE X (.List es pos) (tLst t) := by
 intro pins s σ H Q I hq
 refine wpAny_List_spliced (thn (h pos pins s σ H _ I hq) fun us s1 ⟨xs,H1,I1,r,z,q⟩ => ⟨by rw [← r.length]; exact z,?_⟩)
 have hf : H1 s1.heap.objs.size = none := I1.hok.fresh (Nat.le_refl _)
 refine ⟨.ref s1.heap.objs.size,upd H1 s1.heap.objs.size (.lst xs),I1.laid (t' := s1.toks) (fun b u e => Heap.get?_push_of_some _ e) (Nat.le_refl _) ?_,rfl,q _ hf⟩
 exact ⟨z,us,0,r,Heap.get?_push_size _ rfl⟩
end
abbrev Sp := List V → Hp → VK → XK → Prop
abbrev CXT := List Env → Hp → Shared → XK → Value → Shared → Prop
structure Env0 (P : Program) (w : World) (K : PySem.W.Frag) (mg : Str → Option Value) (base : Heap) (A : Around) (outer : List Env) (s : Shared) (H : Hp) : Prop where
 frames : A.frames = some outer
 mod : Mod K mg base
 bs : ∀ b o,base.get? b = some o → s.heap.get? b = some o ∧ H b = none
 bsz : base.objs.size ≤ s.heap.objs.size
 funs : s.heap.FunFrames base outer
 frf : ∀ b ∈ frs outer,H b = none
 hok : HOk P w H s.heap
 bare : AllBare s.gens
def CE (outer : List Env) (P : Program) (w : World) (H : Hp) (s : Shared) (Q : VK) (u : Value) (s' : Shared) : Prop :=
 ∃ v H',s'.os = s.os ∧ AllBare s'.gens ∧ Un (frs outer) [] H H' s.heap s'.heap ∧ HOk P w H' s'.heap ∧ RelV v u ∧ Q v H'
def CR (CX : CXT) (outer : List Env) (P : Program) (w : World) (H : Hp) (s : Shared) (Q : VK) (E : XK) (r : Result) (s' : Shared) : Prop :=
 match r with
 | .ok (.ret u) => CE outer P w H s Q u s'
 | .ok _ => False
 | .error e => CX outer H s E e s'
structure FnOk (P : Program) (w : World) (K : PySem.W.Frag) (mg : Str → Option Value) (base : Heap) (CX : CXT) (k : Nat) (f : Addr) (fd : FuncData) (ps : List Str) (sp : Sp) : Prop where
 len : ∀ vs H Q E,sp vs H Q E → vs.length = ps.length
 run : ∀ (A : Around) (outer : List Env) (s : Shared) (H : Hp) (args : Args) (us : List Value) (vs : List V) (Q : VK) (E : XK),Room k A → Env0 P w K mg base A outer s H → BindsTo s fd args (ps.zip us) → Vals vs us → sp vs H Q E →
  codeAny (model P w) A (.call (.ref f) args) (CR CX outer P w H s Q E) s
theorem Env0.make {P : Program} {w : World} {K : PySem.W.Frag} {mg : Str → Option Value} {base : Heap} {A : Around} {outer : List Env} {s : Shared} {H : Hp} (e : Env0 P w K mg base A outer s H) (C : Addr) (us : List Value) (kw : List (Str × Value)) :
  Env0 P w K mg base (A.under (.builtin "type.__call__" ⟨.ref C :: us,kw⟩)) outer s H := ⟨by first | exact e.frames | (simpa [Around.under,Code.envs,Code.isFrame,pushEnvs] using e.frames),e.mod,e.bs,e.bsz,e.funs,e.frf,e.hok,e.bare⟩
section
variable {X : Cx} {pins : List (Addr × Obj)} {σ : St} {H : Hp} {s s' : Shared}
theorem Inv.env0 (I : Inv X pins σ H s) : Env0 X.prog X.w X.K X.mg X.base X.A X.stack s H :=
 ⟨I.ok.frames,I.ok.mod,I.bs,Nat.le_trans I.ok.bsz I.sz,I.stack,I.stkFree,I.hok,I.bare⟩
theorem Inv.after {Q : VK} {u : Value} (I : Inv X pins σ H s) (h : CE X.stack X.prog X.w H s Q u s') : EP X pins σ Q u s' := by
 obtain ⟨v,H',os,bare,un,hok,r,q⟩ := h
 obtain ⟨hh,g,d,t,os'⟩ := s'
 obtain rfl : os' = s.os := os
 exact ⟨v,H',I.call (h' := hh) (g' := g) (d' := d) (t' := t) (ch := []) un hok bare (fun b z => absurd z (by simp)),r,q⟩
end
def tCall (sp : Sp) (dvs : List V) (E : XK) (t : TA) : TE := fun σ H Q => t σ H fun vs H1 => sp (vs ++ dvs) H1 Q E
def tMeth (C : Addr) (m : Str) (sp : Sp) (dvs : List V) (E : XK) (ta : TE) (t : TA) : TE := fun σ H Q => ta σ H fun x H1 => ∃ a dx fs,x = .ref a ∧ H1 a = some (.ins C dx fs) ∧ fs.lookup m = none ∧
 t σ H1 fun vs H2 => sp (x :: (vs ++ dvs)) H2 Q E
def tMake (C : Addr) (sp : Sp) (dvs : List V) (E : XK) (t : TA) : TE := fun σ H Q => t σ H fun vs H1 => ∀ x dx,H1 x = none → H1 dx = none → dx ≠ x →
 sp (.ref x :: (vs ++ dvs)) (upd (upd H1 dx (.own x)) x (.ins C dx [])) (fun v H2 => v = .non ∧ Q (.ref x) H2) E
def Binds (K : PySem.W.Frag) (fd : FuncData) (ps : List Str) (ds : List Value) : Prop :=
 ∀ (s : Shared) (us : List Value),K.In s.heap → (us ++ ds).length = ps.length → BindsTo s fd ⟨us,[]⟩ (ps.zip (us ++ ds))
theorem Binds.all {K : PySem.W.Frag} {fd : FuncData} {ps : List Str} (h : ∀ us : List Value,us.length = ps.length → bindArgs fd ⟨us,[]⟩ = pure (ps.zip us)) : Binds K fd ps [] := fun s us _ hl => by
 rw [List.append_nil] at hl ⊢
 exact .of_eq (h us hl)
def Passes (CX : CXT) (X : Cx) (E : XK) : Prop := ∀ (pins : List (Addr × Obj)) (σ : St) (H : Hp) (s : Shared) (e : Value) (s' : Shared),Inv X pins σ H s → CX X.stack H s E e s' → X.xe e s'
section
variable {X : Cx} {CX : CXT} {k : Nat} {f C : Addr} {fd : FuncData} {ps : List Str} {sp : Sp} {dvs : List V} {ds : List Value} {E : XK} {x m : Str} {p pos apos : Pos} {e o : Expr} {es : List Expr} {ta : TE} {t : TA}
theorem run_fn {pins : List (Addr × Obj)} {σ : St} {H : Hp} {s : Shared} {Q : VK} {us : List Value} {vs : List V} (F : FnOk X.prog X.w X.K X.mg X.base CX k f fd ps sp) (hr : Room k X.A) (hb : Binds X.K fd ps ds) (hd : Vals dvs ds) (hx : Passes CX X E)
  (I : Inv X pins σ H s) (r : Vals vs us) (h : sp (vs ++ dvs) H Q E) : wpAny (model X.prog X.w) X.A (call (.ref f) us) (EP X pins σ Q) X.xe s := by
 have r2 : Vals (vs ++ dvs) (us ++ ds) := r.append hd
 have hl : (us ++ ds).length = ps.length := by rw [← r2.length]; exact F.len _ _ _ _ h
 refine wpAny_call (codeAny_mono (F.run X.A X.stack s H ⟨us,[]⟩ (us ++ ds) (vs ++ dvs) Q E hr I.env0 (hb s us I.kIn hl) r2 h) fun r s' hq => ?_)
 cases r with
 | error e => exact hx pins σ H s e s' I hq
 | ok fl =>
  cases fl with
  | ret u => exact I.after hq
  | next => exact False.elim hq
  | brk => exact False.elim hq
  | cont => exact False.elim hq
theorem pe_call (F : FnOk X.prog X.w X.K X.mg X.base CX k f fd ps sp) (hr : Room k X.A) (hg : Gl X x) (hm : X.mg x = some (.ref f)) (hk : PySem.W.keepIn X.K (.ref f) = true) (hb : Binds X.K fd ps ds) (hd : Vals dvs ds) (hx : Passes CX X E)
  (ha : PA X (e :: es) t) (hdb : (x == ("__debug__" : Str)) = false := by decide) (he : starEach (e :: es) X.env = (false,eval e X.env) :: starEach es X.env := by rfl) (hpl : (backTo pos (starEach es X.env)).any (·.1) = false := by rfl) :
  PE X (.Call (.Name x p) (e :: es) [] pos) (tCall sp dvs E t) := by
 intro pins s σ H Q I h
 refine wpAny_Call_Name_kw (ld_glob I hg hm ?_ hdb)
 refine PySem.W.callWith_K (h₀ := X.base) I.ok.mod.kin hk (thn (ha pos pins s σ H _ I h) fun us s1 ⟨vs,H1,I1,r,q⟩ => ⟨I1.kIn,?_⟩) he hpl
 exact run_fn F hr hb hd hx I1 r q
theorem pe_meth {pl : Sem Bool} (he : PE X o ta) (c : Cls X.K C) (hm : Meth X.K C m f) (F : FnOk X.prog X.w X.K X.mg X.base CX k f fd ps sp) (hr : Room k X.A) (hb : Binds X.K fd ps ds) (hd : Vals dvs ds) (hx : Passes CX X E) (ha : PA X (e :: es) t)
  (hst : starEach (e :: es) X.env = (false,eval e X.env) :: starEach es X.env := by rfl) (hpl : (backTo pos (starEach es X.env)).any (·.1) = false := by rfl)
  (ht : eval (.Call (.Attribute o m apos) (e :: es) [] pos) X.env = (do
   let ov ← eval o X.env
   standAt apos.atName
   let (f,first) ← holding [ov] (getMethod ov m pl)
   callWith pos f first (backTo pos (starEach (e :: es) X.env)) (backToKw pos (keywordEach [] X.env))) := by rfl) :
  PE X (.Call (.Attribute o m apos) (e :: es) [] pos) (tMeth C m sp dvs E ta t) := by
 intro pins s σ H Q I h
 refine PySem.W.methodCall_KW (pl := pl) (thn (he pins s σ H _ I h) fun u s1 ⟨x,H1,I1,rx,a,dx,fs,ex,ea,l,q⟩ => ?_) ht
 subst ex
 obtain rfl : u = Value.ref a := rx
 refine getmeth_ok I1 ea c hm l ?_
 refine PySem.W.callWith_K (first := [.ref a]) (h₀ := X.base) I.ok.mod.kin hm.kp (thn (ha pos pins s1 σ H1 _ I1 q) fun us s2 ⟨vs,H2,I2,r,q2⟩ => ⟨I2.kIn,?_⟩) hst hpl
 exact run_fn (us := .ref a :: us) (vs := .ref a :: vs) F hr hb hd hx I2 (.cons rfl r) q2
theorem pe_meth0 {pl : Sem Bool} (he : PE X o ta) (c : Cls X.K C) (hm : Meth X.K C m f) (F : FnOk X.prog X.w X.K X.mg X.base CX k f fd ps sp) (hr : Room k X.A) (hb : Binds X.K fd ps ds) (hd : Vals dvs ds) (hx : Passes CX X E)
  (ht : eval (.Call (.Attribute o m apos) [] [] pos) X.env = (do
   let ov ← eval o X.env
   standAt apos.atName
   let (f,first) ← holding [ov] (getMethod ov m pl)
   callWith pos f first (backTo pos (starEach [] X.env)) (backToKw pos (keywordEach [] X.env))) := by rfl) :
  PE X (.Call (.Attribute o m apos) [] [] pos) (tMeth C m sp dvs E ta tNil) := by
 intro pins s σ H Q I h
 refine PySem.W.methodCall_KW (pl := pl) (thn (he pins s σ H _ I h) fun u s1 ⟨x,H1,I1,rx,a,dx,fs,ex,ea,l,q⟩ => ?_) ht
 subst ex
 obtain rfl : u = Value.ref a := rx
 refine getmeth_ok I1 ea c hm l ?_
 exact PySem.W.callWith_K0 (first := [.ref a]) I1.kIn hm.kp (run_fn (us := [.ref a]) (vs := [.ref a]) F hr hb hd hx I1 (.cons rfl .nil) q)
structure Mk (K : PySem.W.Frag) (C f : Addr) : Prop where
 makes : PySem.W.makesIn K C = true
 init : PySem.W.findIn K (.ref C) "__init__" = some (some (.ref f))
 fn : PySem.W.isFn K (.ref f) = true
 kp : PySem.W.keepIn K (.ref C) = true
theorem run_make {pins : List (Addr × Obj)} {σ : St} {H : Hp} {s : Shared} {Q : VK} {us : List Value} {vs : List V} (M : Mk X.K C f) (F : FnOk X.prog X.w X.K X.mg X.base CX k f fd ps sp) (hr : Room (k + 1) X.A) (hb : Binds X.K fd ps ds) (hd : Vals dvs ds)
  (hx : Passes CX X E) (I : Inv X pins σ H s) (r : Vals vs us)
  (h : ∀ x dx,H x = none → H dx = none → dx ≠ x → sp (.ref x :: (vs ++ dvs)) (upd (upd H dx (.own x)) x (.ins C dx [])) (fun v H2 => v = .non ∧ Q (.ref x) H2) E) :
  wpAny (model X.prog X.w) X.A (call (.ref C) us) (EP X pins σ Q) X.xe s := by
 have hq := h (s.heap.objs.size + 1) s.heap.objs.size (I.hok.fresh (Nat.le_succ _)) (I.hok.fresh (Nat.le_refl _)) (Nat.ne_of_lt (Nat.lt_succ_self _))
 have I2 := Inv.made (C := C) I
 have r2 : Vals (V.ref (s.heap.objs.size + 1) :: (vs ++ dvs)) (Value.ref (s.heap.objs.size + 1) :: (us ++ ds)) := .cons rfl (r.append hd)
 have hl : (Value.ref (s.heap.objs.size + 1) :: us ++ ds).length = ps.length := by
  have e := r2.length
  rw [F.len _ _ _ _ hq] at e
  exact e.symm
 refine wpAny_call (make_map (f := f) I.kIn M.makes M.init (beq_iff_eq.mp M.fn) (codeAny_mono (F.run _ X.stack _ _ ⟨Value.ref (s.heap.objs.size + 1) :: us,[]⟩ (Value.ref (s.heap.objs.size + 1) :: (us ++ ds)) _ _ E (hr.make C us [])
  (I2.env0.make C us []) (hb _ (Value.ref (s.heap.objs.size + 1) :: us) I2.kIn hl) r2 hq) fun r s' hq' => ?_))
 cases r with
 | error e => exact hx pins σ _ _ e s' I2 hq'
 | ok fl =>
  cases fl with
  | ret u =>
   obtain ⟨v,H',I3,rv,ev,q3⟩ := I2.after hq'
   subst ev
   exact ⟨rv,⟨V.ref (s.heap.objs.size + 1),H',I3,rfl,q3⟩⟩
  | next => exact False.elim hq'
  | brk => exact False.elim hq'
  | cont => exact False.elim hq'
theorem pe_make (M : Mk X.K C f) (F : FnOk X.prog X.w X.K X.mg X.base CX k f fd ps sp) (hr : Room (k + 1) X.A) (hg : Gl X x) (hm : X.mg x = some (.ref C)) (hb : Binds X.K fd ps ds) (hd : Vals dvs ds) (hx : Passes CX X E)
  (ha : PA X (e :: es) t) (hdb : (x == ("__debug__" : Str)) = false := by decide) (he : starEach (e :: es) X.env = (false,eval e X.env) :: starEach es X.env := by rfl) (hpl : (backTo pos (starEach es X.env)).any (·.1) = false := by rfl) :
  PE X (.Call (.Name x p) (e :: es) [] pos) (tMake C sp dvs E t) := by
 intro pins s σ H Q I h
 refine wpAny_Call_Name_kw (ld_glob I hg hm ?_ hdb)
 refine PySem.W.callWith_K (h₀ := X.base) I.ok.mod.kin M.kp (thn (ha pos pins s σ H _ I h) fun us s1 ⟨vs,H1,I1,r,q⟩ => ⟨I1.kIn,?_⟩) he hpl
 exact run_make M F hr hb hd hx I1 r q
end
section
variable {X : Cx} {CX : CXT} {k : Nat} {f C : Addr} {fd : FuncData} {ps ks : List Str} {sp : Sp} {E : XK} {x m : Str} {p pos apos kpos : Pos} {e o : Expr} {es : List Expr} {kws : List Keyword} {te ta : TE} {t tk : TA} {nm : Option Str}
variable {g : List Value → List Value → List Value} {gV : List V → List V → List V}
end
structure FnScope (N P : List Str) (sc : Scope) : Prop where
 kind : sc.kind = .function
 co : sc.isCoroutine = false
 gen : sc.isGenerator = false
 nd : N.Nodup
 pre : N.take P.length = P
 par : ∀ x ∈ P,sc.names.lookup x = some .local ∨ sc.names.lookup x = some .cell
 nofree : ∀ y ∈ sc.names,y.2 ≠ .free
theorem bindL_out {kindOf : Str → Option NameKind} {x : Str} : ∀ {binds : List (Str × Value)} {m : Str → Option Value},(∀ v,(x,v) ∉ binds) → bindL kindOf binds m x = m x
 | [],_,_ => rfl
 | (n,v) :: r,m,h => by
  unfold bindL
  rw [bindL_out fun w hw => h w (List.mem_cons_of_mem _ hw)]
  split
  ·have : x ≠ n := by rintro rfl; exact h v List.mem_cons_self
   simp [this]
  ·rfl
theorem bindC_out {kindOf : Str → Option NameKind} {x : Str} : ∀ {binds : List (Str × Value)} {m : Str → Option Value},(∀ v,(x,v) ∉ binds) → bindC kindOf binds m x = m x
 | [],_,_ => rfl
 | (n,v) :: r,m,h => by
  unfold bindC
  rw [bindC_out fun w hw => h w (List.mem_cons_of_mem _ hw)]
  split
  ·rfl
  ·have : x ≠ n := by rintro rfl; exact h v List.mem_cons_self
   simp [this]
theorem bindL_get {kindOf : Str → Option NameKind} {x : Str} {v : Value} : ∀ {P : List Str} {vs : List Value} {i : Nat} {m : Str → Option Value},P.Nodup → P[i]? = some x → vs[i]? = some v → kindOf x = some .local →
  bindL kindOf (P.zip vs) m x = some v
 | [],_,_,_,_,h,_,_ => by simp at h
 | _ :: _,[],_,_,_,_,h,_ => by simp at h
 | p :: P,w :: vs,0,m,nd,h1,h2,hk => by
  simp at h1 h2; subst h1; subst h2
  show bindL kindOf ((p,w) :: P.zip vs) m p = _
  unfold bindL
  rw [bindL_out fun v hv => (List.nodup_cons.mp nd).1 (List.of_mem_zip hv).1,if_pos hk]
  simp
 | p :: P,w :: vs,i + 1,m,nd,h1,h2,hk => by
  show bindL kindOf ((p,w) :: P.zip vs) m x = _
  unfold bindL
  exact bindL_get (i := i) (List.nodup_cons.mp nd).2 (by simpa using h1) (by simpa using h2) hk
theorem bindC_get {kindOf : Str → Option NameKind} {x : Str} {v : Value} : ∀ {P : List Str} {vs : List Value} {i : Nat} {m : Str → Option Value},P.Nodup → P[i]? = some x → vs[i]? = some v → kindOf x ≠ some .local →
  bindC kindOf (P.zip vs) m x = some v
 | [],_,_,_,_,h,_,_ => by simp at h
 | _ :: _,[],_,_,_,_,h,_ => by simp at h
 | p :: P,w :: vs,0,m,nd,h1,h2,hk => by
  simp at h1 h2; subst h1; subst h2
  show bindC kindOf ((p,w) :: P.zip vs) m p = _
  unfold bindC
  rw [bindC_out fun v hv => (List.nodup_cons.mp nd).1 (List.of_mem_zip hv).1,if_neg hk]
  simp
 | p :: P,w :: vs,i + 1,m,nd,h1,h2,hk => by
  show bindC kindOf ((p,w) :: P.zip vs) m x = _
  unfold bindC
  exact bindC_get (i := i) (List.nodup_cons.mp nd).2 (by simpa using h1) (by simpa using h2) hk
def start (N : List Str) (vs : List V) : St := vs.map some ++ List.replicate (N.length - vs.length) none
def cxOf (CX : CXT) (P : Program) (w : World) (K : PySem.W.Frag) (mg : Str → Option Value) (base : Heap) (N : List Str) (qual : Str) (scope : Scope) (f : Addr) (cd : Value) (A : Around) (outer : List Env) (s : Shared) (H : Hp) (E : XK) : Cx where
 prog := P
 w := w
 K := K
 mg := mg
 base := base
 A := A.deeper (envOfC qual scope s.heap.objs.size f cd)
 N := N
 s₀ := s
 H₀ := H
 env := envOfC qual scope s.heap.objs.size f cd
 outer := outer
 stack := envOfC qual scope s.heap.objs.size f cd :: outer
 ex := []
 calm := true
 fn := fun _ => true
 pn := []
 xe := fun e s' => wpAny (model P w) (A.deeper (envOfC qual scope s.heap.objs.size f cd)) (leaving (envOfC qual scope s.heap.objs.size f cd) e) (fun _ s'' => CX outer H s E e s'') (fun e' s'' => CX outer H s E e' s'') s'
theorem cell_has {sc : Scope} {n : Nat} {x : Str} (h : sc.names.lookup x = some .cell) : ∃ c,(cellsFrom n sc.names []).lookup x = some c := by
 have q := PySem.W.cellsFrom_some sc.names n [] (.inl h)
 exact Option.isSome_iff_exists.mp q
theorem inv_start {CX : CXT} {P : Program} {w : World} {K : PySem.W.Frag} {mg : Str → Option Value} {base : Heap} {N ps : List Str} {qual : Str} {scope : Scope} {f : Addr} {cd : Value} {A : Around} {outer : List Env} {s s1 : Shared} {H : Hp} {E : XK} {us : List Value} {vs : List V}
  (S : FnScope N ps scope) (hd : A.handled = none) (e0 : Env0 P w K mg base A outer s H) (hl : vs.length = ps.length) (r : Vals vs us)
  (x : InCallC s s.heap.objs.size (bindL (envOfC qual scope s.heap.objs.size f cd).kindOf (ps.zip us) fun _ => none) (cellsFrom (s.heap.objs.size + 1) scope.names []) (bindC (envOfC qual scope s.heap.objs.size f cd).kindOf (ps.zip us) fun _ => none) s1) :
  Inv (cxOf CX P w K mg base N qual scope f cd A outer s H E) [] (start N vs) H s1 := by
 have hpl : ps.length ≤ N.length := by have := congrArg List.length S.pre; rw [List.length_take] at this; omega
 obtain ⟨h1,tk,rfl,hk⟩ := x.done
 have noA : ∀ b : Addr,b ∉ (cxOf CX P w K mg base N qual scope f cd A outer s H E).ex := fun b z => absurd (show b ∈ ([] : List Addr) from z) (by simp)
 refine ⟨⟨e0.mod,S.kind,rfl,rfl,Nat.le_refl _,fun y z c h1 h2 => ?_,fun y hy => ?_,fun y c _ h => ?_,fun _ => hd,Around.frames_deeper e0.frames,.inr ⟨rfl,rfl⟩,fun b z => absurd z (noA b),e0.bs,e0.bsz,fun b _ _ => noA b,fun b z => absurd z (noA b),e0.funs,e0.frf⟩,
  rfl,e0.bare,Un.kept hk,⟨_,x.toInCall.ns,fun i y v h1 h2 h3 => ?_⟩,fun y c h => ⟨_,x.cell y c h⟩,e0.hok.fresh (Nat.le_refl _),fun y c h => ?_,fun p hp => absurd (show p ∈ ([] : List (Addr × Obj)) from hp) (by simp),e0.hok.kept hk,?_⟩
 ·exact name_of_addr x.apart (PySem.mem_of_lookup h1) (PySem.mem_of_lookup h2)
 ·have hy : scope.names.lookup y = some .cell ∨ scope.names.lookup y = some .free := hy
  rcases hy with hy | hy
  ·exact cell_has hy
  ·exact absurd rfl (S.nofree _ (PySem.mem_of_lookup hy))
 ·exact Nat.le_of_lt (x.above y c (PySem.mem_of_lookup h))
 ·have hi : i < vs.length := by
   unfold start at h2
   by_cases hi : i < vs.length
   ·exact hi
   ·rw [List.getElem?_append_right (by simpa using hi)] at h2
    rw [List.getElem?_replicate] at h2
    split at h2 <;> cases h2
  have ha : vs[i]? = some v := by
   unfold start at h2
   rw [List.getElem?_append_left (by simpa using hi),List.getElem?_map] at h2
   cases e : vs[i]? with
   | none => rw [e] at h2; cases h2
   | some a => rw [e] at h2; cases h2; rfl
  obtain ⟨u,hu,rv⟩ := r.get ha
  have hp : ps[i]? = some y := by
   rw [← S.pre,List.getElem?_take_of_lt (by omega)]; exact h1
  have ndP : ps.Nodup := by rw [← S.pre]; exact S.nd.sublist (List.take_sublist _ _)
  refine ⟨u,rv,?_⟩
  rcases S.par y (List.mem_of_getElem? hp) with k | k
  ·exact .inl ⟨k,bindL_get ndP hp hu k⟩
  ·obtain ⟨c,e⟩ := cell_has (n := s.heap.objs.size + 1) k
   refine .inr ⟨.inl k,c,e,?_⟩
   have q := x.cell y c e
   rw [bindC_get ndP hp hu (by show scope.names.lookup y ≠ _; rw [k]; decide)] at q
   exact q
 ·exact e0.hok.fresh (Nat.le_of_lt (x.above y c (PySem.mem_of_lookup h)))
 ·unfold start
  show _ = N.length
  rw [List.length_append,List.length_map,List.length_replicate]
  omega
theorem fn_of {CX : CXT} {P : Program} {w : World} {K : PySem.W.Frag} {mg : Str → Option Value} {base : Heap} {k : Nat} {f : Addr} {name qual : Str} {params : Arguments} {body : List Stmt} {scope : Scope} {dV kV doc pm cdv ct oc : Value} {an od : Option Addr}
  {osl : Array (Option Value)} {N ps : List Str} {sp : Sp} (lk : K.lookup f = some ⟨oc,od,.func (PySem.W.fnOf name qual params body scope dV kV doc pm an cdv ct),osl⟩) (hcd : PySem.W.codeIn K cdv qual = true) (S : FnScope N ps scope)
  (len : ∀ vs H Q E,sp vs H Q E → vs.length = ps.length)
  (hbody : ∀ (A : Around) (outer : List Env) (s : Shared) (H : Hp) (vs : List V) (Q : VK) (E : XK),Room k (A.deeper (envOfC qual scope s.heap.objs.size f cdv)) → sp vs H Q E →
   ∃ t,PSs (cxOf CX P w K mg base N qual scope f cdv A outer s H E) body t ∧ t { nx := fun _ H' => Q .non H',rt := Q } (start N vs) H) :
  FnOk P w K mg base CX (k + 1) f (PySem.W.fnOf name qual params body scope dV kV doc pm an cdv ct) ps sp := by
 refine ⟨len,fun A outer s H args us vs Q E hr e0 hb r hsp => ?_⟩
 have hl := len _ _ _ _ hsp
 have KX : K.In s.heap := e0.mod.kin.keeps fun b o e => (e0.bs b o e).1
 have lim : s.heap.NoLimit := e0.mod.nolimit.keeps fun b o e => (e0.bs b o e).1
 have hkind : ∀ y ∈ ps.zip us,scope.names.lookup y.1 = some .local ∨ (scope.names.lookup y.1 = some .cell ∧ ((cellsFrom (s.heap.objs.size + 1) scope.names []).lookup y.1).isSome = true) := fun ⟨n,v⟩ hy => by
  rcases S.par n (List.of_mem_zip hy).1 with q | q
  ·exact .inl q
  ·exact .inr ⟨q,PySem.W.cellsFrom_some _ _ _ (.inl q)⟩
 refine codeAny_call_function hr.depth (KX _ _ lk) rfl S.co S.gen rfl (PySem.W.codeRec_of KX hcd) (hb _ _ _ _ ?_)
 refine wpAny_newFunctionEnv_cells S.kind hkind fun env he s1 x => ?_
 subst he
 refine ⟨lim.keeps x.toInCall.keep,codeAny_func ?_⟩
 obtain ⟨t,ht,hq⟩ := hbody A outer s H vs Q E (hr.deeper _) hsp
 have I : Inv (cxOf CX P w K mg base N qual scope f cdv A outer s H E) [] (start N vs) H s1 := inv_start S hr.hd e0 hl r x
 refine wpAny_mono (ht [] s1 (start N vs) H _ I hq) (fun fl s' hs => ?_) fun e s' hs => hs
 have fin : ∀ {σ' : St} {H' : Hp} {v : V} {u : Value},Inv (cxOf CX P w K mg base N qual scope f cdv A outer s H E) [] σ' H' s' → RelV v u → Q v H' → CE outer P w H s Q u s' :=
  fun {σ' H' v u} J rv q => ⟨v,H',J.os,J.bare,J.base,J.hok,rv,q⟩
 cases fl with
 | ret u =>
  obtain ⟨v,σ',H',J,rv,q⟩ := hs
  exact fin J rv q
 | next =>
  obtain ⟨σ',H',J,q⟩ := hs
  exact fin (v := V.non) (u := Value.none) J rfl q
 | brk =>
  obtain ⟨_,_,_,q⟩ := hs
  exact False.elim q
 | cont =>
  obtain ⟨_,_,_,q⟩ := hs
  exact False.elim q
end L2
namespace L2
open PySem PySem.Spec PyProof.Rows
section
variable {X : Cx} {x : Str} {p pos : Pos} {e : Expr} {es : List Expr} {t : TA} {id T : String} {r : List V → Hp → VK → Prop}
def tCB (r : List V → Hp → VK → Prop) (t : TA) : TE := fun σ H Q => t σ H fun vs H1 => r vs H1 Q
theorem pe_callB (hc : CallR X (.builtin id) r) (hg : Gl X x) (hm : X.mg x = none) (hv : bootBuiltins x = some (.builtin id)) (ha : PA X (e :: es) t) (hn : x ≠ "__name__" := by decide) (hdb : (x == ("__debug__" : Str)) = false := by decide)
  (he : starEach (e :: es) X.env = (false,eval e X.env) :: starEach es X.env := by rfl) (hpl : (backTo pos (starEach es X.env)).any (·.1) = false := by rfl) : PE X (.Call (.Name x p) (e :: es) [] pos) (tCB r t) := by
 intro pins s σ H Q I h
 refine wpAny_Call_Name_kw (ld_blt I hg hm hv ?_ hn hdb)
 exact PyProof.Rows.callWith_builtin1 (thn (ha pos pins s σ H _ I h) fun us s1 ⟨vs,H1,I1,r1,q1⟩ => hc pins s1 σ H1 vs us Q I1 r1 q1) he hpl
theorem pe_callTy (hc : CallR X (.type T) r) (hg : Gl X x) (hm : X.mg x = none) (hv : bootBuiltins x = some (.type T)) (ha : PA X (e :: es) t) (hn : x ≠ "__name__" := by decide) (hdb : (x == ("__debug__" : Str)) = false := by decide)
  (he : starEach (e :: es) X.env = (false,eval e X.env) :: starEach es X.env := by rfl) (hpl : (backTo pos (starEach es X.env)).any (·.1) = false := by rfl) : PE X (.Call (.Name x p) (e :: es) [] pos) (tCB r t) := by
 intro pins s σ H Q I h
 refine wpAny_Call_Name_kw (ld_blt I hg hm hv ?_ hn hdb)
 exact PyProof.Rows.callWith_type1 (thn (ha pos pins s σ H _ I h) fun us s1 ⟨vs,H1,I1,r1,q1⟩ => hc pins s1 σ H1 vs us Q I1 r1 q1) he hpl
end
end L2
namespace HT
open PySem PyProof.Rows
section
open PySem.SeqAt
open PySem.AutoSeq1 (wpAny_loadPart')
open PySem.MeetsSeq PySem.MeetsSeq2 PySem.MeetsSeq3
end
section
variable {prog : Program} {w : World} {A : Around} {E : Value → Shared → Prop} {s : Shared}
theorem cat_tup {t b : Addr} {vs ws : List Value} {Q : Value → Shared → Prop} (ht : IsTup s.heap t vs.toArray) (hb : IsTup s.heap b ws.toArray) (hv : vs ≠ [])
  (h1 : ws = [] → Q (.ref t) s) (h2 : ws ≠ [] → Q (.ref s.heap.objs.size) { s with heap := s.heap.push { cls := .type "tuple",data := .seq (vs ++ ws).toArray } })
  (hsz : vs.length + ws.length ≤ sizeLine) : wpAny (model prog w) A (binaryOp .Add (.ref t) (.ref b)) Q E s := by
 obtain ⟨⟨cls,dd,data,sl⟩,ho,hc,n,hd⟩ := id ht
 obtain ⟨⟨cls2,dd2,data2,sl2⟩,ho2,hc2,n2,hd2⟩ := id hb
 simp only at hc hd hc2 hd2
 subst hc hd hc2 hd2
 have e : vs.toArray ++ ws.toArray = (vs ++ ws).toArray := by simp
 by_cases hw : ws = []
 ·exact concat_meets ⟨_,ho,rfl⟩ ⟨_,ho2,rfl⟩ noFill_tuple_add seq_tuple_add PySem.F.slot_tuple_add PySem.F.entry_tuple_add (PySem.F.args_tuple_add_2 _ _)
   (tuple_addW1 t b vs.toArray ws.toArray n n2 dd dd2 sl sl2 (by simpa using hv) (by simp [hw])) ⟨ho,ho2,h1 hw⟩
 ·refine concat_meets ⟨_,ho,rfl⟩ ⟨_,ho2,rfl⟩ noFill_tuple_add seq_tuple_add PySem.F.slot_tuple_add PySem.F.entry_tuple_add (PySem.F.args_tuple_add_2 _ _)
   (tuple_addW2 t b vs.toArray ws.toArray n n2 dd dd2 sl sl2 (by simpa using hv) (by simpa using hw) (by rw [List.size_toArray,List.size_toArray]; exact hsz)) ⟨ho,ho2,?_⟩
  rw [e]
  exact h2 hw
def sIx (n d : Nat) : Option Int → Nat
 | none => d
 | some v => if v < 0 then (v + (n : Int)).toNat else min v.toNat n
theorem sIx_none (n d : Nat) : sIx n d none = d := rfl
theorem sIx_nat (n d k : Nat) : sIx n d (some (k : Int)) = min k n := by
 show (if (k : Int) < 0 then ((k : Int) + (n : Int)).toNat else min (k : Int).toNat n) = min k n
 rw [if_neg (by omega),Int.toNat_natCast]
end
end HT
namespace L2
open PySem PySem.Spec PyProof.Rows
abbrev TO := St → Hp → (Option Int → Hp → Prop) → Prop
def PO (X : Cx) (e : Option Expr) (t : TO) : Prop :=
 ∀ (pins : List (Addr × Obj)) (s : Shared) (σ : St) (H : Hp) (Q : Option Int → Hp → Prop),Inv X pins σ H s → t σ H Q →
  wpAny (model X.prog X.w) X.A (evalPart e X.env) (fun u s' => ∃ o H',Inv X pins σ H' s' ∧ IsPart u o ∧ Q o H') X.xe s
def tNoPart : TO := fun _ H Q => Q none H
def tPart (t : TE) : TO := fun σ H Q => t σ H fun x H1 => ∃ i,x = .int i ∧ Q (some i) H1
theorem intsAre_of {ns : List Int} : ∀ {us : List Value},Vals (ns.map V.int) us → IntsAre us ns := by
 induction ns with
 | nil => intro us r; rw [List.map_nil] at r; cases r; exact .nil
 | cons n ns ih =>
  intro us r
  rw [List.map_cons] at r
  cases r with
  | cons r1 r2 =>
   obtain ⟨t,e⟩ := r1
   subst e
   exact .cons n t (ih r2)
section
variable {X : Cx} {e : Expr} {te : TE} {lo hi : Option Expr} {tl th : TO} {pos p2 : Pos}
theorem po_none : PO X none tNoPart := by
 intro pins s σ H Q I h
 rw [evalPart_none]
 exact wpAny_pure ⟨none,H,I,.none,h⟩
theorem po_some (h : PE X e te) : PO X (some e) (tPart te) := by
 intro pins s σ H Q I hw
 rw [evalPart_some]
 refine thn (h pins s σ H _ I hw) fun u s1 ⟨x,H1,I1,r1,q1⟩ => ?_
 obtain ⟨i,rfl,q⟩ := q1
 obtain ⟨t,rfl⟩ := r1
 exact ⟨some i,H1,I1,.int i t,q⟩
def SlR (X : Cx) (r : V → Option Int → Option Int → Hp → VK → Prop) : Prop :=
 ∀ (pins : List (Addr × Obj)) (s : Shared) (σ : St) (H : Hp) (x : V) (v vl vu : Value) (lo hi : Option Int) (sl : Addr) (Q : VK),Inv X pins σ H s → RelV x v → s.heap.IsSliceOf sl vl vu .none → IsPart vl lo → IsPart vu hi → r x lo hi H Q →
  ∃ T id,typeLookup (.type T) "__getitem__" = pure (some (.builtin id)) ∧ s.TypeIs v T ∧ wpAny (model X.prog X.w) X.A (getItem v (.ref sl)) (EP X pins σ Q) X.xe s
def tSl (r : V → Option Int → Option Int → Hp → VK → Prop) (te : TE) (tl th : TO) : TE := fun σ H Q => te σ H fun x H1 => tl σ H1 fun l H2 => th σ H2 fun u H3 => r x l u H3 Q
theorem pe_slice {r : V → Option Int → Option Int → Hp → VK → Prop} (hr : SlR X r) (he : PE X e te) (hl : PO X lo tl) (hu : PO X hi th) : PE X (.Subscript e (.Slice lo hi none p2) pos) (tSl r te tl th) := by
 intro pins s σ H Q I h
 refine Subscript_ (thn (he pins s σ H _ I h) fun v s1 ⟨x,H1,I1,r1,q1⟩ => ?_)
 refine wpAny_Slice (thn (hl pins s1 σ H1 _ I1 q1) fun vl s2 ⟨l,H2,I2,pl,q2⟩ => thn (hu pins s2 σ H2 _ I2 q2) fun vu s3 ⟨u,H3,I3,pu,q3⟩ => ?_)
 rw [evalPart_none]
 refine wpAny_pure ?_
 have I4 : Inv X pins σ H3 { s3 with heap := s3.heap.push { cls := .type "slice",data := .fields #[vl,vu,.none] } } := I3.kept (t' := s3.toks) fun b ob q => Heap.get?_push_of_some _ q
 obtain ⟨T,id,hT,ht,hg⟩ := hr pins { s3 with heap := s3.heap.push { cls := .type "slice",data := .fields #[vl,vu,.none] } } σ H3 x v vl vu l u s3.heap.objs.size Q I4 r1 (Heap.IsSliceOf.new ..) pl pu q3
 show wpAny (model X.prog X.w) X.A (subscriptTail e (.Slice lo hi none p2) v (.ref s3.heap.objs.size)) (EP X pins σ Q) X.xe { s3 with heap := s3.heap.push { cls := .type "slice",data := .fields #[vl,vu,.none] } }
 exact tail_any (ops := [.ref s3.heap.objs.size,v]) ht hT hg (by with_unfolding_all rfl)
def cutV (xs : List V) (lo hi : Option Int) : List V := (xs.drop (HT.sIx xs.length 0 lo)).take (HT.sIx xs.length xs.length hi - HT.sIx xs.length 0 lo)
theorem cutV_length (xs : List V) (lo hi : Option Int) : (cutV xs lo hi).length ≤ xs.length := by
 unfold cutV
 rw [List.length_take,List.length_drop]
 omega
def rCatT (K : PySem.W.Frag) : R2 := fun x y H Q => ∃ a b xs ys,x = .ref a ∧ y = .ref b ∧ SqT K H a xs ∧ SqT K H b ys ∧ xs ≠ [] ∧ xs.length + ys.length ≤ sizeLine ∧
 (ys = [] → Q (.ref a) H) ∧ (ys ≠ [] → ∀ p,H p = none → Q (.ref p) (upd H p (.tup (xs ++ ys))))
theorem Vals.nil_iff {xs : List V} {us : List Value} (r : Vals xs us) : us = [] ↔ xs = [] := by
 cases r with
 | nil => simp
 | cons _ _ => simp
theorem op_catT : OpR X (binaryOp .Add) (rCatT X.K) := by
 intro pins s σ H x y v u Q I rx ry h
 obtain ⟨a,b,xs,ys,rfl,rfl,ha,hb,hx,hz,q1,q2⟩ := h
 cases rx
 cases ry
 obtain ⟨its,r1,p1,_⟩ := I.tuple ha
 obtain ⟨its2,r2,p2,_⟩ := I.tuple hb
 refine HT.cat_tup p1 p2 (fun z => hx (r1.nil_iff.mp z)) (fun z => ⟨.ref a,H,I,rfl,q1 (r2.nil_iff.mp z)⟩) (fun z => ?_) (by rw [← r1.length,← r2.length]; exact hz)
 refine ⟨.ref s.heap.objs.size,_,I.laid (t' := s.toks) (o := .tup (xs ++ ys)) (fun b ob q => Heap.get?_push_of_some _ q) (Nat.le_refl _) ?_,rfl,q2 (fun w => z (r2.nil_iff.mpr w)) _ (I.hok.fresh (Nat.le_refl _))⟩
 exact ⟨by rw [List.length_append]; exact hz,_,r1.append r2,IsTup.new _ _⟩
end
end L2
namespace L2
open PySem PySem.Spec PyProof.Rows
def ixN (n : Nat) (i : Int) : Option Nat := if 0 ≤ i then (if i < n then some i.toNat else none) else if -(n : Int) ≤ i then some (i + n).toNat else none
def atI {α : Type} (xs : List α) (i : Int) : Option α := (ixN xs.length i).bind fun j => xs[j]?
theorem ixN_seq {n : Nat} {i : Int} {j : Nat} (h : ixN n i = some j) : seqIndex? i n = some j ∧ j < n ∧ -(n : Int) ≤ i ∧ i < n := by
 unfold ixN at h
 by_cases h0 : 0 ≤ i
 ·rw [if_pos h0] at h
  by_cases h1 : i < n
  ·rw [if_pos h1] at h
   have e : i.toNat = j := Option.some.inj h
   exact ⟨by rw [seqIndex_of h0 h1,e],by omega,by omega,h1⟩
  ·rw [if_neg h1] at h; cases h
 ·rw [if_neg h0] at h
  by_cases h1 : -(n : Int) ≤ i
  ·rw [if_pos h1] at h
   have e : (i + n).toNat = j := Option.some.inj h
   exact ⟨by rw [seqIndex_neg (by omega) h1,e],by omega,h1,by omega⟩
  ·rw [if_neg h1] at h; cases h
theorem atI_get {α : Type} {xs : List α} {i : Int} {v : α} (h : atI xs i = some v) : ∃ j,seqIndex? i xs.length = some j ∧ xs[j]? = some v ∧ j < xs.length ∧ -(xs.length : Int) ≤ i ∧ i < xs.length := by
 unfold atI at h
 cases e : ixN xs.length i with
 | none => rw [e] at h; cases h
 | some j =>
  rw [e] at h
  obtain ⟨h1,h2,h3,h4⟩ := ixN_seq e
  exact ⟨j,h1,h,h2,h3,h4⟩
theorem atI_nat {α : Type} {xs : List α} {j : Nat} {v : α} (h : xs[j]? = some v) : atI xs (j : Int) = some v := by
 have hj : j < xs.length := (List.getElem?_eq_some_iff.mp h).1
 have e : ixN xs.length (j : Int) = some j := by
  unfold ixN
  rw [if_pos (by omega),if_pos (by omega)]; simp
 unfold atI; rw [e]; exact h
def PlainIx (b : Expr) : Prop := ∀ o i,subscripted b false o i = operate [o,i] (getItem o i)
def IxR (X : Cx) (r : R2) : Prop :=
 ∀ (value slice : Expr) (pins : List (Addr × Obj)) (s : Shared) (σ : St) (H : Hp) (x y : V) (v u : Value) (Q : VK),Inv X pins σ H s → RelV x v → RelV y u → r x y H Q →
  subscripted slice false v u = operate [v,u] (getItem v u) → wpAny (model X.prog X.w) X.A (subscriptTail value slice v u) (EP X pins σ Q) X.xe s
def MtR (X : Cx) (id : String) (r : V → List V → Hp → VK → Prop) : Prop :=
 ∀ (pins : List (Addr × Obj)) (s : Shared) (σ : St) (H : Hp) (x : V) (xs : List V) (v : Value) (us : List Value) (Q : VK),Inv X pins σ H s → RelV x v → Vals xs us → r x xs H Q →
  wpAny (model X.prog X.w) X.A (call (.builtin id) (v :: us)) (EP X pins σ Q) X.xe s
section
variable {X : Cx} {a b : Expr} {ta tb : TE} {pos : Pos}
theorem IxR.or {r r' : R2} (h : IxR X r) (h' : IxR X r') : IxR X (fun x y H Q => r x y H Q ∨ r' x y H Q) := by
 intro value slice pins s σ H x y v u Q I rx ry q hs
 rcases q with q | q
 ·exact h value slice pins s σ H x y v u Q I rx ry q hs
 ·exact h' value slice pins s σ H x y v u Q I rx ry q hs
theorem pe_ix {r : R2} (hr : IxR X r) (ha : PE X a ta) (hb : PE X b tb) (hs : PlainIx b) : PE X (.Subscript a b pos) (tOp r ta tb) := by
 intro pins s σ H Q I h
 exact Subscript_ (binT ha hb I h fun v u s2 x y H2 I2 rx ry q => hr a b pins s2 σ H2 x y v u Q I2 rx ry q (hs _ _))
def rIxL (K : PySem.W.Frag) : R2 := fun x y H Q => ∃ p xs i v,x = .ref p ∧ y = .int i ∧ SqL K H p xs ∧ atI xs i = some v ∧ Q v H
def rIxT (K : PySem.W.Frag) : R2 := fun x y H Q => ∃ p xs i v,x = .ref p ∧ y = .int i ∧ SqT K H p xs ∧ atI xs i = some v ∧ Q v H
def rIxS : R2 := fun x y H Q => ∃ z i c,x = .str z ∧ y = .int i ∧ z.length ≤ sizeLine ∧ atI z.cps.toList i = some c ∧ Q (.str ⟨#[c]⟩) H
theorem ix_list : IxR X (rIxL X.K) := by
 intro value slice pins s σ H x y v u Q I rx ry h hs
 obtain ⟨p,xs,i,z,rfl,rfl,hq,he,q⟩ := h
 cases rx
 obtain ⟨t,rfl⟩ := ry
 obtain ⟨its,r,pl,hz⟩ := I.list hq
 obtain ⟨j,h1,h2,h3,h4,h5⟩ := atI_get he
 obtain ⟨w,ew,rw'⟩ := r.get h2
 have hl := r.length
 have hn := line63
 have fin : EP X pins σ Q w s := ⟨z,H,I,rw',q⟩
 by_cases h0 : 0 ≤ i
 ·have hj : i.toNat = j := by
   rw [seqIndex_of h0 h5] at h1
   exact Option.some.inj h1
  exact item_listR pl.isList h0 (by omega) (by rw [hj]; simpa using ew) fin hs
 ·have hj : (i + (its.toArray.size : Int)).toNat = j := by
   rw [seqIndex_neg (by omega) h4] at h1
   rw [List.size_toArray,← hl]
   exact Option.some.inj h1
  exact subscriptTail_builtinR (x := w) pl.isList.typeIs slot_list_getitem.lookup
   (wpAny_getItem_list_neg (Q := fun r s' => r = w ∧ EP X pins σ Q r s') pl.isList (by omega) (by rw [List.size_toArray] <;> omega) (by omega) (by rw [hj]; simpa using ew) ⟨rfl,fin⟩) hs
theorem ix_tup : IxR X (rIxT X.K) := by
 intro value slice pins s σ H x y v u Q I rx ry h hs
 obtain ⟨p,xs,i,z,rfl,rfl,hq,he,q⟩ := h
 cases rx
 obtain ⟨t,rfl⟩ := ry
 obtain ⟨its,r,pl,hz⟩ := I.tuple hq
 obtain ⟨j,h1,h2,h3,h4,h5⟩ := atI_get he
 obtain ⟨w,ew,rw'⟩ := r.get h2
 have hl := r.length
 have hn := line63
 have fin : EP X pins σ Q w s := ⟨z,H,I,rw',q⟩
 exact subscriptTail_builtinR (x := w) pl.typeIs slot_tuple_getitem.lookup
  (getItem_tuple (j := j) (Q := fun r s' => r = w ∧ EP X pins σ Q r s') pl (by omega) (by omega) (by rw [List.size_toArray,← hl]; exact h1) (by simpa using ew) ⟨rfl,fin⟩) hs
theorem ix_str : IxR X rIxS := by
 intro value slice pins s σ H x y v u Q I rx ry h hs
 obtain ⟨z,i,c,rfl,rfl,hz,he,q⟩ := h
 obtain ⟨t,rfl⟩ := rx
 obtain ⟨t',rfl⟩ := ry
 obtain ⟨j,h1,h2,h3,h4,h5⟩ := atI_get he
 have hl : z.cps.toList.length = z.length := by simp [Str.length]
 rw [hl] at h1 h4 h5
 have hn := line63
 exact tail_any (typeIs_str s z t) slot_str_getitem.lookup (getItem_str (c := c) (by
  have e1 : decide (i < -(2 ^ 63 : Int)) = false := decide_eq_false (by omega)
  have e2 : decide (i ≥ 2 ^ 63) = false := decide_eq_false (by omega)
  rw [e1,e2,Bool.or_false]) (by rw [h1]; simpa using h2) ⟨.str ⟨#[c]⟩,H,I.tok _,⟨_,rfl⟩,q⟩) hs
def rIx (K : PySem.W.Frag) : R2 := fun x y H Q => rIxL K x y H Q ∨ rIxT K x y H Q ∨ rIxS x y H Q
theorem ix_seq : IxR X (rIx X.K) := ix_list.or (ix_tup.or ix_str)
theorem mapSeq_set (its : List Value) (n j : Nat) (u : Value) : Obj.mapSeq (·.setIfInBounds j u) { cls := .type "list",data := .seq its.toArray n } = { cls := .type "list",data := .seq (its.set j u).toArray n } := by
 simp [Obj.mapSeq]
theorem Inv.lst {pins : List (Addr × Obj)} {σ : St} {H : Hp} {s : Shared} {p : Addr} {xs : List V} (I : Inv X pins σ H s) (h : H p = some (.lst xs)) :
  ∃ (its : List Value) (n : Nat),Vals xs its ∧ s.heap.get? p = some { cls := .type "list",data := .seq its.toArray n } ∧ xs.length ≤ sizeLine := by
 obtain ⟨z,its,n,r,e⟩ := I.hok p _ h
 exact ⟨its,n,r,e,z⟩
theorem Inv.lstUpd {pins : List (Addr × Obj)} {σ : St} {H : Hp} {s : Shared} {p : Addr} {xs ys : List V} {its its' : List Value} {n n' : Nat} {f : Obj → Obj} (I : Inv X pins σ H s) (h : H p = some (.lst xs))
  (ho : s.heap.get? p = some { cls := .type "list",data := .seq its.toArray n }) (hf : f { cls := .type "list",data := .seq its.toArray n } = { cls := .type "list",data := .seq its'.toArray n' }) (r : Vals ys its') (hz : ys.length ≤ sizeLine) (t : Nat) :
  Inv X pins σ (upd H p (.lst ys)) { s with heap := s.heap.update p f,toks := t } := by
 have e : (s.heap.update p f).get? p = some { cls := .type "list",data := .seq its'.toArray n' } := by
  rw [Heap.get?_update_self f ho (by rw [hf] <;> rfl),hf]
 refine I.write (x := p) (e := p) (by rw [h]; trivial) (.inl rfl) (fun b u hb q => (Heap.get?_update_other _ _ (Ne.symm hb)).trans q) ⟨_,e⟩ ?_
 exact ⟨hz,its',n',r,e⟩
def rSetL : V → V → V → Hp → (Hp → Prop) → Prop := fun o i v H Q => ∃ p xs k j,o = .ref p ∧ i = .int k ∧ H p = some (.lst xs) ∧ ixN xs.length k = some j ∧ Q (upd H p (.lst (xs.set j v)))
theorem set_list : PSet X rSetL := by
 intro pins s σ H o i v ov iv u Q I ro ri rv h
 obtain ⟨p,xs,k,j,rfl,rfl,hp,hj,q⟩ := h
 cases ro
 obtain ⟨t,rfl⟩ := ri
 obtain ⟨its,n,r,ho,hz⟩ := I.lst hp
 obtain ⟨h1,h2,h3,h4⟩ := ixN_seq hj
 have hl := r.length
 have hn := line63
 have I' : Inv X pins σ (upd H p (.lst (xs.set j v))) { s with heap := s.heap.update p (Obj.mapSeq (·.setIfInBounds j u)) } :=
  I.lstUpd hp ho (mapSeq_set its n j u) (r.set rv j) (by rw [List.length_set]; exact hz) s.toks
 by_cases h0 : 0 ≤ k
 ·have hk : k.toNat = j := by
   rw [seqIndex_of h0 h4] at h1
   exact Option.some.inj h1
  exact PySem.W.ki_setAt ho h0 (by omega) (by rw [List.size_toArray,← hl]; exact h4) (by rw [hk]; exact ⟨_,I',q⟩)
 ·have hk : (k + (its.toArray.size : Int)).toNat = j := by
   rw [seqIndex_neg (by omega) h3] at h1
   rw [List.size_toArray,← hl]
   exact Option.some.inj h1
  exact PySem.W.ki_setBack ho (by omega) (by rw [List.size_toArray,← hl]; exact h3) (by omega) (by rw [hk]; exact ⟨_,I',q⟩)
theorem slice_bounds (lo hi : Option Int) (n : Nat) : (sliceBounds lo hi none n).1 = ((HT.sIx n 0 lo : Nat) : Int) ∧ (sliceBounds lo hi none n).2.1 = ((HT.sIx n n hi : Nat) : Int) ∧ (sliceBounds lo hi none n).2.2 = 1 := by
 refine ⟨?_,?_,rfl⟩
 ·cases lo with
  | none => simp [sliceBounds,HT.sIx]
  | some i =>
   simp only [sliceBounds,HT.sIx,Option.getD_none,show (1 : Int) > 0 by decide,if_true]
   by_cases h : i < 0
   ·simp only [h,if_true] <;> omega
   ·simp only [h,if_false] <;> omega
 ·cases hi with
  | none => simp [sliceBounds,HT.sIx]
  | some i =>
   simp only [sliceBounds,HT.sIx,Option.getD_none,show (1 : Int) > 0 by decide,if_true]
   by_cases h : i < 0
   ·simp only [h,if_true] <;> omega
   ·simp only [h,if_false] <;> omega
theorem slicePick_cut (its : List Value) (lo hi : Option Int) : slicePick its.toArray lo hi none = ((its.drop (HT.sIx its.length 0 lo)).take (HT.sIx its.length its.length hi - HT.sIx its.length 0 lo)).toArray := by
 obtain ⟨h1,h2,h3⟩ := slice_bounds lo hi its.toArray.size
 unfold slicePick
 rw [h1,h2,h3]
 simp only [sliceRange_one,pick_run,List.size_toArray] <;> rfl
def rSlL (K : PySem.W.Frag) : V → Option Int → Option Int → Hp → VK → Prop := fun x lo hi H Q => ∃ a xs,x = .ref a ∧ SqL K H a xs ∧ ∀ p,H p = none → Q (.ref p) (upd H p (.lst (cutV xs lo hi)))
theorem sl_list : SlR X (rSlL X.K) := by
 intro pins s σ H x v vl vu lo hi sl Q I rx hs pl pu h
 obtain ⟨a,xs,rfl,hx,q⟩ := h
 cases rx
 obtain ⟨its,r,ht,hz⟩ := I.list hx
 have hlen := r.length
 refine ⟨"list",_,slot_list_getitem.lookup,ht.isList.typeIs,?_⟩
 refine wpAny_getItem_list_slice ht.isList hs pl pu .none (by simp) ?_ (by rw [List.size_toArray] <;> omega)
 rw [slicePick_cut,← hlen]
 refine ⟨.ref s.heap.objs.size,_,I.laid (t' := s.toks) (o := .lst (cutV xs lo hi)) (fun b ob q => Heap.get?_push_of_some _ q) (Nat.le_refl _) ?_,rfl,q _ (I.hok.fresh (Nat.le_refl _))⟩
 exact ⟨Nat.le_trans (cutV_length xs lo hi) hz,_,0,(r.drop (HT.sIx xs.length 0 lo)).take (HT.sIx xs.length xs.length hi - HT.sIx xs.length 0 lo),Heap.get?_push_size _ rfl⟩
def flatV : V → Bool
 | .non => true
 | .bl _ => true
 | .int _ => true
 | .str _ => true
 | _ => false
def eqV : V → V → Bool
 | .non,.non => true
 | .bl a,.bl b => a == b
 | .bl a,.int b => (if a then 1 else 0) == b
 | .int a,.bl b => a == (if b then 1 else 0)
 | .int a,.int b => a == b
 | .str a,.str b => a == b
 | _,_ => false
theorem eqAt_V {A : Around} {s : Shared} {y x : V} {u v : Value} (ry : RelV y u) (rx : RelV x v) (fy : flatV y = true) (fx : flatV x = true) : SeqAt.EqAt A s u v (eqV y x) := by
 cases y with
 | non =>
  cases ry
  cases x with
  | non => cases rx; exact SeqAt.EqAt.same _
  | bl b => cases rx; exact SeqAt.EqAt.none_bool b
  | int b => obtain ⟨t,rfl⟩ := rx; exact SeqAt.EqAt.none_int b t
  | str b => obtain ⟨t,rfl⟩ := rx; exact SeqAt.EqAt.none_str b t
  | _ => exact absurd (show false = true from fx) Bool.false_ne_true
 | bl a =>
  cases ry
  cases x with
  | non => cases rx; exact SeqAt.EqAt.bool_none a
  | bl b => cases rx; exact SeqAt.EqAt.bool_bool a b
  | int b => obtain ⟨t,rfl⟩ := rx; exact SeqAt.EqAt.bool_int a b t
  | str b => obtain ⟨t,rfl⟩ := rx; exact SeqAt.EqAt.bool_str a b t
  | _ => exact absurd (show false = true from fx) Bool.false_ne_true
 | int a =>
  obtain ⟨t',rfl⟩ := ry
  cases x with
  | non => cases rx; exact SeqAt.EqAt.int_none a t'
  | bl b => cases rx; exact SeqAt.EqAt.int_bool a t' b
  | int b => obtain ⟨t,rfl⟩ := rx; exact SeqAt.EqAt.int_int a t' b t
  | str b => obtain ⟨t,rfl⟩ := rx; exact SeqAt.EqAt.int_str a t' b t
  | _ => exact absurd (show false = true from fx) Bool.false_ne_true
 | str a =>
  obtain ⟨t',rfl⟩ := ry
  cases x with
  | non => cases rx; exact SeqAt.EqAt.str_none a t'
  | bl b => cases rx; exact SeqAt.EqAt.str_bool a t' b
  | int b => obtain ⟨t,rfl⟩ := rx; exact SeqAt.EqAt.str_int a t' b t
  | str b => obtain ⟨t,rfl⟩ := rx; exact SeqAt.EqAt.str_str a t' b t
  | _ => exact absurd (show false = true from fx) Bool.false_ne_true
 | _ => exact absurd (show false = true from fy) Bool.false_ne_true
def eqU (x : V) (u : Value) : Bool := match u with
 | .none => eqV .non x
 | .bool b => eqV (.bl b) x
 | .int i _ => eqV (.int i) x
 | .str z _ => eqV (.str z) x
 | _ => false
theorem eqU_of {x y : V} {u : Value} (r : RelV y u) (f : flatV y = true) : eqU x u = eqV y x := by
 cases y with
 | non => cases r; rfl
 | bl b => cases r; rfl
 | int i => obtain ⟨t,rfl⟩ := r; rfl
 | str z => obtain ⟨t,rfl⟩ := r; rfl
 | _ => exact absurd (show false = true from f) Bool.false_ne_true
theorem any_eqU {x : V} : ∀ {xs : List V} {us : List Value},Vals xs us → xs.all flatV = true → us.any (eqU x) = xs.any fun y => eqV y x
 | _,_,.nil,_ => rfl
 | y :: xs,u :: us,.cons r t,f => by
  rw [List.all_cons,Bool.and_eq_true] at f
  rw [List.any_cons,List.any_cons,eqU_of r f.1,any_eqU t f.2]
theorem mem_eqAt {A : Around} {s : Shared} {x : V} {v : Value} (rx : RelV x v) (fx : flatV x = true) : ∀ {xs : List V} {us : List Value},Vals xs us → xs.all flatV = true → ∀ u ∈ us,SeqAt.EqAt A s u v (eqU x u)
 | _,_,.nil,_ => fun u hu => by cases hu
 | y :: xs,u :: us,.cons r t,f => fun u' hu => by
  rw [List.all_cons,Bool.and_eq_true] at f
  rcases List.mem_cons.mp hu with rfl | hu
  ·rw [eqU_of r f.1]; exact eqAt_V r rx f.1 fx
  ·exact mem_eqAt rx fx t f.2 u' hu
def inV (x : V) (xs : List V) : Bool := xs.any fun y => eqV y x
def rIn (K : PySem.W.Frag) (neg : Bool) : R2 := fun x y H Q => ∃ p xs,y = .ref p ∧ (SqL K H p xs ∨ SqT K H p xs) ∧ flatV x = true ∧ xs.all flatV = true ∧ Q (.bl (if neg then !inV x xs else inV x xs)) H
theorem op_in_seq : OpR X (compareOp .In) (rIn X.K false) := by
 intro pins s σ H x y v u Q I rx ry h
 obtain ⟨p,xs,rfl,hq,fx,fs,q⟩ := h
 cases ry
 rcases hq with hq | hq
 ·obtain ⟨its,r,pl,hz⟩ := I.list hq
  refine SeqAt.in_listAt (eqU x) pl.isList (fun w hw => mem_eqAt rx fx r fs w (by simpa using hw)) ⟨.bl _,H,I,rfl,?_⟩
  rw [show its.toArray.any (eqU x) = its.any (eqU x) by simp,any_eqU r fs]
  exact q
 ·obtain ⟨its,r,pl,hz⟩ := I.tuple hq
  refine SeqAt.in_tupleAt (eqU x) pl (fun w hw => mem_eqAt rx fx r fs w (by simpa using hw)) ⟨.bl _,H,I,rfl,?_⟩
  rw [show its.toArray.any (eqU x) = its.any (eqU x) by simp,any_eqU r fs]
  exact q
theorem op_notIn_seq : OpR X (compareOp .NotIn) (rIn X.K true) := by
 intro pins s σ H x y v u Q I rx ry h
 obtain ⟨p,xs,rfl,hq,fx,fs,q⟩ := h
 cases ry
 rcases hq with hq | hq
 ·obtain ⟨its,r,pl,hz⟩ := I.list hq
  refine SeqAt.notIn_listAt (eqU x) pl.isList (fun w hw => mem_eqAt rx fx r fs w (by simpa using hw)) ⟨.bl _,H,I,rfl,?_⟩
  rw [show its.toArray.any (eqU x) = its.any (eqU x) by simp,any_eqU r fs]
  exact q
 ·obtain ⟨its,r,pl,hz⟩ := I.tuple hq
  refine SeqAt.notIn_tupleAt (eqU x) pl (fun w hw => mem_eqAt rx fx r fs w (by simpa using hw)) ⟨.bl _,H,I,rfl,?_⟩
  rw [show its.toArray.any (eqU x) = its.any (eqU x) by simp,any_eqU r fs]
  exact q
theorem call_len_seq : CallR X (.builtin "len") (fun xs H Q => ∃ p ys,xs = [.ref p] ∧ (SqL X.K H p ys ∨ SqT X.K H p ys) ∧ Q (.int ys.length) H) := by
 intro pins s σ H xs us Q I r h
 obtain ⟨p,ys,rfl,hq,q⟩ := h
 obtain ⟨u,rfl,rx⟩ := vals1 r
 cases rx
 have hn := line63
 rcases hq with hq | hq
 ·obtain ⟨its,r',pl,hz⟩ := I.list hq
  have hlen := r'.length
  exact Calls.call_len_list pl.isList (by simp only [List.size_toArray] <;> omega) ⟨.int ys.length,H,I.tok _,⟨s.toks + 1,by rw [List.size_toArray,hlen]⟩,q⟩
 ·obtain ⟨its,r',pl,hz⟩ := I.tuple hq
  have hlen := r'.length
  exact len_tuple pl (by simp only [List.size_toArray] <;> omega) ⟨.int ys.length,H,I.tok _,⟨s.toks + 1,by rw [List.size_toArray,hlen]⟩,q⟩
theorem call_len_str : CallR X (.builtin "len") (fun xs H Q => ∃ z,xs = [.str z] ∧ z.length ≤ sizeLine ∧ Q (.int z.length) H) := by
 intro pins s σ H xs us Q I r h
 obtain ⟨z,rfl,hz,q⟩ := h
 obtain ⟨u,rfl,t,rfl⟩ := vals1 r
 have hn := line63
 exact len_str (by omega) ⟨.int z.length,H,I.tok _,⟨_,rfl⟩,q⟩
theorem call_list_of : CallR X (.type "list") (fun xs H Q => ∃ p ys,xs = [.ref p] ∧ (SqL X.K H p ys ∨ SqT X.K H p ys) ∧ ∀ l,H l = none → Q (.ref l) (upd H l (.lst ys))) := by
 intro pins s σ H xs us Q I r h
 obtain ⟨p,ys,rfl,hq,q⟩ := h
 obtain ⟨u,rfl,rx⟩ := vals1 r
 cases rx
 have fin : ∀ (its : List Value),Vals ys its → ys.length ≤ sizeLine → ∀ (h' : Heap) (c' : Nat),(∀ b o',s.heap.get? b = some o' → h'.get? b = some o') →
   h'.get? s.heap.objs.size = some { cls := .type "list",dict := none,data := .seq its.toArray c',slots := #[] } → EP X pins σ Q (.ref s.heap.objs.size) { s with heap := h' } := fun its r' hz h' c' kp e =>
  ⟨.ref s.heap.objs.size,_,I.laid (t' := s.toks) kp (Nat.le_refl _) (show ObjOk X.prog X.w _ h' _ (.lst ys) from ⟨hz,its,c',r',e⟩),rfl,q _ (I.hok.fresh (Nat.le_refl _))⟩
 rcases hq with hq | hq
 ·obtain ⟨its,r',pl,hz⟩ := I.list hq
  have hlen := r'.length
  obtain ⟨o,ho,hc,n,hd⟩ := pl.isList
  exact call_list_seq p (.inl rfl) ho hc hd (fun h' c' kp e => fin its r' hz h' c' kp e) (by simp only [List.size_toArray] <;> omega)
 ·obtain ⟨its,r',pl,hz⟩ := I.tuple hq
  have hlen := r'.length
  obtain ⟨o,ho,hc,n,hd⟩ := pl
  exact call_list_seq p (.inr rfl) ho hc hd (fun h' c' kp e => fin its r' hz h' c' kp e) (by simp only [List.size_toArray] <;> omega)
theorem call_tuple_of : CallR X (.type "tuple") (fun xs H Q => ∃ p ys,xs = [.ref p] ∧ ((SqL X.K H p ys ∧ ∀ l,H l = none → Q (.ref l) (upd H l (.tup ys))) ∨ (SqT X.K H p ys ∧ Q (.ref p) H))) := by
 intro pins s σ H xs us Q I r h
 obtain ⟨p,ys,rfl,h⟩ := h
 obtain ⟨u,rfl,rx⟩ := vals1 r
 cases rx
 rcases h with ⟨hq,q⟩ | ⟨hq,q⟩
 ·obtain ⟨its,r',pl,hz⟩ := I.list hq
  have hlen := r'.length
  refine call_tuple_list pl.isList (fun h' kp => ?_) (by simp only [List.size_toArray] <;> omega)
  have I1 : Inv X pins σ H { s with heap := h' } := I.kept (t' := s.toks) kp
  have I2 : Inv X pins σ (upd H h'.objs.size (.tup ys)) { s with heap := h'.push { cls := .type "tuple",data := .seq its.toArray } } :=
   I1.laid (t' := s.toks) (fun b o e => Heap.get?_push_of_some _ e) (Nat.le_refl _) (show ObjOk X.prog X.w _ _ _ (.tup ys) from ⟨hz,its,r',IsTup.new _ _⟩)
  exact ⟨.ref h'.objs.size,_,I2,rfl,q _ (I1.hok.fresh (Nat.le_refl _))⟩
 ·obtain ⟨its,r',pl,hz⟩ := I.tuple hq
  exact call_tuple_same pl ⟨.ref p,H,I,rfl,q⟩
def tyV (K : PySem.W.Frag) (T : String) (x : V) (H : Hp) : Prop := match x with
 | .str _ => T = "str"
 | .int _ => T = "int"
 | .ref p => (T = "list" ∧ ∃ xs,SqL K H p xs) ∨ (T = "tuple" ∧ ∃ o,K.lookup p = some o ∧ o.cls = .type "tuple" ∧ o.dict = none) ∨
   (T = "dict" ∧ ((∃ kvs,H p = some (.dK kvs)) ∨ ∃ kvs,H p = some (.dT kvs))) ∨ (T = "set" ∧ ∃ S n,H p = some (.set S n))
 | _ => False
theorem tyV_is {pins : List (Addr × Obj)} {σ : St} {H : Hp} {s : Shared} {T : String} {x : V} {v : Value} (I : Inv X pins σ H s) (r : RelV x v) (ty : tyV X.K T x H) :
  s.TypeIs v T ∧ ∀ a,v = .ref a → ∃ ob,s.heap.get? a = some ob ∧ ob.dict = none := by
 cases x with
 | str z =>
  obtain ⟨t,rfl⟩ := r
  cases (show T = "str" from ty)
  exact ⟨typeIs_str s z t,fun _ e => nomatch e⟩
 | int i =>
  obtain ⟨t,rfl⟩ := r
  cases (show T = "int" from ty)
  exact ⟨typeIs_int s i t,fun _ e => nomatch e⟩
 | ref p =>
  cases r
  rcases ty with ⟨rfl,xs,hq⟩ | ⟨rfl,o,hk,hc,hd⟩ | ⟨rfl,hk⟩ | ⟨rfl,S,n,hk⟩
  ·obtain ⟨its,_,pl,_⟩ := I.list hq
   refine ⟨pl.isList.typeIs,fun a e => ?_⟩
   cases e
   obtain ⟨o,n,e,c,hd,_⟩ := pl
   exact ⟨o,e,hd⟩
  ·refine ⟨⟨o,I.kIn p o hk,hc⟩,fun a e => ?_⟩
   cases e
   exact ⟨o,I.kIn _ o hk,hd⟩
  ·have z : ∃ o,s.heap.get? p = some o ∧ o.ExactDict := by
    rcases hk with ⟨kvs,hk⟩ | ⟨kvs,hk⟩
    ·obtain ⟨_,_,_,_,o,_,_,e,ex,_⟩ := I.hok p _ hk
     exact ⟨o,e,ex⟩
    ·obtain ⟨_,_,_,_,o,_,_,e,ex,_⟩ := I.hok p _ hk
     exact ⟨o,e,ex⟩
   obtain ⟨o,e,ex⟩ := z
   refine ⟨⟨o,e,ex.1⟩,fun a e2 => ?_⟩
   cases e2
   exact ⟨o,e,ex.2.1⟩
  ·obtain ⟨o,_,_,_,e,ex,_⟩ := I.hok p _ hk
   refine ⟨⟨o,e,ex.1⟩,fun a e2 => ?_⟩
   cases e2
   exact ⟨o,e,ex.2.1⟩
 | _ => exact False.elim ty
def tBM (K : PySem.W.Frag) (T : String) (r : V → List V → Hp → VK → Prop) (to : TE) (t : TA) : TE := fun σ H Q => to σ H fun x H1 => tyV K T x H1 ∧ t σ H1 fun xs H2 => r x xs H2 Q
variable {o e : Expr} {es : List Expr} {to : TE} {t : TA} {name : Str} {apos cpos : Pos} {T id : String} {r : V → List V → Hp → VK → Prop}
theorem pe_bm (pa : PlainAttrs T) (slot : Slot T name id) (hty : typeOf (.builtin id) = pure (.type "method_descriptor")) (hm : MtR X id r) (ho : PE X o to) (ha : PA X (e :: es) t)
  (hbase : attributeBase o name X.env (eval o X.env) = eval o X.env := by rfl)
  (hfew : ((backTo cpos (starEach (e :: es) X.env)).all (fun x => !x.1) && (backToKw cpos (keywordEach [] X.env)).all (fun x => x.1.isSome)
   && decide ((e :: es).length + ([] : List Keyword).length + (if ([] : List Keyword).isEmpty then 0 else 1) < 30)) = true := by rfl)
  (hline : (apos.endLine == cpos.line) = true := by rfl) (hs : starEach (e :: es) X.env = (false,eval e X.env) :: starEach es X.env := by rfl) (hplain : (backTo cpos (starEach es X.env)).any (·.1) = false := by rfl) :
  PE X (.Call (.Attribute o name apos) (e :: es) [] cpos) (tBM X.K T r to t) := by
 intro pins s σ H Q I h
 refine wpAny_Call_method_late hbase hfew hline rfl (thn (ho pins s σ H _ I h) fun v s1 ⟨x,H1,I1,r1,ty,q1⟩ => ?_)
 obtain ⟨h1,h2⟩ := tyV_is I1 r1 ty
 refine ⟨T,id,pa,slot,hty,h1,h2,?_⟩
 have hA := ha cpos pins s1 σ H1 _ I1 q1
 rw [hs] at hA ⊢
 refine Calls.callWith_builtin (by show (false || (backTo cpos (starEach es X.env)).any (·.1)) = false; rw [hplain] <;> rfl) (Calls.evalArgs_plain ?_)
 exact thn hA fun us s2 ⟨vs,H2,I2,r2,q2⟩ => hm pins s2 σ H2 x vs v us Q I2 r1 r2 q2
end
end L2
namespace L2
open PySem PySem.Spec PyProof.Rows
def MtM (X : Cx) (id : String) (r : V → List V → Hp → VK → Prop) : Prop :=
 ∀ (pins : List (Addr × Obj)) (s : Shared) (σ : St) (H : Hp) (x : V) (xs : List V) (v : Value) (us : List Value) (Q : VK),Inv X pins σ H s → RelV x v → Vals xs us → r x xs H Q →
  wpAny (model X.prog X.w) X.A (call (.builtin id) (v :: us)) (EP X pins σ Q) X.xe s
theorem Vals.one : ∀ {x : V} {us : List Value},Vals [x] us → ∃ u,us = [u] ∧ RelV x u
 | _,_,.cons r .nil => ⟨_,rfl,r⟩
section
variable {X : Cx} {pins : List (Addr × Obj)} {σ : St} {H : Hp} {s : Shared} {l b : Addr} {xs ys zs : List V}
theorem Inv.lset {its its' : List Value} {n : Nat} {f : Array Value → Array Value} {t' : Nat} (I : Inv X pins σ H s) (hH : H l = some (.lst xs))
  (e : s.heap.get? l = some { cls := .type "list",data := .seq its.toArray n }) (hf : f its.toArray = its'.toArray) (hv : Vals ys its') (hz : ys.length ≤ sizeLine) :
  Inv X pins σ (upd H l (.lst ys)) { s with heap := s.heap.update l (Obj.mapSeq f),toks := t' } := by
 have q := PySem.IsL.update e f
 rw [hf] at q
 refine I.write (x := l) (e := l) (by rw [hH]; exact trivial) (.inl rfl) (fun b' u hb hu => (Heap.get?_update_other s.heap (Obj.mapSeq f) (Ne.symm hb)).trans hu) ⟨_,q⟩ ?_
 exact ⟨hz,its',_,hv,q⟩
theorem Inv.lnew {its : List Value} {t' : Nat} (I : Inv X pins σ H s) (hv : Vals ys its) (hz : ys.length ≤ sizeLine) :
  Inv X pins σ (upd H s.heap.objs.size (.lst ys)) { s with heap := s.heap.push { cls := .type "list",data := .seq its.toArray },toks := t' } :=
 I.laid (fun _ _ q => Heap.get?_push_of_some _ q) (Nat.le_refl _) ⟨hz,its,0,hv,Heap.get?_push_size _ rfl⟩
theorem Inv.fresh (I : Inv X pins σ H s) : H s.heap.objs.size = none := I.hok.fresh (Nat.le_refl _)
theorem Inv.lstM (I : Inv X pins σ H s) (hH : H l = some (.lst xs)) : xs.length ≤ sizeLine ∧ ∃ (its : List Value) (n : Nat),Vals xs its ∧ xs.length = its.length ∧ s.heap.get? l = some { cls := .type "list",data := .seq its.toArray n } := by
 obtain ⟨z,its,n,r,e⟩ := I.hok l _ hH
 exact ⟨z,its,n,r,r.length,e⟩
theorem notLongL {n : Nat} (h : n ≤ sizeLine) : Builtin.List.listTooLong n = false := by
 unfold Builtin.List.listTooLong
 exact decide_eq_false (by omega)
end
section
variable {X : Cx}
def rAppend : V → List V → Hp → VK → Prop := fun x vs H Q => ∃ l xs y,x = .ref l ∧ vs = [y] ∧ H l = some (.lst xs) ∧ xs.length < sizeLine ∧ Q .non (upd H l (.lst (xs ++ [y])))
theorem mt_append : MtM X "list.append" rAppend := by
 intro pins s σ H x vs v us Q I rx rv h
 obtain ⟨l,xs,y,rfl,rfl,hH,hz,q⟩ := h
 cases rx
 obtain ⟨u,rfl,ru⟩ := rv.one
 obtain ⟨z,its,n,r,hl,e⟩ := I.lstM hH
 refine call_meets F.slot_list_append ⟨_,e,rfl⟩ F.entry_list_append (F.args_list_append_2 _ _) (PySem.list_append l its.toArray n u (by rw [List.size_toArray]; omega)) ⟨e,?_⟩
 refine ⟨.non,_,I.lset (its' := its ++ [u]) hH e (by simp) (r.append (.cons ru .nil)) ?_,rfl,q⟩
 rw [List.length_append,List.length_singleton]
 omega
def rExtend : V → List V → Hp → VK → Prop := fun x vs H Q => ∃ l b xs zs,x = .ref l ∧ vs = [.ref b] ∧ H l = some (.lst xs) ∧ H b = some (.lst zs) ∧ xs.length + zs.length ≤ sizeLine ∧ Q .non (upd H l (.lst (xs ++ zs)))
theorem mt_extend : MtM X "list.extend" rExtend := by
 intro pins s σ H x vs v us Q I rx rv h
 obtain ⟨l,b,xs,zs,rfl,rfl,hH,hB,hz,q⟩ := h
 cases rx
 obtain ⟨u,rfl,ru⟩ := rv.one
 cases ru
 obtain ⟨z,its,n,r,hl,e⟩ := I.lstM hH
 obtain ⟨z2,its2,n2,r2,hl2,e2⟩ := I.lstM hB
 have hsz : its.toArray.size + its2.toArray.size ≤ sizeLine := by rw [List.size_toArray,List.size_toArray]; omega
 have hlong : ¬ (!its.toArray.isEmpty && Builtin.List.listTooLong (its.toArray.size + its2.toArray.size)) = true := by
  rw [notLongL hsz,Bool.and_false]
  exact Bool.false_ne_true
 refine call_meets F.slot_list_extend ⟨_,e,rfl⟩ F.entry_list_extend (F.args_list_extend_2 _ _)
  (AutoSeq1.list_extend_list_list_0 l its.toArray n b its2.toArray n2 hlong (by rw [List.size_toArray]; omega) (by omega)) ⟨e,e2,?_⟩
 refine ⟨.non,_,I.lset (its' := its ++ its2) hH e (by simp) (r.append r2) ?_,rfl,q⟩
 rw [List.length_append]
 omega
def rCat : R2 := fun x y H Q => ∃ l b xs zs,x = .ref l ∧ y = .ref b ∧ H l = some (.lst xs) ∧ H b = some (.lst zs) ∧ xs.length + zs.length ≤ sizeLine ∧ ∀ p,H p = none → Q (.ref p) (upd H p (.lst (xs ++ zs)))
theorem op_cat : OpR X (binaryOp .Add) rCat := by
 intro pins s σ H x y v u Q I rx ry h
 obtain ⟨l,b,xs,zs,rfl,rfl,hH,hB,hz,q⟩ := h
 cases rx
 cases ry
 obtain ⟨z,its,n,r,hl,e⟩ := I.lstM hH
 obtain ⟨z2,its2,n2,r2,hl2,e2⟩ := I.lstM hB
 refine PySem.P.add_list e e2 ?_ (by rw [List.size_toArray,List.size_toArray]; omega)
 have ea : its.toArray ++ its2.toArray = (its ++ its2).toArray := by simp
 rw [ea]
 exact ⟨.ref _,_,I.lnew (t' := s.toks) (r.append r2) (by rw [List.length_append]; omega),rfl,q _ I.fresh⟩
end
section
variable {prog : Program} {w : World} {A : Around} {E : Value → Shared → Prop} {s : Shared}
set_option maxRecDepth 100000 in
end
section
variable {X : Cx}
end
end L2
namespace Att
open PySem PySem.W PySem.Calls PyProof.Rows
theorem ints_of_wellAll {P : Params} {h : Heap} : ∀ (ns : List Int) (vs : List Value),WellAll P h vs (ns.map WData.int) → IntsAre vs ns := by
 intro ns
 induction ns with
 | nil =>
  intro vs w
  rw [List.map_nil] at w
  cases w
  exact .nil
 | cons n ns ih =>
  intro vs w
  rw [List.map_cons] at w
  cases w with
  | cons a b =>
   cases a
   exact .cons _ _ (ih _ b)
theorem script_of {l : OpenLaw} {n : Nat} (hn : l.most = some n) {P : Params} {h : Heap} {args : List WData} {vals : List Value}
  (hpre : l.row.toRowW.claim.pre args = true) (hwl : WellAll P h vals args) :
  ∃ a vs ns,vals = [Value.ref a] ∧ args = [WData.list (ns.map WData.int)] ∧ h.get? a = some { cls := .type "list",data := .seq vs.toArray } ∧ IntsAre vs ns ∧ ns.length ≤ n := by
 have hsh : WShape.hasAll [] args [.list .int] = true := (pre_splitW hpre).1
 have hc : l.pre.holds [] { args := args } = true := (pre_splitW hpre).2
 obtain ⟨d,r,rfl,h1,h2⟩ := hasAllW_cons hsh
 obtain rfl := hasAllW_nil h2
 obtain ⟨xs,rfl,h3⟩ := hasW_list h1
 obtain ⟨ns,rfl⟩ := items_int h3
 have hlen : ns.length ≤ n := by
  unfold OpenLaw.pre at hc
  have h4 : (WTm.not (.lt (.lit (.int (n : Int))) (.len (.arg 0)))).holds [] { args := [.list (ns.map .int)] } = true := by
   have h4 := (holds_andW hc).1
   rw [hn] at h4
   exact h4
  have h5 := condW_of h4 (w_not (w_lt w_lit (w_len_list (w_arg rfl))))
  rw [List.length_map] at h5
  refine Nat.le_of_not_lt fun q => ?_
  have q' : (n : Int) < ((ns.length : Nat) : Int) := by omega
  first
   | (rw [decide_eq_true q'] at h5; exact absurd h5 (by decide))
   | (simp at h5; omega)
 cases hwl with
 | cons w1 w2 =>
  cases w2
  cases w1 with
  | list ho hall => exact ⟨_,_,ns,rfl,rfl,ho,ints_of_wellAll ns _ hall,hlen⟩
theorem post_true (l : OpenLaw) (args : List WData) : l.row.toRowW.claim.post args (.bool true) args = true :=
 postW_of (r := l.row.toRowW) (X := (true == true))
  (show WShape.has [] (.bool true) .bool = true by first | rfl | decide | simp [WShape.has,WShape.arms,WShape.armsAll])
  (show (WTm.eq .res (.lit (.bool true))).value [] { args := args,res := some (.bool true),after := args } = some (.bool (true == true)) from w_eq_bool (w_res rfl) w_lit) rfl
theorem attach_call {l : OpenLaw} {n : Nat} {q : Program} {loose : List Str} {XP : (Str → Option Value) → Heap → Prop} {YP : World → Heap → Prop} {d : DefRec}
  (hn : l.most = some n) (hdf : d.params.defaults = [])
  (call : ∀ (w : World) (s₀ s₁ : Shared) (mg mb : Str → Option Value) (fa : Addr) (o : Obj) (pm cd doc : Value) (a : Addr) (vs : List Value) (ns : List Int),
   Ground q loose [] XP w s₀ mg mb s₁.heap → YP w s₁.heap →
   s₁.heap.get? fa = some o → o.data = .func (docDef d.name d.params d.body d.scope pm cd doc) → s₁.heap.CodeRec cd d.name → mg d.name = some (.ref fa) →
   s₁.heap.get? a = some { cls := .type "list",data := .seq vs.toArray } → IntsAre vs ns → ns.length ≤ n → s₁.gens = #[] →
   codeAny (model l.prog w) callerA (.call (.ref fa) ⟨[.ref a],[]⟩) (fun r s' => r = .ok (.ret (.bool true)) ∧ OldK s₁.heap s'.heap ∧ s'.os = s₁.os ∧ AllBare s'.gens) s₁) :
  WalkO q loose XP YP l.row.toRowW d [] (fun f vs => PySem.call f vs) := by
 intro w s₀ s₁ mg mb G Y fa o pm cd doc dV kV ho hd hcd hD hmg hg args vals as hpre hlay hrd hwl hlo
 obtain rfl : dV = .none := Dflts.none hD hdf
 obtain rfl : kV = .none := Dflts.noKw hD
 obtain ⟨a,vs,ns,rfl,rfl,hobj,hints,hlen⟩ := script_of hn hpre hwl
 refine enter_call (codeAny_mono (call w s₀ s₁ mg mb fa o pm cd doc a vs ns G Y ho (fd_plain hd) hcd hmg hobj hints hlen hg) fun r s' hq => ?_)
 obtain ⟨rfl,h2,h3,h4⟩ := hq
 exact ⟨.inl ⟨.bool true,.bool true,[],rfl,fun _ => rfl,.bool true,post_true l _,fun _ => ⟨List.Pairwise.nil,fun _ hm => (nomatch hm)⟩⟩,h2,h3,h4⟩
section
variable {prog : Program} {w : World} {A : Around} {E : Value → Shared → Prop} {s : Shared} {K : Frag}
end
end Att
namespace L2
open PySem PySem.Spec PyProof.Rows
theorem vals_ints : ∀ {vs : List Value} {ns : List Int},IntsAre vs ns → Vals (ns.map V.int) vs
 | _,_,.nil => .nil
 | _,_,.cons n t h => .cons ⟨t,rfl⟩ (vals_ints h)
def Only (H : Hp) : Prop := ∀ b,H b = none ∨ ∃ o xs,H b = some (.frz o (.lst xs))
theorem law_call {P : Program} {w : World} {K : PySem.W.Frag} {mg mb : Str → Option Value} {CX : CXT} {k : Nat} {fa a : Addr} {fd : FuncData} {x : Str} {sp : Sp} {s₁ : Shared} {vs : List Value} {ns : List Int}
  (KX : K.In s₁.heap) (hns : s₁.heap.Ns mainGlobals mg) (hb : s₁.heap.Ns builtinsNs mb) (hbb : ∀ x : Str,x ≠ "__name__" → mb x = bootBuiltins x) (hlim : s₁.heap.NoLimit) (hg : s₁.gens = #[])
  (ha : s₁.heap.get? a = some { cls := .type "list",data := .seq vs.toArray }) (hi : IntsAre vs ns) (hl : ns.length ≤ sizeLine) (hr : Room k callerA)
  (F : ∀ base : Heap,K.In base → base.Ns mainGlobals mg → FnOk P w K mg base CX k fa fd [x] sp) (hbind : ∀ (s : Shared) (u : Value),BindsTo s fd ⟨[u],[]⟩ [(x,u)])
  (hsp : ∀ H : Hp,Only H → SqL K H a (ns.map V.int) → sp [.ref a] H (fun v _ => v = .bl true) fun _ _ _ => False)
  (hCX : ∀ H e s',CX [] H s₁ (fun _ _ _ => False) e s' → False) :
  codeAny (model P w) callerA (.call (.ref fa) ⟨[.ref a],[]⟩) (fun r s' => r = .ok (.ret (.bool true)) ∧ OldK s₁.heap s'.heap ∧ s'.os = s₁.os ∧ AllBare s'.gens) s₁ := by
 have rv := vals_ints hi
 have lenV := hi.length
 have core : ∀ H : Hp,Only H → SqL K H a (ns.map V.int) → HOk P w H s₁.heap → (∀ b,H b ≠ none → b = a) → (H a ≠ none → K.lookup a = none) →
   codeAny (model P w) callerA (.call (.ref fa) ⟨[.ref a],[]⟩) (fun r s' => r = .ok (.ret (.bool true)) ∧ OldK s₁.heap s'.heap ∧ s'.os = s₁.os ∧ AllBare s'.gens) s₁ := by
  intro H hO hS hok hA hK
  have base_of : ∀ {b : Addr} {o : Obj},s₁.heap.get? b = some o → H b = none → (hidT s₁.heap H).get? b = some o := fun e n => hidT_get e n
  have noA : ∀ {b : Addr} {o : Obj} {es : Array DictEntry} {ep : Nat},s₁.heap.get? b = some o → o.data = .dict es ep → H b = none := fun {b o es ep} e d => by
   cases q : H b with
   | none => rfl
   | some u =>
    have e' : b = a := hA b (by rw [q]; simp)
    subst e'
    rw [ha] at e; cases e
    have d' : Data.seq vs.toArray _ = Data.dict es ep := d
    cases d'
  have nsK : ∀ {b : Addr} {m : Str → Option Value},s₁.heap.Ns b m → (hidT s₁.heap H).Ns b m := fun {b m} ⟨o,es,ep,e,d,r⟩ => ⟨o,es,ep,base_of e (noA e d),d,r⟩
  have hKb : K.In (hidT s₁.heap H) := fun b o e => base_of (KX b o e) (by
   cases q : H b with
   | none => rfl
   | some u =>
    have e' : b = a := hA b (by rw [q]; simp)
    subst e'
    rw [hK (by rw [q]; simp)] at e; cases e)
  have hM : Mod K mg (hidT s₁.heap H) := ⟨hKb,nsK hns,⟨mb,nsK hb,hbb⟩,let ⟨mc,h1,h2⟩ := hlim; ⟨mc,nsK h1,h2⟩⟩
  have e0 : Env0 P w K mg (hidT s₁.heap H) callerA [] s₁ H := ⟨rfl,hM,fun b o e => of_hidT e,Nat.le_of_eq (hidT_size _ _),trivial,fun b hb => absurd (show b ∈ ([] : List Addr) from hb) (by simp),hok,.of_eq hg⟩
  refine codeAny_mono ((F _ hKb (nsK hns)).run callerA [] s₁ H ⟨[.ref a],[]⟩ [.ref a] [.ref a] _ _ hr e0 (hbind s₁ (.ref a)) (.cons rfl .nil) (hsp H hO hS)) fun r s' h => ?_
  cases r with
  | error e => exact (hCX H e s' h).elim
  | ok fl =>
   cases fl with
   | next => exact False.elim h
   | brk => exact False.elim h
   | cont => exact False.elim h
   | ret u =>
    obtain ⟨v,H',os,bare,un,hok',r',q⟩ := h
    have q' : v = .bl true := q
    subst q'
    obtain rfl : u = Value.bool true := r'
    refine ⟨rfl,OldK.of_keep fun b o e => ?_,os,bare⟩
    cases q : H b with
    | none => exact un.keep b o e q (by intro z; exact absurd (show b ∈ ([] : List Addr) from z) (by simp)) (by simp)
    | some u =>
     rcases hO b with z | ⟨ob,xs,z⟩
     ·rw [q] at z; cases z
     ·have z2 := un.frzs b ob _ z
      obtain ⟨e1,_⟩ := hok b _ z
      obtain ⟨e2,_⟩ := hok' b _ z2
      rw [e] at e1; cases e1
      exact e2
 cases hk : K.lookup a with
 | some o =>
  have e := KX a o hk
  rw [ha] at e
  cases e
  refine core (fun _ => none) (fun _ => .inl rfl) (.inr ⟨_,vs.toArray,_,hk,rfl,rfl,rfl,by rw [List.size_toArray,lenV]; exact hl,by simpa using rv⟩) (fun b u z => by have z' : (none : Option HO) = some u := z; cases z') (fun b z => absurd rfl z) fun z => absurd rfl z
 | none =>
  refine core (fun b => if b = a then some (.frz { cls := .type "list",data := .seq vs.toArray } (.lst (ns.map V.int))) else none) (fun b => ?_) (.inl (.inr ⟨{ cls := .type "list",data := .seq vs.toArray },if_pos rfl⟩)) (fun b u z => ?_) (fun b z => ?_) fun _ => hk
  ·by_cases hb : b = a
   ·exact .inr ⟨_,_,if_pos hb⟩
   ·exact .inl (if_neg hb)
  ·by_cases hb : b = a
   ·have z' := (if_pos hb).symm.trans z
    cases z'
    subst hb
    exact ⟨ha,by rw [List.length_map]; exact hl,vs,_,rv,ha⟩
   ·have z' := (if_neg hb).symm.trans z
    cases z'
  ·by_cases hb : b = a
   ·exact hb
   ·exact absurd (if_neg hb) z
end L2
namespace L2
open PySem PySem.Spec PyProof.Rows
end L2
namespace L2
open PySem PySem.Spec PyProof.Rows
def inClass (s : Stmt) (j : Nat) : Stmt := match s with
 | .ClassDef _ _ _ body _ _ _ _ _ _ _ => body.getD j (.Pass ⟨0,0,0,0⟩)
 | _ => .Pass ⟨0,0,0,0⟩
def defArgs (s : Stmt) : Arguments := match s with
 | .FunctionDef _ a _ _ _ _ _ _ _ _ => a
 | _ => { posonlyargs := [],args := [],vararg := none,kwonlyargs := [],kw_defaults := [],kwarg := none,defaults := [] }
def defBody (s : Stmt) : List Stmt := match s with
 | .FunctionDef _ _ b _ _ _ _ _ _ _ => b
 | _ => []
def defScope (s : Stmt) : Scope := match s with
 | .FunctionDef _ _ _ _ _ _ sc _ _ _ => sc
 | _ => { kind := .function,names := [],isGenerator := false,isCoroutine := false }
abbrev CX0 : CXT := fun _ _ _ _ _ _ => False
abbrev E0 : XK := fun _ _ _ => False
theorem pass0 {X : Cx} : Passes CX0 X E0 := fun _ _ _ _ _ _ _ h => h.elim
structure Fun (K : PySem.W.Frag) (x qual : Str) (st : Stmt) (f : Addr) (fd : FuncData) : Prop where
 ex : ∃ (oc : Value) (od : Option Addr) (kV doc pm : Value) (an : Option Addr) (cdv ct : Value) (osl : Array (Option Value)),
  fd = PySem.W.fnOf x qual (defArgs st) (defBody st) (defScope st) .none kV doc pm an cdv ct ∧ K.lookup f = some ⟨oc,od,.func fd,osl⟩ ∧ PySem.W.codeIn K cdv qual = true
 kp : PySem.W.keepIn K (.ref f) = true
section
variable {P : Program} {w : World} {K : PySem.W.Frag} {mg : Str → Option Value} {base : Heap}
theorem Fun.ok {x qual : Str} {st : Stmt} {f : Addr} {fd : FuncData} {N ps : List Str} {k : Nat} {sp : Sp} (F : Fun K x qual st f fd) (S : FnScope N ps (defScope st)) (len : ∀ vs H Q E,sp vs H Q E → vs.length = ps.length)
  (hbody : ∀ (cdv : Value) (A : Around) (outer : List Env) (s : Shared) (H : Hp) (vs : List V) (Q : VK) (E : XK),Room k (A.deeper (envOfC qual (defScope st) s.heap.objs.size f cdv)) → sp vs H Q E →
   ∃ t,PSs (cxOf CX0 P w K mg base N qual (defScope st) f cdv A outer s H E).nox (defBody st) t ∧ t { nx := fun _ H' => Q .non H',rt := Q } (start N vs) H) : FnOk P w K mg base CX0 (k + 1) f fd ps sp := by
 obtain ⟨oc,od,kV,doc,pm,an,cdv,ct,osl,rfl,lk,hcd⟩ := F.ex
 refine fn_of lk hcd S len fun A outer s H vs Q E hr hsp => ?_
 obtain ⟨t,h,q⟩ := hbody cdv A outer s H vs Q E hr hsp
 exact ⟨t,h.nox,q⟩
theorem Fun.binds {x qual : Str} {st : Stmt} {f : Addr} {fd : FuncData} {ps : List Str} (F : Fun K x qual st f fd)
  (h : ∀ (kV doc pm : Value) (an : Option Addr) (cdv ct : Value) (us : List Value),us.length = ps.length → bindArgs (PySem.W.fnOf x qual (defArgs st) (defBody st) (defScope st) .none kV doc pm an cdv ct) ⟨us,[]⟩ = pure (ps.zip us)) : Binds K fd ps [] := by
 obtain ⟨oc,od,kV,doc,pm,an,cdv,ct,osl,rfl,lk,hcd⟩ := F.ex
 exact .all (h kV doc pm an cdv ct)
theorem fun_mk {x qual : Str} {st : Stmt} {f : Addr} {oc : Value} {od an : Option Addr} {osl : Array (Option Value)} {kV doc pm cdv ct : Value} (l : K.lookup f = some ⟨oc,od,.func (PySem.W.fnOf x qual (defArgs st) (defBody st) (defScope st) .none kV doc pm an cdv ct),osl⟩)
  (c : PySem.W.codeIn K cdv qual = true) (k : PySem.W.keepIn K (.ref f) = true) : Fun K x qual st f (PySem.W.fnOf x qual (defArgs st) (defBody st) (defScope st) .none kV doc pm an cdv ct) := ⟨⟨oc,od,kV,doc,pm,an,cdv,ct,osl,rfl,l,c⟩,k⟩
end
theorem small1000 {n : Nat} (h : n ≤ 1000) : n < sizeLine := Nat.lt_of_le_of_lt h (by decide)
section
variable {X : Cx}
theorem pv (i : Nat) {x : Str} {pos : Pos} (hN : X.N[i]? = some x := by rfl) (hv : Vis X.env.scope x := by first | exact Or.inl rfl | exact Or.inr (Or.inl rfl) | exact Or.inr (Or.inr rfl)) (hd : (x == ("__debug__" : Str)) = false := by decide)
  (hcd : (x == ("__classdict__" : Str)) = false := by decide) : PE X (.Name x pos) (tVar i) := pe_var hN hv hd hcd
end
theorem iteF {A B : Prop} (h : B) : if false = true then A else B := by
 rw [if_neg Bool.false_ne_true]
 exact h
theorem iteT {A B : Prop} (h : A) : if true = true then A else B := by
 rw [if_pos rfl]
 exact h
theorem ite2 {c A B : Prop} [Decidable c] (h1 : c → A) (h2 : ¬ c → B) : if c then A else B := by
 by_cases h : c
 ·rw [if_pos h]
  exact h1 h
 ·rw [if_neg h]
  exact h2 h
theorem iteNS {c A B : Prop} [Decidable c] (hc : c) (h : B) : if (!decide c) = true then A else B := by
 rw [decide_eq_true hc]
 exact iteF h
def Same (H H' : Hp) : Prop := ∀ b o,H b = some o → H' b = some o
theorem Same.refl (H : Hp) : Same H H := fun _ _ h => h
theorem Same.trans {H H1 H2 : Hp} (a : Same H H1) (b : Same H1 H2) : Same H H2 := fun c o h => b c o (a c o h)
theorem Same.free {H H' : Hp} (e : Same H H') {l : Addr} (h : H' l = Option.none) : H l = Option.none := by
 cases q : H l with
 | none => rfl
 | some o =>
  rw [e l o q] at h
  cases h
end L2
end
section
namespace L2
open PySem PySem.Spec PyProof.Rows
theorem forIn_all {α β : Type} (Iv : List α → β → Prop) {f : α → β → Sem (ForInStep β)} (h : ∀ x r c,Iv (x :: r) c → ∃ c',f x c = pure (.yield c') ∧ Iv r c') :
  ∀ (l : List α) (c : β),Iv l c → ∃ c',forIn l c f = pure c' ∧ Iv [] c'
 | [],c,i => ⟨c,rfl,i⟩
 | x :: l,c,i => by
  obtain ⟨c1,e,i1⟩ := h x l c i
  obtain ⟨c2,e2,i2⟩ := forIn_all Iv h l c1 i1
  exact ⟨c2,by rw [List.forIn_cons,e,pure_bind]; exact e2,i2⟩
theorem closureFor_of {scope : Scope} {env : Env} (h : ∀ y ∈ scope.names,y.2 = .free → ∃ c,env.cells.lookup y.1 = some c) :
  ∃ cl,closureFor scope env = pure cl ∧ (∀ y c,cl.lookup y = some c → env.cells.lookup y = some c) ∧ ∀ y,(y,NameKind.free) ∈ scope.names → ∃ c,cl.lookup y = some c := by
 have key := forIn_all (f := fun (x : Str × NameKind) (cs : List (Str × Addr)) => (match x with
   | (name,kind) => if kind == .free then (do let a ← cellOf env name; pure (ForInStep.yield ((name,a) :: cs))) else pure (ForInStep.yield cs) : Sem (ForInStep (List (Str × Addr)))))
  (fun rest cs => ∃ done,scope.names = done ++ rest ∧ (∀ y c,cs.lookup y = some c → env.cells.lookup y = some c) ∧ ∀ y,(y,NameKind.free) ∈ done → ∃ c,cs.lookup y = some c)
  (fun x r cs ⟨done,e,h1,h2⟩ => ?_) scope.names [] ⟨[],rfl,fun y c z => by simp at z,fun y z => by simp at z⟩
 ·obtain ⟨cl,e,done,ed,h1,h2⟩ := key
  refine ⟨cl,?_,h1,fun y hy => h2 y (by rw [ed,List.append_nil] at hy; exact hy)⟩
  unfold closureFor
  have : ∀ m : Sem (List (Str × Addr)),m = pure cl → (m >>= fun cs => pure cs) = (pure cl : Sem (List (Str × Addr))) := fun m q => by rw [q]; rfl
  exact this _ e
 ·obtain ⟨name,kind⟩ := x
  by_cases hk : kind = .free
  ·subst hk
   obtain ⟨c,hc⟩ := h (name,.free) (by rw [e]; simp) rfl
   refine ⟨(name,c) :: cs,?_,done ++ [(name,.free)],by rw [e]; simp,fun y c' z => ?_,fun y hy => ?_⟩
   ·show (if (NameKind.free == NameKind.free) = true then _ else _) = _
    rw [if_pos (show (NameKind.free == NameKind.free) = true from rfl)]
    unfold cellOf
    rw [show env.cells.lookup name = some c from hc]
    rfl
   ·by_cases q : y = name
    ·subst q
     rw [List.lookup_cons,show (y == y) = true from beq_self_eq_true y] at z
     cases z
     exact hc
    ·rw [List.lookup_cons,show (y == name) = false from beq_eq_false_iff_ne.mpr q] at z
     exact h1 y c' z
   ·by_cases q : y = name
    ·subst q
     exact ⟨c,by rw [List.lookup_cons,show (y == y) = true from beq_self_eq_true y]⟩
    ·rcases List.mem_append.mp hy with m | m
     ·obtain ⟨c',e'⟩ := h2 y m
      exact ⟨c',by rw [List.lookup_cons,show (y == name) = false from beq_eq_false_iff_ne.mpr q]; exact e'⟩
     ·have : (y,NameKind.free) = (name,NameKind.free) := by simpa using m
      exact absurd (congrArg Prod.fst this) q
  ·refine ⟨cs,?_,done ++ [(name,kind)],by rw [e]; simp,h1,fun y hy => ?_⟩
   ·show (if (kind == NameKind.free) = true then _ else _) = _
    rw [if_neg (by simpa using hk)]
   ·rcases List.mem_append.mp hy with m | m
    ·exact h2 y m
    ·have : (y,NameKind.free) = (name,kind) := by simpa using m
     exact absurd (congrArg Prod.snd this).symm hk
def cxComp (X : Cx) (scope : Scope) (cl : List (Str × Addr)) (C : Addr) (N : List Str) (s : Shared) (H : Hp) (fp : List Addr) : Cx :=
 { X with N := N,s₀ := s,H₀ := H,env := compEnvC scope cl C X.env,outer := X.stack,stack := X.stack,ex := fp,fn := fun _ => false,pn := [],xe := fun _ _ => False }
def capOk (NX : List Str) (sn names : List (Str × NameKind)) (fr : List Str) (js : List Nat) : Bool :=
 (fr.length == js.length) && (fr.zip js).all fun p => decide (NX[p.2]? = some p.1) && decide (names.lookup p.1 = some .free) && decide (sn.lookup p.1 = some .cell)
def scOk (sn names : List (Str × NameKind)) : Bool :=
 names.all fun y => (decide (y.2 = .local) && decide (names.lookup y.1 = some .local)) || (decide (y.2 = .free) && decide (sn.lookup y.1 = some .cell)) || decide (y.2 = .globalImplicit)
def cap (js : List Nat) (σ : St) : St := js.map fun j => (σ[j]?).join
def tComp (wi : TI) (g : TG) (tc : TT) (te : TE) (k : Nat) (js : List Nat) : TE := fun σ H Q => wi σ H fun J H1 => ∀ D,H1 D = none →
 ∃ W : Nat → Nat → List V → Hp → Prop,(∃ m,W 0 m [] (upd H1 D (.lst []))) ∧ ∀ i m ys H,W i m ys H → H D = some (.lst ys) →
  (J.stop i H ∧ Q (.ref D) H) ∨ (J.go i H ∧ ∀ x H',J.yld i H x H' → g x (List.replicate k none ++ cap js σ) H' fun σ2 H2 => σ2.drop k = cap js σ ∧ tc σ2 H2 fun b H3 =>
   if b = true then te σ2 H3 fun y H4 => H4 D = some (.lst ys) ∧ ys.length < sizeLine ∧ ∃ m',m' < m ∧ W (i + 1) m' (ys ++ [y]) (upd H4 D (.lst (ys ++ [y])))
   else H3 D = some (.lst ys) ∧ ∃ m',m' < m ∧ W (i + 1) m' ys H3)
section
variable {prog : Program} {w : World} {A : Around} {R : Result → Shared → Prop} {s : Shared}
theorem compLoop_any {elt target iter : Expr} {ifs : List Expr} {scope : Scope} {pos : Pos} {it acc : Value} {env : Env} (I : Nat → Shared → Prop)
  (turn : ∀ n s,I n s → wpAny (model prog w) A (pyNext it) (fun r s₁ => match r with
   | none => R (.ok .next) s₁
   | some v => wpAny (model prog w) A (letOwnedTupleGo target it v) (fun _ s₁' => wpAny (model prog w) A (assign target env v) (fun _ s₂ =>
     wpAny (model prog w) A (forIn ifs true fun c r => if r = true then do let ok ← isTrue c env (eval c env); pure (ForInStep.yield ok) else pure (ForInStep.yield r)) (fun ok s₃ =>
      if ok = true then wpAny (model prog w) A (eval elt env) (fun x s₄ =>
       wpAny (model prog w) A (call (.builtin "list.append") [acc,x]) (fun _ s₅ => ∃ m,m < n ∧ I m s₅) (fun _ _ => False) s₄) (fun _ _ => False) s₃
      else ∃ m,m < n ∧ I m s₃) (fun _ _ => False) s₂) (fun _ _ => False) s₁') (fun _ _ => False) s₁) (fun _ _ => False) s)
  (n : Nat) (h : I n s) :
  codeAny (model prog w) A (.compLoop (.ListComp elt [⟨target,iter,ifs,0⟩] scope pos) 0 it acc env) R s := by
 refine codeAny_loop rfl I (fun n s hI => ?_) n h
 show wpAny _ A ((compTurn (.ListComp elt [⟨target,iter,ifs,0⟩] scope pos) 0 it acc env).onRaise (fun x => do noteFrame x env; theTreesLotGoes x)) _ _ s
 refine wpAny_noted ?_
 rw [compTurn_list]
 refine wpAny_bind (wpAny_standAt (wpAny_bind (wpAny_mono (turn n s hI) (fun r s₁ h₁ => ?_) fun _ _ h' => h'.elim)))
 cases r with
 | none => exact wpAny_pure h₁
 | some v =>
  refine wpAny_bind (wpAny_mono h₁ (fun _ s₁' h₁' => ?_) fun _ _ h' => h'.elim)
  refine wpAny_bind (wpAny_mono h₁' (fun _ s₂ h₂ => wpAny_bind (wpAny_mono h₂ (fun ok s₃ h₃ => ?_) fun _ _ h' => h'.elim)) fun _ _ h' => h'.elim)
  cases ok with
  | false => exact wpAny_pure ⟨rfl,h₃⟩
  | true =>
   exact wpAny_bind (wpAny_bind (wpAny_mono h₃ (fun x s₄ h₄ => wpAny_bind (wpAny_mono h₄ (fun _ s₅ h₅ => wpAny_pure (wpAny_pure ⟨rfl,h₅⟩)) fun _ _ h' => h'.elim)) fun _ _ h' => h'.elim))
end
def PTs (X : Cx) (ifs : List Expr) (t : TT) : Prop :=
 ∀ (pins : List (Addr × Obj)) (s : Shared) (σ : St) (H : Hp) (Q : Bool → Hp → Prop),Inv X pins σ H s → t σ H Q →
  wpAny (model X.prog X.w) X.A (forIn ifs true fun c r => if r = true then do let ok ← isTrue c X.env (eval c X.env); pure (ForInStep.yield ok) else pure (ForInStep.yield r)) (TP X pins σ Q) X.xe s
def tAlways : TT := fun _ H Q => Q true H
theorem pts_nil {X : Cx} : PTs X [] tAlways := fun _ _ _ H _ I h => wpAny_tests_nil ⟨H,I,h⟩
theorem pts_one {X : Cx} {c : Expr} {t : TT} (h : PT X c t) : PTs X [c] t := fun pins s σ H Q I hw => wpAny_tests_one (h pins s σ H Q I hw)
theorem relabel_mem {scope : Scope} {env : Env} {y : Str} {k : NameKind} (h : (relabel scope env).names.lookup y = some k) : ∃ k0,(y,k0) ∈ scope.names ∧ (k = k0 ∨ (k0 = .free ∧ k = .cell)) := by
 have m := PySem.mem_of_lookup h
 obtain ⟨⟨n,k0⟩,hm,e⟩ := List.mem_map.mp (show (y,k) ∈ scope.names.map _ from m)
 by_cases c : (k0 == NameKind.free && env.scope.kind == .function && env.kindOf n == some .cell) = true
 ·have e : (if (k0 == NameKind.free && env.scope.kind == .function && env.kindOf n == some .cell) = true then (n,NameKind.cell) else (n,k0)) = (y,k) := e
  rw [if_pos c] at e
  have e1 := congrArg Prod.fst e
  have e2 := congrArg Prod.snd e
  subst e1 e2
  refine ⟨k0,hm,.inr ⟨?_,rfl⟩⟩
  rw [Bool.and_eq_true,Bool.and_eq_true] at c
  simpa using c.1.1
 ·have e : (if (k0 == NameKind.free && env.scope.kind == .function && env.kindOf n == some .cell) = true then (n,NameKind.cell) else (n,k0)) = (y,k) := e
  rw [if_neg c] at e
  have e1 := congrArg Prod.fst e
  have e2 := congrArg Prod.snd e
  subst e1 e2
  exact ⟨_,hm,.inl rfl⟩
section
variable {X : Cx}
structure CFree (X : Cx) (pins : List (Addr × Obj)) (H : Hp) (C : Addr) : Prop where
 fr : H C = none
 ne : C ≠ X.env.locals
 ab : X.s₀.heap.objs.size ≤ C
 ce : ∀ x c,X.env.cells.lookup x = some c → c ≠ C
 pn : ∀ p ∈ X.pn ++ pins,p.1 ≠ C
theorem CFree.turn {pins : List (Addr × Obj)} {σ : St} {H : Hp} {C : Addr} {s : Shared} {h' : Heap} (F : CFree X pins H C) (I : Inv X pins σ H s) (hs : Heap.SameBut C s.heap h') : Inv X pins σ H { s with heap := h' } :=
 I.turned (t' := s.toks) (it := C) (fun b o nb e => hs.extBut b o nb e) F.fr F.ne (.inr F.ab) F.ce F.pn
theorem comp_core {elt tg iter : Expr} {ifs : List Expr} {scope : Scope} {pos pos' : Pos} {wi : TI} {g : TG} {tc : TT} {te : TE} (own fr : List Str) (js : List Nat) (NX : List Str) (sn : List (Str × NameKind)) (hcalm : X.calm = true)
  (hi : PI X tg iter wi)
  (hg : ∀ cl C s H fp,PG (cxComp X scope cl C (own ++ fr) s H fp) tg g) (ht : ∀ cl C s H fp,PTs (cxComp X scope cl C (own ++ fr) s H fp) ifs tc) (he : ∀ cl C s H fp,PE (cxComp X scope cl C (own ++ fr) s H fp) elt te)
  (hN : X.N = NX) (hsn : X.env.scope.names = sn) (hkind : scope.kind = .function)
  (hcap : capOk NX sn scope.names fr js = true) (hsc : scOk sn scope.names = true)
  (hs : ∀ x,foldedSetIterable iter X.env x = pure x) {use : Option (Value → Sem Unit)} {QQ : Value → Shared → Prop}
  {pins : List (Addr × Obj)} {s : Shared} {σ : St} {H : Hp} {Q : VK} (I : Inv X pins σ H s) (h : tComp wi g tc te own.length js σ H Q)
  (fin : ∀ (D C : Addr) (H' : Hp) (s' : Shared) (m : Str → Option Value),Inv X pins σ H' s' → s'.heap.Ns C m → CFree X pins H' C → Q (.ref D) H' → compPost (model X.prog X.w) X.A X.xe use QQ (.ref D) C (.ok .next) s') :
  wpAny (model X.prog X.w) X.A (comprehension (.ListComp elt [⟨tg,iter,ifs,0⟩] scope pos) scope X.env pos' (newList []) false (eval iter X.env) use) QQ X.xe s := by
 subst hN hsn
 unfold capOk at hcap
 rw [Bool.and_eq_true,List.all_eq_true] at hcap
 obtain ⟨hlen,hcap⟩ := hcap
 have hlen : fr.length = js.length := by simpa using hlen
 unfold scOk at hsc
 rw [List.all_eq_true] at hsc
 have names : ∀ y ∈ scope.names,(y.2 = .local ∧ scope.names.lookup y.1 = some .local) ∨ (y.2 = .free ∧ X.env.scope.names.lookup y.1 = some .cell) ∨ y.2 = .globalImplicit := fun y hy => by
  have := hsc y hy
  simpa [or_assoc] using this
 have hcell : ∀ y ∈ scope.names,y.2 ≠ .cell := fun y hy z => by
  rcases names y hy with ⟨q,_⟩ | ⟨q,_⟩ | q <;> rw [z] at q <;> cases q
 have hnames : ∀ y ∈ scope.names,y.2 = .local → scope.names.lookup y.1 = some .local := fun y hy z => by
  rcases names y hy with ⟨_,q⟩ | ⟨q,_⟩ | q
  ·exact q
  ·rw [z] at q; cases q
  ·rw [z] at q; cases q
 have hfree : ∀ y ∈ scope.names,y.2 = .free → X.env.scope.names.lookup y.1 = some .cell := fun y hy z => by
  rcases names y hy with ⟨q,_⟩ | ⟨_,q⟩ | q
  ·rw [z] at q; cases q
  ·exact q
  ·rw [z] at q; cases q
 obtain ⟨cl,hclos,hcl,hclh⟩ := closureFor_of (scope := scope) (env := X.env) fun y hy z => I.ok.has y.1 (.inl (hfree y hy z))
 refine wpAny_comprehension_free (use := use) rfl hs hclos hkind hnames (thn (hi pins s σ H _ I h) fun v s1 h1 => thn h1 fun itv s2 h2 => ?_)
 obtain ⟨it,fp,tn,J,H2,e,I2,T,st2,f2,h2⟩ := h2
 subst e
 have hD : H2 s2.heap.objs.size = none := I2.fresh
 obtain ⟨W,⟨m0,w0⟩,turn⟩ := h2 s2.heap.objs.size hD
 refine wpAny_newObj_type (wpAny_newFunctionEnv hcell (by intro y hy; simp at hy) (fun h₁ hns₁ hsb₁ => ?_) hkind)
 dsimp only at hns₁ hsb₁ ⊢
 generalize hH2 : s2.heap.push { cls := .type "list",dict := none,data := .seq ([] : List Value).toArray } = G2 at hns₁ hsb₁ ⊢
 have hC : G2.objs.size = s2.heap.objs.size + 1 := by rw [← hH2,Heap.size_push]
 have hDC : s2.heap.objs.size ≠ G2.objs.size := by rw [hC]; exact Nat.ne_of_lt (Nat.lt_succ_self _)
 have ltC : ∀ b o,s2.heap.get? b = some o → b ≠ G2.objs.size := fun b o q => by
  have := Heap.lt_size q
  rw [hC]
  exact Nat.ne_of_lt (Nat.lt_succ_of_lt this)
 have old : ∀ b o,s2.heap.get? b = some o → h₁.get? b = some o := fun b o e =>
  hsb₁.extBut b o (ltC b o e) (Heap.get?_push_of_some _ (hH2 ▸ Heap.get?_push_of_some _ e))
 have hacc : h₁.get? s2.heap.objs.size = some { cls := .type "list",data := .seq ([] : List Value).toArray } := hsb₁.extBut _ _ hDC (Heap.get?_push_of_some _ (hH2 ▸ Heap.get?_push_size _ rfl))
 let Y : Cx := cxComp X scope cl G2.objs.size (own ++ fr) s2 H2 fp
 let σ0 : St := List.replicate own.length none ++ cap js σ
 have bfs : ∀ b ∈ fp,b ∉ frs X.stack := fun b hb z => (List.mem_cons.mp (I2.stkSub b z)).elim (f2 b hb).2.1 (f2 b hb).2.2.1
 have okY : Y.Ok := by
  refine ⟨I2.ok.mod,hkind,I2.ok.glob,I2.ok.blt,?_,fun x y c h1 h2 => I2.ok.inj x y c (hcl x c h1) (hcl y c h2),fun y hy => ?_,fun x c q => ?_,I2.ok.hd,I2.ok.frames,.inl rfl,fun b hb => ⟨?_,fun x c q => (f2 b hb).2.2.2.2.1 x c (hcl x c q)⟩,I2.bs,Nat.le_trans I2.ok.bsz I2.sz,fun b o q hb => ?_,bfs,I2.stack,I2.stkFree⟩
  ·show s2.heap.objs.size ≤ G2.objs.size
   rw [hC]; exact Nat.le_succ _
  ·have hy : (relabel scope X.env).names.lookup y = some .cell ∨ (relabel scope X.env).names.lookup y = some .free := hy
   rcases hy with hy | hy
   ·obtain ⟨k0,hm,q | ⟨q,_⟩⟩ := relabel_mem hy
    ·exact absurd q.symm (hcell _ hm)
    ·exact hclh y (q ▸ hm)
   ·obtain ⟨k0,hm,q | ⟨q,_⟩⟩ := relabel_mem hy
    ·exact hclh y (q ▸ hm)
    ·exact hclh y (q ▸ hm)
  ·exact absurd (show false = true from q) Bool.false_ne_true
  ·obtain ⟨o,q,_⟩ := T.obj 0 s2.heap st2 b hb
   exact ltC b o q
  ·have hb' := f2 b hb
   rcases hb'.2.2.2.1 with z | z
   ·exact I2.ok.noex b o q z
   ·exact absurd (Nat.lt_of_lt_of_le (Heap.lt_size q) (Nat.le_trans I2.ok.bsz z)) (Nat.lt_irrefl _)
 have pinX : ∀ p ∈ X.pn ++ pins,p.1 ≠ G2.objs.size ∧ p.1 ∉ frs X.stack := fun p hp => by
  obtain ⟨e,n,ne,nf,d⟩ := I2.pin p hp
  exact ⟨ltC _ _ e,fun z => (List.mem_cons.mp (I2.stkSub _ z)).elim ne nf⟩
 have lenY : σ0.length = (own ++ fr).length := by
  show (List.replicate own.length none ++ cap js σ).length = _
  rw [List.length_append,List.length_replicate,List.length_append,cap,List.length_map,hlen]
 have IY : ∀ tk,Inv Y (X.pn ++ pins) σ0 (upd H2 s2.heap.objs.size (.lst [])) { s2 with heap := h₁,toks := tk } := fun tk => by
  refine ⟨okY,rfl,I2.bare,Un.laid old (Nat.le_refl _) hD,⟨_,hns₁,fun i y v e1 e2 e3 => ?_⟩,fun y c q => ?_,?_,fun y c q => ?_,fun p hp => ?_,I2.hok.laid old (Nat.le_refl _) ⟨Nat.zero_le _,[],0,.nil,hacc⟩,lenY⟩
  ·-- a captured name
   have e2 : (List.replicate own.length none ++ cap js σ)[i]? = some (some v) := e2
   have e1 : (own ++ fr)[i]? = some y := e1
   have hi : own.length ≤ i := by
    refine Nat.le_of_not_lt fun z => ?_
    rw [List.getElem?_append_left (by simpa using z),List.getElem?_replicate] at e2
    split at e2 <;> cases e2
   rw [List.getElem?_append_right (by simpa using hi),List.length_replicate,cap,List.getElem?_map] at e2
   rw [List.getElem?_append_right hi] at e1
   cases ej : js[i - own.length]? with
   | none => rw [ej] at e2; cases e2
   | some j =>
    rw [ej] at e2
    have e2 : (σ[j]?).join = some v := Option.some.inj e2
    have eσ : σ[j]? = some (some v) := by
     cases q : σ[j]? with
     | none => rw [q] at e2; cases e2
     | some o => rw [q] at e2; rw [show o = some v from e2]
    have hm : (y,j) ∈ fr.zip js := List.mem_of_getElem? (i := i - own.length) (by rw [List.getElem?_zip_eq_some]; exact ⟨e1,ej⟩)
    have hc := hcap _ hm
    simp only [Bool.and_eq_true,decide_eq_true_eq] at hc
    obtain ⟨⟨c1,c2⟩,c3⟩ := hc
    obtain ⟨m,hn,hl⟩ := I2.loc
    obtain ⟨u,r,l⟩ := hl j y v c1 eσ (.inr (.inl c3))
    rcases l with ⟨hk,_⟩ | ⟨_,c,hcc,hv⟩
    ·exact absurd (c3.symm.trans hk) (by intro z; cases z)
    ·obtain ⟨c',ec'⟩ := hclh y (PySem.mem_of_lookup c2)
     have : c' = c := Option.some.inj ((hcl y c' ec').symm.trans hcc)
     subst this
     refine ⟨u,r,.inr ⟨?_,c',ec',?_⟩⟩
     ·have e3 : Vis (relabel scope X.env) y := e3
      rcases e3 with q | q | q
      ·obtain ⟨k0,hm,z | ⟨_,z⟩⟩ := relabel_mem q
       ·have := hnames _ hm z.symm
        rw [c2] at this; cases this
       ·cases z
      ·exact .inl q
      ·exact .inr q
     ·obtain ⟨o,ho,hd⟩ := hv
      exact ⟨o,old _ _ ho,hd⟩
  ·obtain ⟨v,o,ho,hd⟩ := I2.cell y c (hcl y c q)
   exact ⟨v,o,old _ _ ho,hd⟩
  ·show upd H2 s2.heap.objs.size (.lst []) G2.objs.size = none
   rw [upd_ne (Ne.symm hDC)]
   exact I2.hok.fresh (by rw [hC]; exact Nat.le_succ _)
  ·obtain ⟨v,o,ho,hd⟩ := I2.cell y c (hcl y c q)
   rw [upd_ne (Nat.ne_of_lt (Heap.lt_size ho))]
   exact I2.freeC y c (hcl y c q)
  ·have hp : p ∈ X.pn ++ pins := by simpa [Y,cxComp] using hp
   obtain ⟨e,n,ne,nf,d⟩ := I2.pin p hp
   exact ⟨old _ _ e,by rw [upd_ne (Nat.ne_of_lt (Heap.lt_size e))]; exact n,(pinX p hp).1,(pinX p hp).2,d⟩
 have fpY : ∀ {H' : Hp},(∀ b ∈ fp,H' b = none) → ∀ b ∈ fp,FpOk Y (X.pn ++ pins) H' b := fun {H'} hn b hb => by
  refine ⟨hn b hb,(okY.exf b hb).1,bfs b hb,.inl hb,(okY.exf b hb).2,fun p hp => ?_⟩
  have hp : p ∈ X.pn ++ pins := by simpa [Y,cxComp] using hp
  exact (f2 b hb).2.2.2.2.2 p hp
 have fin' : ∀ (H' : Hp) (s' : Shared),Inv Y (X.pn ++ pins) σ0 H' s' → Q (.ref s2.heap.objs.size) H' → compPost (model X.prog X.w) X.A X.xe use QQ (.ref s2.heap.objs.size) G2.objs.size (.ok .next) s' := fun H' s' J q => by
  obtain ⟨m,hn,_⟩ := J.loc
  have un : Un (frs X.stack) fp H2 H' s2.heap s'.heap := J.base
  refine fin _ _ H' s' m (I2.call' (s' := s') (ch := fp) J.os un J.hok J.bare fun b hb => ⟨(f2 b hb).2.2.2.1,(f2 b hb).2.1,(f2 b hb).2.2.2.2.1,(f2 b hb).2.2.2.2.2⟩) hn ⟨J.free,?_,?_,fun x c e z => ?_,fun p hp => (pinX p hp).1⟩ q
  ·intro z
   obtain ⟨m2,⟨o,_,_,ho,_⟩,_⟩ := I2.loc
   exact ltC _ o ho z.symm
  ·exact Nat.le_trans I2.sz (by rw [hC]; exact Nat.le_succ _)
  ·obtain ⟨v,o,ho,_⟩ := I2.cell x c e
   exact ltC c o ho z
 have frs0 : ∀ b ∈ fp,upd H2 s2.heap.objs.size (.lst []) b = none := fun b hb => by
  obtain ⟨o,q,_⟩ := T.obj 0 s2.heap st2 b hb
  rw [upd_ne (Nat.ne_of_lt (Heap.lt_size q))]
  exact (f2 b hb).1
 have loop : ∀ tk,codeAny (model X.prog X.w) X.A (.compLoop (.ListComp elt [⟨tg,iter,ifs,0⟩] scope pos) 0 (.ref it) (.ref s2.heap.objs.size) (compEnvC scope cl G2.objs.size X.env))
   (compPost (model X.prog X.w) X.A X.xe use QQ (.ref s2.heap.objs.size) G2.objs.size) { s2 with heap := h₁,toks := tk } := fun tk => by
  refine compLoop_any (fun n s' => ∃ i ys H',Inv Y (X.pn ++ pins) σ0 H' s' ∧ tn i s'.heap ∧ (∀ b ∈ fp,H' b = none) ∧ H' s2.heap.objs.size = some (.lst ys) ∧ W i n ys H') ?_ m0
   ⟨0,[],_,IY tk,T.keep _ _ _ st2 (fun b hb o q => old b o q),frs0,upd_same,w0⟩
  rintro n s3 ⟨i,ys,H3,I3,st3,fr3,hD3,w3⟩
  rcases turn i n ys H3 w3 hD3 with ⟨stop,qn⟩ | ⟨go,step⟩
  ·refine thn (T.done Y rfl rfl rfl hcalm i _ s3 σ0 H3 _ I3 (fpY fr3) st3 stop) fun r s4 ⟨hr,I4⟩ => ?_
   subst hr
   exact fin' H3 s4 I4 qn
  ·refine thn (T.item Y rfl rfl rfl hcalm i _ s3 σ0 H3 _ I3 (fpY fr3) st3 go) fun r s4 ⟨u,hr,h4⟩ => ?_
   subst hr
   refine thn h4 fun _ s5 ⟨x,H5,I5,r5,y5,st5,fr5⟩ => ?_
   have I5' := I5.pinned (fpY fr5) (T.obj _ _ st5)
   refine thn (hg cl _ s2 H2 fp _ s5 σ0 H5 x u _ I5' r5 (step x H5 y5)) fun _ s6 ⟨σ6,H6,I6,d6,q6⟩ => ?_
   refine thn (ht cl _ s2 H2 fp _ s6 σ6 H6 _ I6 q6) fun b s7 ⟨H7,I7,q7⟩ => ?_
   have back : ∀ {σ8 : St} {H8 : Hp} {s8 : Shared} {zs : List V} {m' : Nat},Inv Y (X.pn ++ pins ++ pinsAt fp s5.heap) σ8 H8 s8 → σ8.drop own.length = cap js σ → m' < n → H8 s2.heap.objs.size = some (.lst zs) → W (i + 1) m' zs H8 →
     ∃ m,m < n ∧ ∃ i ys H',Inv Y (X.pn ++ pins) σ0 H' s8 ∧ tn i s8.heap ∧ (∀ b ∈ fp,H' b = none) ∧ H' s2.heap.objs.size = some (.lst ys) ∧ W i m ys H' := fun {σ8 H8 s8 zs m'} I8 d8 hm hd w8 => by
    have pin8 : ∀ b o,b ∈ fp → s5.heap.get? b = some o → s8.heap.get? b = some o ∧ H8 b = none := fun b o hb e =>
     let z := I8.pin (b,o) (List.mem_append_right _ (List.mem_append_right _ (mem_pinsAt hb e)))
     ⟨z.1,z.2.1⟩
    have I8' := I8.unpinned
    refine ⟨m',hm,i + 1,zs,H8,?_,T.keep _ _ _ st5 fun b hb o e => (pin8 b o hb e).1,fun b hb => ?_,hd,w8⟩
    ·refine I8'.weak (lenY.trans I8'.len.symm) fun j v ej => ?_
     have ej : (List.replicate own.length none ++ cap js σ)[j]? = some (some v) := ej
     have hj : own.length ≤ j := by
      refine Nat.le_of_not_lt fun z => ?_
      rw [List.getElem?_append_left (by simpa using z),List.getElem?_replicate] at ej
      split at ej <;> cases ej
     rw [List.getElem?_append_right (by simpa using hj),List.length_replicate,← d8,List.getElem?_drop] at ej
     rw [show j = own.length + (j - own.length) by omega]
     exact ej
    ·obtain ⟨o,e,d⟩ := T.obj _ _ st5 b hb
     exact (pin8 b o hb e).2
   cases b with
   | false =>
    obtain ⟨hd,m',hm,w8⟩ := q7
    exact back I7 d6 hm hd w8
   | true =>
    refine thn (he cl _ s2 H2 fp _ s7 σ6 H7 _ I7 q7) fun v s8 ⟨y,H8,I8,r8,hd8,hz,m',hm,w8⟩ => ?_
    refine thn (mt_append (X := Y) _ s8 σ6 H8 (.ref s2.heap.objs.size) [y] (.ref s2.heap.objs.size) [v] (fun _ H9 => H9 = upd H8 s2.heap.objs.size (.lst (ys ++ [y]))) I8 rfl (.cons r8 .nil) ⟨_,ys,y,rfl,rfl,hd8,hz,rfl⟩) fun _ s9 ⟨_,H9,I9,_,e9⟩ => ?_
    subst e9
    exact back I9 d6 hm upd_same w8
 exact codeAny_compStart_list (loop _) (T.self _ 0 _ _ _ (T.keep _ _ _ st2 (fun b hb o q => old b o q)) (loop _))
theorem pe_comp {elt tg iter : Expr} {ifs : List Expr} {scope : Scope} {pos : Pos} {wi : TI} {g : TG} {tc : TT} {te : TE} (own fr : List Str) (js : List Nat) (NX : List Str) (sn : List (Str × NameKind)) (hcalm : X.calm = true)
  (hi : PI X tg iter wi)
  (hg : ∀ cl C s H fp,PG (cxComp X scope cl C (own ++ fr) s H fp) tg g) (ht : ∀ cl C s H fp,PTs (cxComp X scope cl C (own ++ fr) s H fp) ifs tc) (he : ∀ cl C s H fp,PE (cxComp X scope cl C (own ++ fr) s H fp) elt te)
  (hN : X.N = NX := by rfl) (hsn : X.env.scope.names = sn := by rfl) (hkind : scope.kind = .function := by rfl)
  (hcap : capOk NX sn scope.names fr js = true := by decide +kernel) (hsc : scOk sn scope.names = true := by decide +kernel)
  (hs : ∀ x,foldedSetIterable iter X.env x = pure x := by intro _; rfl) :
  PE X (.ListComp elt [⟨tg,iter,ifs,0⟩] scope pos) (tComp wi g tc te own.length js) := by
 intro pins s σ H Q I h
 rw [eval_ListComp]
 refine comp_core own fr js NX sn hcalm hi hg ht he hN hsn hkind hcap hsc hs I h fun D C H' s' m I' hn F q => ?_
 exact ⟨m,hn,fun h' hsb => ⟨.ref D,H',F.turn I' hsb,rfl,q⟩⟩
theorem ps_comp {i : Nat} {y : Str} {py spos : Pos} {elt tg iter : Expr} {ifs : List Expr} {scope : Scope} {pos : Pos} {wi : TI} {g : TG} {tc : TT} {te : TE} (own fr : List Str) (js : List Nat) (NX : List Str) (sn : List (Str × NameKind)) (hcalm : X.calm = true)
  (hnd : X.N.Nodup) (hyi : X.N[i]? = some y) (hy : Loc X.env.scope y)
  (hi : PI X tg iter wi)
  (hg : ∀ cl C s H fp,PG (cxComp X scope cl C (own ++ fr) s H fp) tg g) (ht : ∀ cl C s H fp,PTs (cxComp X scope cl C (own ++ fr) s H fp) ifs tc) (he : ∀ cl C s H fp,PE (cxComp X scope cl C (own ++ fr) s H fp) elt te)
  (hsw : swapsWith (.ListComp elt [⟨tg,iter,ifs,0⟩] scope pos) (some (.Name y py)) spos.line X.env = pure true := by rfl)
  (hN : X.N = NX := by rfl) (hsn : X.env.scope.names = sn := by rfl) (hkind : scope.kind = .function := by rfl)
  (hcap : capOk NX sn scope.names fr js = true := by decide +kernel) (hsc : scOk sn scope.names = true := by decide +kernel)
  (hs : ∀ x,foldedSetIterable iter X.env x = pure x := by intro _; rfl) (hf : X.fn y = true ∨ X.env.scope.names.lookup y = some .local := by first | exact .inl rfl | exact .inr rfl) :
  PS X (.Assign [.Name y py] (.ListComp elt [⟨tg,iter,ifs,0⟩] scope pos) spos) (tAsg (tComp wi g tc te own.length js) (gName i)) := by
 intro pins s σ H D I h
 rw [exec_Assign_Name_used _ _ _ _ hsw]
 refine wpAny_bind (wpAny_standAt (wpAny_bind ?_))
 show wpAny _ X.A (do let _ ← comprehension (.ListComp elt [⟨tg,iter,ifs,0⟩] scope pos) scope X.env _ (newList []) false (eval iter X.env) (some (assign (.Name y py) X.env))) _ _ s
 refine wpAny_bind (thn (comp_core own fr js NX sn hcalm hi hg ht he hN hsn hkind hcap hsc hs (use := some (assign (.Name y py) X.env)) (QQ := fun _ s' => SP X pins D .next s') I h fun A C H' s' m I' hn F q => ?_) fun _ s' hq => wpAny_pure (wpAny_pure hq))
 show wpAny _ X.A (assign (.Name y py) X.env (.ref A)) _ _ s'
 refine wpAny_assign_Name (store_ok2 (v := .ref A) I' hnd hyi hy rfl (fun s2 I2 ⟨a,hsb,ha⟩ => ?_) hf)
 have nC : a ≠ C := by
  rcases ha with z | z
  ·rw [z]; exact Ne.symm F.ne
  ·exact F.ce y a z
 exact ⟨m,hn.sameBut hsb nC.symm,fun h' hsb' => ⟨_,H',F.turn I2 hsb',q⟩⟩
end
end L2
end
section
namespace L2
open PySem PySem.Spec PyProof.Rows
section
variable {κ : Type} [DecidableEq κ]
end
section
variable {P : Program} {w : World} {H : Hp} {h : Heap} {a : Addr}
end
section
variable {X : Cx} {pins : List (Addr × Obj)} {σ : St} {H : Hp} {s : Shared} {a : Addr} {y v : V} {u r : Value} {o : Option V} {A : Around} {E : Value → Shared → Prop}
end
section
variable {X : Cx} {pins : List (Addr × Obj)} {σ : St} {H : Hp} {s : Shared} {a : Addr} {kvs : List (Key × V)} {k : Key} {u : Value} {A : Around} {E : Value → Shared → Prop}
end
section
variable {X : Cx} {o i e value : Expr} {pos pos' tpos : Pos} {td ty tv : TE}
end
section
variable {X : Cx} {pos : Pos}
end
structure M1 (X : Cx) (o : Expr) (m : Str) (apos : Pos) (e : Expr) (cpos : Pos) : Prop where
 base : attributeBase o m X.env (eval o X.env) = eval o X.env
 few : ((backTo cpos (starEach [e] X.env)).all (fun x => !x.1) && (backToKw cpos (keywordEach [] X.env)).all (fun x => x.1.isSome)
  && decide (([e] : List Expr).length + ([] : List Keyword).length + (if ([] : List Keyword).isEmpty then 0 else 1) < 30)) = true
 line : (apos.endLine == cpos.line) = true
 trees : backTo cpos (starEach [e] X.env) = [(false,eval e X.env)]
section
variable {X : Cx} {pins : List (Addr × Obj)} {σ : St} {H : Hp} {s : Shared} {a : Addr} {y d : V} {u r : Value} {o : Option V} {A : Around} {E : Value → Shared → Prop}
end
section
variable {X : Cx} {o e f : Expr} {apos cpos : Pos} {td ty tx : TE}
end
section
variable {X : Cx} {pins : List (Addr × Obj)} {σ : St} {H : Hp} {s : Shared} {a : Addr} {kvs : List (Key × V)} {A : Around} {E : Value → Shared → Prop}
end
section
variable {X : Cx} {pins : List (Addr × Obj)} {σ : St} {H : Hp} {s : Shared} {a : Addr} {y : V} {u : Value} {A : Around} {E : Value → Shared → Prop}
end
end L2
end
section
namespace L2
open PySem PySem.Spec PyProof.Rows
def isStar : Expr → Bool
 | .Starred .. => true
 | _ => false
theorem starEach_plain {e : Expr} {es : List Expr} {env : Env} (h : isStar e = false) : starEach (e :: es) env = (false,eval e env) :: starEach es env := by
 cases e <;> first | rfl | exact absurd h (by intro z; cases z)
theorem pa_cn {X : Cx} {e : Expr} {es : List Expr} {te : TE} {t : TA} (ha : PE X e te) (hr : PA X es t) (hs : isStar e = false := by rfl) : PA X (e :: es) (tCons te t) := pa_cons ha hr (starEach_plain hs)
section
variable {X : Cx}
end
section
variable {X : Cx} {pos : Pos}
theorem call_isinst : CallR X (.builtin "isinstance") (fun xs H Q => ∃ x n t b,xs = [x,.ty n] ∧ TyOf X.K H x t ∧ PySem.W.kitOne X.K t (.type n) = some b ∧ Q (.bl b) H) := by
 intro pins s σ H xs us Q I r h
 obtain ⟨x,n,t,b,rfl,ty,e,q⟩ := h
 obtain ⟨u,w',rfl,ru,rw'⟩ := vals2 r
 cases (show w' = Value.type n from rw')
 exact isinst_ok I ru ty e fun tk => ⟨.bl b,H,I.tok tk,rfl,q⟩
theorem vals_bools : ∀ {bs : List Bool} {us : List Value},Vals (bs.map V.bl) us → us = bs.map Value.bool
 | [],_,.nil => rfl
 | b :: bs,_,.cons r t => by
  rw [show _ = Value.bool b from r,vals_bools t]
  rfl
theorem range_all_map (bs : List Bool) : (List.range bs.length).all (fun i => bs.getD i true) = bs.all id := by
 induction bs with
 | nil => rfl
 | cons b bs ih =>
  rw [List.length_cons,List.range_succ_eq_map,List.all_cons,List.all_map,List.all_cons,← ih]
  rfl
theorem call_all_list (hc : X.A.handled = none) : CallR X (.builtin "all") (fun xs H Q => ∃ (p : Addr) (bs : List Bool),xs = [.ref p] ∧ SqL X.K H p (bs.map V.bl) ∧ Q (.bl (bs.all id)) H) := by
 intro pins s σ H xs us Q I r h
 obtain ⟨p,bs,rfl,hq,q⟩ := h
 obtain ⟨u,rfl,ru⟩ := vals1 r
 cases ru
 obtain ⟨its,rv,pl,hz⟩ := I.list hq
 have ei := vals_bools rv
 subst ei
 have hl : s.heap.IsList p (bs.map Value.bool).toArray := pl.isList
 have hne : p ≠ s.heap.objs.size := by
  obtain ⟨o,ho,_⟩ := hl
  exact Nat.ne_of_lt (Heap.lt_size ho)
 refine call_all_walk (wpAny_pyIter_list hl ?_)
 refine ⟨s.heap.objs.size,_,_,_,_,_,fun i => bs.getD i true,rfl,Walks.list (A := X.A.in1) hc _ p hne (bs.map Value.bool).toArray,⟨⟨_,Heap.get?_push_size _ rfl,rfl,rfl⟩,?_⟩,?_,fun h' tk hk => ?_⟩
 ·obtain ⟨o,ho,hr⟩ := hl
  exact ⟨o,Heap.get?_push_of_some _ ho,hr⟩
 ·intro i v s' Q' E' hv hQ'
  have hv : (bs.map Value.bool).toArray[i]? = some v := hv
  rw [List.getElem?_toArray,List.getElem?_map] at hv
  cases eb : bs[i]? with
  | none => rw [eb] at hv; cases hv
  | some b =>
   rw [eb] at hv
   have : Value.bool b = v := Option.some.inj hv
   subst this
   have eg : bs.getD i true = b := by rw [List.getD_eq_getElem?_getD,eb]; rfl
   have hQ' : Q' (bs.getD i true) s' := hQ'
   rw [eg] at hQ'
   exact wpAny_truthy_bool hQ'
 ·refine ⟨.bl (bs.all id),H,I.kept (t' := tk) fun b o e => hk b o (fun z => ?_) (Heap.get?_push_of_some _ e),?_,q⟩
  ·have z : b = s.heap.objs.size := by simpa using z
   exact absurd (Heap.lt_size e) (by rw [z]; exact Nat.lt_irrefl _)
  ·show Value.bool _ = Value.bool _
   rw [← range_all_map bs]
   simp
theorem call_min_list (hc : X.A.handled = none) : CallR X (.builtin "min") (fun xs H Q => ∃ (p : Addr) (ns : List Int),xs = [.ref p] ∧ SqL X.K H p (ns.map V.int) ∧ ns ≠ [] ∧ ∀ M,M ∈ ns → (∀ a ∈ ns,M ≤ a) → Q (.int M) H) := by
 intro pins s σ H xs us Q I r h
 obtain ⟨p,ns,rfl,hq,hn,q⟩ := h
 obtain ⟨u,rfl,ru⟩ := vals1 r
 cases ru
 obtain ⟨its,rv,pl,hz⟩ := I.list hq
 have hi : IntsAre its ns := intsAre_of rv
 obtain ⟨xs,ex⟩ := hi.allInts.items
 have hl : s.heap.IsList p its.toArray := pl.isList
 have hns : ns = xs.toList.map (·.1) := by rw [← hi.numsOf,← nums_intItems,← ex]
 have hsz : 0 < xs.size := by
  have h3 := List.length_pos_iff.mpr hn
  rw [hns,List.length_map,Array.length_toList] at h3
  exact h3
 rw [ex] at hl
 refine min_intList hc hl hsz fun v h' tk hv hk => ?_
 obtain ⟨t,rfl⟩ := intItems_at hv
 obtain ⟨h1,h2⟩ := argBest_lt (numAt xs) (xs.size - 1)
 refine ⟨.int _,H,I.kept hk,⟨t,rfl⟩,q _ ?_ fun a ha => ?_⟩
 ·rw [hns,numAt_eq]
  exact getD_mem (by rw [List.length_map,Array.length_toList]; omega)
 ·rw [hns] at ha
  obtain ⟨j,hj,rfl⟩ := mem_getD ha
  rw [List.length_map,Array.length_toList] at hj
  rw [← numAt_eq]
  exact h2 j (by omega)
theorem call_max_list (hc : X.A.handled = none) : CallR X (.builtin "max") (fun xs H Q => ∃ (p : Addr) (ns : List Int),xs = [.ref p] ∧ SqL X.K H p (ns.map V.int) ∧ ns ≠ [] ∧ ∀ M,M ∈ ns → (∀ a ∈ ns,a ≤ M) → Q (.int M) H) := by
 intro pins s σ H xs us Q I r h
 obtain ⟨p,ns,rfl,hq,hn,q⟩ := h
 obtain ⟨u,rfl,ru⟩ := vals1 r
 cases ru
 obtain ⟨its,rv,pl,hz⟩ := I.list hq
 have hi : IntsAre its ns := intsAre_of rv
 obtain ⟨xs,ex⟩ := hi.allInts.items
 have hl : s.heap.IsList p its.toArray := pl.isList
 have hns : ns = xs.toList.map (·.1) := by rw [← hi.numsOf,← nums_intItems,← ex]
 have hsz : 0 < xs.size := by
  have h3 := List.length_pos_iff.mpr hn
  rw [hns,List.length_map,Array.length_toList] at h3
  exact h3
 rw [ex] at hl
 refine max_intList hc hl hsz fun v h' tk hv hk => ?_
 obtain ⟨t,rfl⟩ := intItems_at hv
 obtain ⟨h1,h2⟩ := argBest_gt (numAt xs) (xs.size - 1)
 refine ⟨.int _,H,I.kept hk,⟨t,rfl⟩,q _ ?_ fun a ha => ?_⟩
 ·rw [hns,numAt_eq]
  exact getD_mem (by rw [List.length_map,Array.length_toList]; omega)
 ·rw [hns] at ha
  obtain ⟨j,hj,rfl⟩ := mem_getD ha
  rw [List.length_map,Array.length_toList] at hj
  rw [← numAt_eq]
  exact h2 j (by omega)
theorem strsAre_of : ∀ {ys : List Str} {us : List Value},Vals (ys.map V.str) us → StrsAre us ys
 | [],_,.nil => .nil
 | y :: ys,_,.cons r t => by
  obtain ⟨tk,rfl⟩ := r
  exact .cons y tk (strsAre_of t)
def rJoin (K : PySem.W.Frag) : V → List V → Hp → VK → Prop := fun x vs H Q => ∃ (z : Str) (p : Addr) (ys : List Str),x = .str z ∧ vs = [.ref p] ∧ SqL K H p (ys.map V.str) ∧ (ys.map (·.length)).sum + ys.length * z.length ≤ 16777216 ∧ Q (.str (Txt.join z ys)) H
theorem mt_join : MtR X "str.join" (rJoin X.K) := by
 intro pins s σ H x xs v us Q I rx rs h
 obtain ⟨z,p,ys,rfl,rfl,hq,hz,q⟩ := h
 obtain ⟨t,rfl⟩ := rx
 obtain ⟨u,rfl,ru⟩ := vals1 rs
 cases ru
 obtain ⟨its,rv,pl,_⟩ := I.list hq
 exact join_list pl.isList (strsAre_of rv) hz fun t' k => ⟨.str _,H,I.tok k,⟨t',rfl⟩,q⟩
def rSlS : V → Option Int → Option Int → Hp → VK → Prop := fun x lo hi H Q => ∃ z : Str,x = .str z ∧ z.length ≤ sizeLine ∧ Q (.str (Txt.slice z lo hi)) H
theorem sl_str : SlR X rSlS := by
 intro pins s σ H x v vl vu lo hi sl Q I rx hs pl pu h
 obtain ⟨z,rfl,hz,q⟩ := h
 obtain ⟨t,rfl⟩ := rx
 refine ⟨"str",_,F.slot_str_getitem.lookup,typeIs_str _ _ _,?_⟩
 have fin : ∀ t' k,EP X pins σ Q (.str (Txt.slice z lo hi) t') { s with toks := k } := fun t' k => ⟨.str _,H,I.tok k,⟨t',rfl⟩,q⟩
 cases pl with
 | none =>
  cases pu with
  | none => exact wpAny_getItem_str_slice (l := none) (u := none) (st := none) hs rfl (post_val_or_str ⟨Nat.le_trans (Txt.slice_le z _ _) hz,fin⟩)
  | int j tj => exact wpAny_getItem_str_slice (l := none) (u := some (j,tj)) (st := none) hs rfl (post_val_or_str ⟨Nat.le_trans (Txt.slice_le z _ _) hz,fin⟩)
 | int i ti =>
  cases pu with
  | none => exact wpAny_getItem_str_slice (l := some (i,ti)) (u := none) (st := none) hs rfl (post_val_or_str ⟨Nat.le_trans (Txt.slice_le z _ _) hz,fin⟩)
  | int j tj => exact wpAny_getItem_str_slice (l := some (i,ti)) (u := some (j,tj)) (st := none) hs rfl (post_val_or_str ⟨Nat.le_trans (Txt.slice_le z _ _) hz,fin⟩)
def rGetL (K : PySem.W.Frag) : V → V → Hp → VK → Prop := fun o i H Q => ∃ (p : Addr) (xs : List V) (j : Nat) (v : V),o = .ref p ∧ i = .int j ∧ SqL K H p xs ∧ xs[j]? = some v ∧ Q v H
theorem get_list : PGet X (rGetL X.K) := by
 intro pins s σ H o i ov iv Q I ro ri h
 obtain ⟨p,xs,j,v,rfl,rfl,hq,he,q⟩ := h
 cases ro
 obtain ⟨t,rfl⟩ := ri
 obtain ⟨its,r,pl,hz⟩ := I.list hq
 obtain ⟨w',ew,rw'⟩ := r.get he
 have hj : j < xs.length := (List.getElem?_eq_some_iff.mp he).1
 have hn := line63
 exact wpAny_getItem_list pl.isList (by omega) (by omega) (by simpa using ew) ⟨v,H,I,rw',q⟩
def eqL : List V → List V → Bool
 | [],[] => true
 | x :: xs,y :: ys => eqV x y && eqL xs ys
 | _,_ => false
theorem eqL_len : ∀ {xs ys : List V},xs.length ≠ ys.length → eqL xs ys = false
 | [],[],h => absurd rfl h
 | [],_ :: _,_ => rfl
 | _ :: _,[],_ => rfl
 | x :: xs,y :: ys,h => by
  show (eqV x y && eqL xs ys) = false
  rw [eqL_len (by simpa using h),Bool.and_false]
theorem eqL_range : ∀ {xs ys : List V},xs.length = ys.length → (List.range xs.length).all (fun i => eqV (xs.getD i .non) (ys.getD i .non)) = eqL xs ys
 | [],[],_ => rfl
 | [],_ :: _,h => by simp at h
 | _ :: _,[],h => by simp at h
 | x :: xs,y :: ys,h => by
  rw [List.length_cons,List.range_succ_eq_map,List.all_cons,List.all_map]
  show (eqV x y && (List.range xs.length).all (fun i => eqV (xs.getD i .non) (ys.getD i .non))) = (eqV x y && eqL xs ys)
  rw [eqL_range (by simpa using h)]
def rEqL (K : PySem.W.Frag) (neg : Bool) : R2 := fun x y H Q => ∃ (a b : Addr) (xs ys : List V),x = .ref a ∧ y = .ref b ∧ SqL K H a xs ∧ SqL K H b ys ∧ xs.all flatV = true ∧ ys.all flatV = true ∧ Q (.bl (if neg then !eqL xs ys else eqL xs ys)) H
theorem flat_get {xs : List V} (h : xs.all flatV = true) {i : Nat} {x : V} (e : xs[i]? = some x) : flatV x = true := List.all_eq_true.mp h x (List.mem_of_getElem? e)
theorem getD_of {α : Type} {xs : List α} {i : Nat} {x d : α} (e : xs[i]? = some x) : xs.getD i d = x := by rw [List.getD_eq_getElem?_getD,e]; rfl
theorem items_eqAt {A : Around} {s : Shared} {xs ys : List V} {us ws : List Value} (r : Vals xs us) (r' : Vals ys ws) (fx : xs.all flatV = true) (fy : ys.all flatV = true) :
  ∀ j (h1 : j < us.toArray.size) (h2 : j < ws.toArray.size),SeqAt.EqAt A s us.toArray[j] ws.toArray[j] (eqV (xs.getD j .non) (ys.getD j .non)) := fun j h1 h2 => by
 have l1 := r.length
 have l2 := r'.length
 have h1' : j < us.length := by simpa using h1
 have h2' : j < ws.length := by simpa using h2
 have e1 : xs[j]? = some (xs[j]'(by omega)) := List.getElem?_eq_getElem _
 have e2 : ys[j]? = some (ys[j]'(by omega)) := List.getElem?_eq_getElem _
 obtain ⟨u,eu,ru⟩ := r.get e1
 obtain ⟨w',ew,rw'⟩ := r'.get e2
 rw [getD_of e1,getD_of e2]
 have q1 : us.toArray[j] = u := by
  rw [List.getElem?_eq_getElem h1'] at eu
  simpa using Option.some.inj eu
 have q2 : ws.toArray[j] = w' := by
  rw [List.getElem?_eq_getElem h2'] at ew
  simpa using Option.some.inj ew
 rw [q1,q2]
 exact eqAt_V ru rw' (flat_get fx e1) (flat_get fy e2)
theorem op_eqL (hu : X.A.units < cLine) : OpR X (compareOp .Eq) (rEqL X.K false) := by
 intro pins s σ H x y v u Q I rx ry h
 obtain ⟨a,b,xs,ys,rfl,rfl,ha,hb,fx,fy,q⟩ := h
 cases rx
 cases ry
 obtain ⟨its,r1,p1,_⟩ := I.list ha
 obtain ⟨its2,r2,p2,_⟩ := I.list hb
 have l1 := r1.length
 have l2 := r2.length
 by_cases e : xs.length = ys.length
 ·refine SeqAt.eq_listAt p1.isList p2.isList (by simp; omega) hu (items_eqAt r1 r2 fx fy) (fin_bl I q ?_)
  rw [← eqL_range e]
  simp [l1]
 ·refine SeqAt.eq_list_lengthsAt p1.isList p2.isList (by simp; omega) hu (fin_bl I q ?_)
  simp [eqL_len e]
theorem op_neL (hu : X.A.units < cLine) : OpR X (compareOp .NotEq) (rEqL X.K true) := by
 intro pins s σ H x y v u Q I rx ry h
 obtain ⟨a,b,xs,ys,rfl,rfl,ha,hb,fx,fy,q⟩ := h
 cases rx
 cases ry
 obtain ⟨its,r1,p1,_⟩ := I.list ha
 obtain ⟨its2,r2,p2,_⟩ := I.list hb
 have l1 := r1.length
 have l2 := r2.length
 by_cases e : xs.length = ys.length
 ·refine PySem.EqBoolInt.of_rcne (SeqAt.RcNeAt.lists p1.isList p2.isList (by simp; omega) hu (items_eqAt r1 r2 fx fy)) (fin_bl I q ?_)
  rw [← eqL_range e]
  simp [l1]
 ·refine PySem.EqBoolInt.of_rcne (SeqAt.RcNeAt.lists_lengths p1.isList p2.isList (by simp; omega) hu) (fin_bl I q ?_)
  simp [eqL_len e]
end
def Nx (n i : Nat) (P : Prop) : Prop := ∃ m',m' < n - i ∧ m' = n - (i + 1) ∧ i + 1 ≤ n ∧ P
theorem nx {n i : Nat} {P : Prop} (h : i < n) (p : P) : Nx n i P := ⟨_,by omega,rfl,h,p⟩
theorem comp_list {K : PySem.W.Frag} {a : Addr} {xs : List V} {g : TG} {tc : TT} {te : TE} {k : Nat} {js : List Nat} {σ : St} {H : Hp} {Fin : Hp → Prop} {D : Addr} (Pv : Nat → List V → Hp → Prop) (h0 : Pv 0 [] (upd H D (.lst [])))
  (hl : ∀ i ys H,i ≤ xs.length → Pv i ys H → SqL K H a xs) (hd : ∀ ys H,Pv xs.length ys H → H D = some (.lst ys) → Fin H)
  (hs : ∀ i x ys H,xs[i]? = some x → Pv i ys H → H D = some (.lst ys) → g x (List.replicate k none ++ cap js σ) H fun σ2 H2 => σ2.drop k = cap js σ ∧ tc σ2 H2 fun b H3 =>
   if b = true then te σ2 H3 fun y H4 => H4 D = some (.lst ys) ∧ ys.length < sizeLine ∧ Nx xs.length i (Pv (i + 1) (ys ++ [y]) (upd H4 D (.lst (ys ++ [y])))) else H3 D = some (.lst ys) ∧ Nx xs.length i (Pv (i + 1) ys H3)) :
  ∃ W : Nat → Nat → List V → Hp → Prop,(∃ m,W 0 m [] (upd H D (.lst []))) ∧ ∀ i m ys H,W i m ys H → H D = some (.lst ys) →
  ((Itl K a).stop i H ∧ Fin H) ∨ ((Itl K a).go i H ∧ ∀ x H',(Itl K a).yld i H x H' → g x (List.replicate k none ++ cap js σ) H' fun σ2 H2 => σ2.drop k = cap js σ ∧ tc σ2 H2 fun b H3 =>
   if b = true then te σ2 H3 fun y H4 => H4 D = some (.lst ys) ∧ ys.length < sizeLine ∧ ∃ m',m' < m ∧ W (i + 1) m' (ys ++ [y]) (upd H4 D (.lst (ys ++ [y])))
   else H3 D = some (.lst ys) ∧ ∃ m',m' < m ∧ W (i + 1) m' ys H3) := by
 refine ⟨fun i m ys H => m = xs.length - i ∧ i ≤ xs.length ∧ Pv i ys H,⟨xs.length,by simp,Nat.zero_le _,h0⟩,?_⟩
 rintro i m ys H ⟨rfl,hi,p⟩ hD
 have q := hl i ys H hi p
 by_cases hlt : i < xs.length
 ·refine .inr ⟨⟨xs,xs[i],q,by simp [hlt]⟩,fun x H' y => ?_⟩
  obtain ⟨e,y⟩ := y
  subst e
  exact hs i x ys _ (y xs q) p hD
 ·have e : i = xs.length := by omega
  subst e
  exact .inl ⟨⟨xs,q,Nat.le_refl _⟩,hd ys H p hD⟩
theorem comp_tup {K : PySem.W.Frag} {a : Addr} {xs : List V} {g : TG} {tc : TT} {te : TE} {k : Nat} {js : List Nat} {σ : St} {H : Hp} {Fin : Hp → Prop} {D : Addr} (Pv : Nat → List V → Hp → Prop) (h0 : Pv 0 [] (upd H D (.lst [])))
  (hl : ∀ i ys H,i ≤ xs.length → Pv i ys H → SqT K H a xs) (hd : ∀ ys H,Pv xs.length ys H → H D = some (.lst ys) → Fin H)
  (hs : ∀ i x ys H,xs[i]? = some x → Pv i ys H → H D = some (.lst ys) → g x (List.replicate k none ++ cap js σ) H fun σ2 H2 => σ2.drop k = cap js σ ∧ tc σ2 H2 fun b H3 =>
   if b = true then te σ2 H3 fun y H4 => H4 D = some (.lst ys) ∧ ys.length < sizeLine ∧ Nx xs.length i (Pv (i + 1) (ys ++ [y]) (upd H4 D (.lst (ys ++ [y])))) else H3 D = some (.lst ys) ∧ Nx xs.length i (Pv (i + 1) ys H3)) :
  ∃ W : Nat → Nat → List V → Hp → Prop,(∃ m,W 0 m [] (upd H D (.lst []))) ∧ ∀ i m ys H,W i m ys H → H D = some (.lst ys) →
  ((Itt K a).stop i H ∧ Fin H) ∨ ((Itt K a).go i H ∧ ∀ x H',(Itt K a).yld i H x H' → g x (List.replicate k none ++ cap js σ) H' fun σ2 H2 => σ2.drop k = cap js σ ∧ tc σ2 H2 fun b H3 =>
   if b = true then te σ2 H3 fun y H4 => H4 D = some (.lst ys) ∧ ys.length < sizeLine ∧ ∃ m',m' < m ∧ W (i + 1) m' (ys ++ [y]) (upd H4 D (.lst (ys ++ [y])))
   else H3 D = some (.lst ys) ∧ ∃ m',m' < m ∧ W (i + 1) m' ys H3) := by
 refine ⟨fun i m ys H => m = xs.length - i ∧ i ≤ xs.length ∧ Pv i ys H,⟨xs.length,by simp,Nat.zero_le _,h0⟩,?_⟩
 rintro i m ys H ⟨rfl,hi,p⟩ hD
 have q := hl i ys H hi p
 by_cases hlt : i < xs.length
 ·refine .inr ⟨⟨xs,xs[i],q,by simp [hlt]⟩,fun x H' y => ?_⟩
  obtain ⟨e,y⟩ := y
  subst e
  exact hs i x ys _ (y xs q) p hD
 ·have e : i = xs.length := by omega
  subst e
  exact .inl ⟨⟨xs,q,Nat.le_refl _⟩,hd ys H p hD⟩
theorem comp_range {lo : Int} {n : Nat} {g : TG} {tc : TT} {te : TE} {k : Nat} {js : List Nat} {σ : St} {H : Hp} {Fin : Hp → Prop} {D : Addr} (Pv : Nat → List V → Hp → Prop) (h0 : Pv 0 [] (upd H D (.lst [])))
  (hd : ∀ ys H,Pv n ys H → H D = some (.lst ys) → Fin H)
  (hs : ∀ i ys H,i < n → Pv i ys H → H D = some (.lst ys) → g (.int (lo + i)) (List.replicate k none ++ cap js σ) H fun σ2 H2 => σ2.drop k = cap js σ ∧ tc σ2 H2 fun b H3 =>
   if b = true then te σ2 H3 fun y H4 => H4 D = some (.lst ys) ∧ ys.length < sizeLine ∧ Nx n i (Pv (i + 1) (ys ++ [y]) (upd H4 D (.lst (ys ++ [y])))) else H3 D = some (.lst ys) ∧ Nx n i (Pv (i + 1) ys H3)) :
  ∃ W : Nat → Nat → List V → Hp → Prop,(∃ m,W 0 m [] (upd H D (.lst []))) ∧ ∀ i m ys H,W i m ys H → H D = some (.lst ys) →
  ((Itr lo n).stop i H ∧ Fin H) ∨ ((Itr lo n).go i H ∧ ∀ x H',(Itr lo n).yld i H x H' → g x (List.replicate k none ++ cap js σ) H' fun σ2 H2 => σ2.drop k = cap js σ ∧ tc σ2 H2 fun b H3 =>
   if b = true then te σ2 H3 fun y H4 => H4 D = some (.lst ys) ∧ ys.length < sizeLine ∧ ∃ m',m' < m ∧ W (i + 1) m' (ys ++ [y]) (upd H4 D (.lst (ys ++ [y])))
   else H3 D = some (.lst ys) ∧ ∃ m',m' < m ∧ W (i + 1) m' ys H3) := by
 refine ⟨fun i m ys H => m = n - i ∧ i ≤ n ∧ Pv i ys H,⟨n,by simp,Nat.zero_le _,h0⟩,?_⟩
 rintro i m ys H ⟨rfl,hi,p⟩ hD
 by_cases hlt : i < n
 ·refine .inr ⟨hlt,fun x H' y => ?_⟩
  obtain ⟨e,y⟩ := y
  subst e y
  exact hs i ys _ hlt p hD
 ·have e : i = n := by omega
  subst e
  exact .inl ⟨Nat.le_refl _,hd ys H p hD⟩
def Its (x : Str) : It := ⟨fun i _ => i < x.cps.size,fun i H v H' => H' = H ∧ ∃ c,x.cps[i]? = some c ∧ v = .str ⟨#[c]⟩,fun i _ => x.cps.size ≤ i⟩
theorem turn_ascii {P : Program} {w : World} {K : PySem.W.Frag} {tg : Expr} (x : Str) (t : Tok) (it : Addr) : Turn P w K tg (Its x) [it] it (fun i h => h.IsStrIter it "str_ascii_iterator" x t i) where
 mem := by simp
 obj := fun i h st b hb => by
  have e : b = it := by simpa using hb
  subst e
  obtain ⟨o,e,c,d⟩ := st
  exact ⟨o,e,fun v z => by rw [d] at z; cases z⟩
 keep := fun i h h' st k => by
  obtain ⟨o,e,r⟩ := st
  exact ⟨o,k it (by simp) o e,r⟩
 item := by
  intro X hP hw hK hc i pins s σ H E I hf st hg
  subst hP hw hK
  have hg : i < x.cps.size := hg
  obtain ⟨f0,f1,f2,f3,f4,f5⟩ := hf it (by simp)
  refine wpAny_pyNext_ascii_item st (c := x.cps[i]) (by simp [hg]) fun h' st' sb => ?_
  have I1 : Inv X pins σ H { s with heap := h',toks := s.toks + 1 } := I.turned (t' := s.toks + 1) (fun b o hb e => (sb.2 b hb).trans e) f0 f1 f3 f4 f5
  obtain ⟨o,e,c,d⟩ := id st'
  exact ⟨_,rfl,go_of (s := { s with heap := h',toks := s.toks + 1 }) e c d (by decide) ⟨.str ⟨#[x.cps[i]]⟩,H,I1,⟨_,rfl⟩,⟨rfl,x.cps[i],by simp [hg],rfl⟩,st',fun b hb => (hf b hb).1⟩⟩
 done := by
  intro X hP hw hK hc i pins s σ H E I hf st hg
  subst hP hw hK
  have hg : x.cps.size ≤ i := hg
  obtain ⟨f0,f1,f2,f3,f4,f5⟩ := hf it (by simp)
  exact wpAny_pyNext_ascii_end (I.ok.hd hc) st (by simp; omega) fun h' eb => ⟨rfl,I.turned (t' := s.toks) (fun b o hb e => eb b o hb e) f0 f1 f3 f4 f5⟩
 self := fun _ _ _ _ _ st h => wpAny_pyIter_striter_ascii st h
theorem turn_wide {P : Program} {w : World} {K : PySem.W.Frag} {tg : Expr} (x : Str) (t : Tok) (it : Addr) : Turn P w K tg (Its x) [it] it (fun i h => h.IsStrIter it "str_iterator" x t i) where
 mem := by simp
 obj := fun i h st b hb => by
  have e : b = it := by simpa using hb
  subst e
  obtain ⟨o,e,c,d⟩ := st
  exact ⟨o,e,fun v z => by rw [d] at z; cases z⟩
 keep := fun i h h' st k => by
  obtain ⟨o,e,r⟩ := st
  exact ⟨o,k it (by simp) o e,r⟩
 item := by
  intro X hP hw hK hc i pins s σ H E I hf st hg
  subst hP hw hK
  have hg : i < x.cps.size := hg
  obtain ⟨f0,f1,f2,f3,f4,f5⟩ := hf it (by simp)
  refine wpAny_pyNext_wide_item st (c := x.cps[i]) (by simp [hg]) fun h' st' sb => ?_
  have I1 : Inv X pins σ H { s with heap := h',toks := s.toks + 1 } := I.turned (t' := s.toks + 1) (fun b o hb e => (sb.2 b hb).trans e) f0 f1 f3 f4 f5
  obtain ⟨o,e,c,d⟩ := id st'
  exact ⟨_,rfl,go_of (s := { s with heap := h',toks := s.toks + 1 }) e c d (by decide) ⟨.str ⟨#[x.cps[i]]⟩,H,I1,⟨_,rfl⟩,⟨rfl,x.cps[i],by simp [hg],rfl⟩,st',fun b hb => (hf b hb).1⟩⟩
 done := by
  intro X hP hw hK hc i pins s σ H E I hf st hg
  subst hP hw hK
  have hg : x.cps.size ≤ i := hg
  obtain ⟨f0,f1,f2,f3,f4,f5⟩ := hf it (by simp)
  exact wpAny_pyNext_wide_end (I.ok.hd hc) st (by simp; omega) fun h' eb => ⟨rfl,I.turned (t' := s.toks) (fun b o hb e => eb b o hb e) f0 f1 f3 f4 f5⟩
 self := fun _ _ _ _ _ st h => wpAny_pyIter_striter_wide st h
def iStr (tl : TE) : TI := fun σ H R => tl σ H fun x H1 => ∃ z,x = .str z ∧ R (Its z) H1
theorem pi_str {X : Cx} {tg l : Expr} {tl : TE} (hl : PE X l tl) : PI X tg l (iStr tl) := by
 intro pins s σ H R I h
 refine thn (hl pins s σ H _ I h) fun v s1 ⟨x,H1,I1,r1,q1⟩ => ?_
 obtain ⟨z,e,q⟩ := q1
 subst e
 obtain ⟨t,rfl⟩ := r1
 have hf : ∀ b ∈ [s1.heap.objs.size],FpOk X pins H1 b := fun b hb => by
  have e : b = s1.heap.objs.size := by simpa using hb
  subst e
  exact I1.fpOk (Nat.le_refl _) (I1.hok.fresh (Nat.le_refl _))
 cases ha : z.cps.all (· < 128) with
 | false => exact wpAny_pyIter_wide ha ⟨s1.heap.objs.size,[s1.heap.objs.size],_,_,H1,rfl,I1.kept (t' := s1.toks) fun b o e => Heap.get?_push_of_some _ e,turn_wide z t _,⟨_,Heap.get?_push_size _ rfl,rfl,rfl⟩,hf,q⟩
 | true => exact wpAny_pyIter_ascii ha ⟨s1.heap.objs.size,[s1.heap.objs.size],_,_,H1,rfl,I1.kept (t' := s1.toks) fun b o e => Heap.get?_push_of_some _ e,turn_ascii z t _,⟨_,Heap.get?_push_size _ rfl,rfl,rfl⟩,hf,q⟩
theorem comp_str {z : Str} {g : TG} {tc : TT} {te : TE} {k : Nat} {js : List Nat} {σ : St} {H : Hp} {Fin : Hp → Prop} {D : Addr} (Pv : Nat → List V → Hp → Prop) (h0 : Pv 0 [] (upd H D (.lst [])))
  (hd : ∀ ys H,Pv z.cps.size ys H → H D = some (.lst ys) → Fin H)
  (hs : ∀ i c ys H,z.cps[i]? = some c → Pv i ys H → H D = some (.lst ys) → g (.str ⟨#[c]⟩) (List.replicate k none ++ cap js σ) H fun σ2 H2 => σ2.drop k = cap js σ ∧ tc σ2 H2 fun b H3 =>
   if b = true then te σ2 H3 fun y H4 => H4 D = some (.lst ys) ∧ ys.length < sizeLine ∧ Nx z.cps.size i (Pv (i + 1) (ys ++ [y]) (upd H4 D (.lst (ys ++ [y])))) else H3 D = some (.lst ys) ∧ Nx z.cps.size i (Pv (i + 1) ys H3)) :
  ∃ W : Nat → Nat → List V → Hp → Prop,(∃ m,W 0 m [] (upd H D (.lst []))) ∧ ∀ i m ys H,W i m ys H → H D = some (.lst ys) →
  ((Its z).stop i H ∧ Fin H) ∨ ((Its z).go i H ∧ ∀ x H',(Its z).yld i H x H' → g x (List.replicate k none ++ cap js σ) H' fun σ2 H2 => σ2.drop k = cap js σ ∧ tc σ2 H2 fun b H3 =>
   if b = true then te σ2 H3 fun y H4 => H4 D = some (.lst ys) ∧ ys.length < sizeLine ∧ ∃ m',m' < m ∧ W (i + 1) m' (ys ++ [y]) (upd H4 D (.lst (ys ++ [y])))
   else H3 D = some (.lst ys) ∧ ∃ m',m' < m ∧ W (i + 1) m' ys H3) := by
 refine ⟨fun i m ys H => m = z.cps.size - i ∧ i ≤ z.cps.size ∧ Pv i ys H,⟨z.cps.size,by simp,Nat.zero_le _,h0⟩,?_⟩
 rintro i m ys H ⟨rfl,hi,p⟩ hD
 by_cases hlt : i < z.cps.size
 ·refine .inr ⟨hlt,fun v H' y => ?_⟩
  obtain ⟨e,c,hc,ev⟩ := y
  subst e ev
  exact hs i c ys _ hc p hD
 ·have e : i = z.cps.size := by omega
  subst e
  exact .inl ⟨Nat.le_refl _,hd ys H p hD⟩
structure Lk (K : PySem.W.Frag) (mg : Str → Option Value) (x : Str) (st : Stmt) (ps : List Str) (f : Addr) (fd : FuncData) : Prop where
 F : Fun K x x st f fd
 m : mg x = some (.ref f)
 b : Binds K fd ps []
structure Callee (P : Program) (w : World) (K : PySem.W.Frag) (mg : Str → Option Value) (base : Heap) (x : Str) (ps : List Str) (k : Nat) (sp : Sp) : Prop where
 ex : ∃ (f : Addr) (fd : FuncData),FnOk P w K mg base CX0 k f fd ps sp ∧ mg x = some (.ref f) ∧ PySem.W.keepIn K (.ref f) = true ∧ Binds K fd ps []
theorem Lk.callee {P : Program} {w : World} {K : PySem.W.Frag} {mg : Str → Option Value} {base : Heap} {x : Str} {st : Stmt} {ps : List Str} {f : Addr} {fd : FuncData} {k : Nat} {sp : Sp} (L : Lk K mg x st ps f fd) (h : FnOk P w K mg base CX0 k f fd ps sp) : Callee P w K mg base x ps k sp :=
 ⟨f,fd,h,L.m,L.F.kp,L.b⟩
theorem pe_callee {X : Cx} {k : Nat} {ps : List Str} {sp : Sp} {x : Str} {p pos : Pos} {e : Expr} {es : List Expr} {t : TA} (C : Callee X.prog X.w X.K X.mg X.base x ps k sp) (hr : Room k X.A) (hg : Gl X x)
  (ha : PA X (e :: es) t) (hdb : (x == ("__debug__" : Str)) = false := by decide) (he : starEach (e :: es) X.env = (false,eval e X.env) :: starEach es X.env := by rfl) (hpl : (backTo pos (starEach es X.env)).any (·.1) = false := by rfl) :
  PE X (.Call (.Name x p) (e :: es) [] pos) (tCall sp [] E0 t) := by
 obtain ⟨f,fd,F,hm,hk,hb⟩ := C.ex
 exact pe_call F hr hg hm hk hb .nil pass0 ha hdb he hpl
theorem hu0 {A : Around} {k : Nat} (hr : Room k A) : A.units < cLine := hr.units0
theorem lk_mk {K : PySem.W.Frag} {h : Heap} {mg : Str → Option Value} {x : Str} {st : Stmt} {ps : List Str} {f : Addr} {oc : Value} {od an : Option Addr} {osl : Array (Option Value)} {kV doc pm cdv ct : Value} (X : K.In h) (G : h.Ns mainGlobals mg)
  (a : PySem.W.nsIn K mainGlobals x = some (some (.ref f))) (l : K.lookup f = some ⟨oc,od,.func (PySem.W.fnOf x x (defArgs st) (defBody st) (defScope st) .none kV doc pm an cdv ct),osl⟩)
  (c : PySem.W.codeIn K cdv x = true) (k : PySem.W.keepIn K (.ref f) = true)
  (hb : ∀ (kV doc pm : Value) (an : Option Addr) (cdv ct : Value) (us : List Value),us.length = ps.length → bindArgs (PySem.W.fnOf x x (defArgs st) (defBody st) (defScope st) .none kV doc pm an cdv ct) ⟨us,[]⟩ = pure (ps.zip us)) : ∃ f fd,Lk K mg x st ps f fd :=
 ⟨f,_,fun_mk l c k,PySem.W.mg_of X G a,(fun_mk l c k).binds hb⟩
end L2
end
section
namespace L2
open PySem PySem.Spec PyProof.Rows
section
variable {X : Cx} {tg : Expr}
theorem ix_listK (K : PySem.W.Frag) (h : X.K = K) : IxR X (rIxL K) := by
 subst h
 exact ix_list
theorem ix_tupK (K : PySem.W.Frag) (h : X.K = K) : IxR X (rIxT K) := by
 subst h
 exact ix_tup
end
structure QE (X : Cx) (e : Expr) (t : TE) : Prop where
 p : PE X e t
structure QA (X : Cx) (es : List Expr) (t : TA) : Prop where
 p : PA X es t
structure QS (X : Cx) (s : Stmt) (t : TS) : Prop where
 p : PS X s t
structure QB (X : Cx) (b : List Stmt) (t : TS) : Prop where
 p : PSs X b t
section
variable {X : Cx}
theorem qa_nil : QA X [] tNil := ⟨pa_nil⟩
theorem qa_cn {e : Expr} {es : List Expr} {te : TE} {t : TA} (ha : QE X e te) (hr : QA X es t) (hs : isStar e = false := by rfl) : QA X (e :: es) (tCons te t) := ⟨pa_cn ha.p hr.p hs⟩
theorem qb_nil : QB X [] tNext := ⟨pss_nil⟩
theorem qb_one {s : Stmt} {t : TS} (h : QS X s t) : QB X [s] t := ⟨pss_one h.p⟩
theorem qb_cn {s : Stmt} {b : List Stmt} {t u : TS} (h : QS X s t) (r : QB X b u) : QB X (s :: b) (tSeq t u) := ⟨pss_cons h.p r.p⟩
end
end L2
end
section
namespace L2
open PySem PyProof.Rows
structure QT (X : Cx) (e : Expr) (t : TT) : Prop where
 p : PT X e t
structure QW (X : Cx) (e : Expr) (t : TT) : Prop where
 p : PW X e t
structure QI (X : Cx) (g i : Expr) (t : TI) : Prop where
 p : PI X g i t
structure QG (X : Cx) (e : Expr) (t : TG) : Prop where
 p : PG X e t
structure QGs (X : Cx) (es : List Expr) (t : TGs) : Prop where
 p : PGs X es t
structure QTs (X : Cx) (es : List Expr) (t : TT) : Prop where
 p : PTs X es t
structure QO (X : Cx) (e : Option Expr) (t : TO) : Prop where
 p : PO X e t
theorem qv : ∀ {X : Cx} (i : Nat) {x : Str} {pos : Pos},
 autoParam (X.N[i]? = some x) pv._auto_1 →
  autoParam (Vis X.env.scope x) pv._auto_2 →
   autoParam ((x == Str.ofString "__debug__") = false) pv._auto_3 →
    autoParam ((x == Str.ofString "__classdict__") = false) pv._auto_4 → QE X (Expr.Name x pos) (tVar i) := by
 intro X i x pos h0 h1 h2 h3
 exact ⟨pv i h0 h1 h2 h3⟩
theorem qe_int : ∀ {X : Cx} {i : Int} {j : Nat} {pos : Pos},QE X (Expr.Constant (Const.int i) j pos) (tC (V.int i)) :=
 ⟨pe_int ⟩
theorem qe_bl : ∀ {X : Cx} {b : Bool} {j : Nat} {pos : Pos},QE X (Expr.Constant (Const.bool b) j pos) (tC (V.bl b)) :=
 ⟨pe_bl ⟩
theorem qe_str : ∀ {X : Cx} {x : Str} {j : Nat} {pos : Pos},QE X (Expr.Constant (Const.str x) j pos) (tC (V.str x)) :=
 ⟨pe_str ⟩
theorem qe_non : ∀ {X : Cx} {j : Nat} {pos : Pos},QE X (Expr.Constant Const.none j pos) (tC V.non) :=
 ⟨pe_non ⟩
theorem qe_glob : ∀ {X : Cx} {x : Str} {v : V} {u : Value} {pos : Pos},
 Gl X x →
  X.mg x = some u →
   RelV v u → autoParam ((x == Str.ofString "__debug__") = false) pe_glob._auto_1 → QE X (Expr.Name x pos) (tC v) :=
 fun h0 h1 h2 h3 => ⟨pe_glob h0 h1 h2 h3⟩
theorem qe_bltn : ∀ {X : Cx} {x : Str} {v : V} {u : Value} {pos : Pos},
 Gl X x →
  X.mg x = none →
   bootBuiltins x = some u →
    RelV v u →
     autoParam (x ≠ Str.ofString "__name__") pe_bltn._auto_1 →
      autoParam ((x == Str.ofString "__debug__") = false) pe_bltn._auto_2 → QE X (Expr.Name x pos) (tC v) :=
 fun h0 h1 h2 h3 h4 h5 => ⟨pe_bltn h0 h1 h2 h3 h4 h5⟩
theorem qe_op : ∀ {X : Cx} {a b : Expr} {ta tb : TE} {pos : Pos} {op : Operator} {r : R2},
 OpR X (binaryOp op) r → QE X a ta → QE X b tb → QE X (a.BinOp op b pos) (tOp r ta tb) :=
 fun h0 h1 h2 => ⟨pe_op h0 h1.p h2.p⟩
theorem qe_un : ∀ {X : Cx} {a : Expr} {ta : TE} {pos : Pos} {op : UnaryOp} {r : V → Hp → VK → Prop},
 UnR X (unaryOp op) r → QE X a ta → QE X (Expr.UnaryOp op a pos) (tUn r ta) :=
 fun h0 h1 => ⟨pe_un h0 h1.p⟩
theorem qe_not : ∀ {X : Cx} {a : Expr} {ta : TE} {pos : Pos},QE X a ta → QE X (Expr.UnaryOp UnaryOp.Not a pos) (tNotV ta) :=
 fun h0 => ⟨pe_not h0.p⟩
theorem qe_and : ∀ {X : Cx} {a b : Expr} {ta tb : TE} {pos : Pos} {rest : List Expr},
 QE X a ta →
  QE X (Expr.BoolOp BoolOp.And (b :: rest) pos) tb → QE X (Expr.BoolOp BoolOp.And (a :: b :: rest) pos) (tAndV ta tb) :=
 fun h0 h1 => ⟨pe_and h0.p h1.p⟩
theorem qe_one : ∀ {X : Cx} {a : Expr} {pos : Pos} {op : BoolOp} {t : TE},QE X a t → QE X (Expr.BoolOp op [a] pos) t :=
 fun h0 => ⟨pe_one h0.p⟩
theorem qe_ifExp : ∀ {X : Cx} {a b : Expr} {ta tb : TE} {pos : Pos} {tA : TT} {c : Expr},
 QT X c tA → QE X a ta → QE X b tb → QE X (c.IfExp a b pos) (tIf tA ta tb) :=
 fun h0 h1 h2 => ⟨pe_ifExp h0.p h1.p h2.p⟩
theorem qe_slice : ∀ {X : Cx} {e : Expr} {te : TE} {lo hi : Option Expr} {tl th : TO} {pos p2 : Pos}
 {r : V → Option Int → Option Int → Hp → VK → Prop},
 SlR X r → QE X e te → QO X lo tl → QO X hi th → QE X (e.Subscript (Expr.Slice lo hi none p2) pos) (tSl r te tl th) :=
 fun h0 h1 h2 h3 => ⟨pe_slice h0 h1.p h2.p h3.p⟩
theorem qo_none : ∀ {X : Cx},QO X none tNoPart :=
 ⟨po_none ⟩
theorem qo_some : ∀ {X : Cx} {e : Expr} {te : TE},QE X e te → QO X (some e) (tPart te) :=
 fun h0 => ⟨po_some h0.p⟩
theorem qe_ix : ∀ {X : Cx} {a b : Expr} {ta tb : TE} {pos : Pos} {r : R2},
 IxR X r → QE X a ta → QE X b tb → PlainIx b → QE X (a.Subscript b pos) (tOp r ta tb) :=
 fun h0 h1 h2 h3 => ⟨pe_ix h0 h1.p h2.p h3⟩
theorem qe_lst : ∀ {X : Cx} {es : List Expr} {t : TA} {pos : Pos},QA X es t → QE X (Expr.List es pos) (tLst t) :=
 fun h0 => ⟨pe_lst h0.p⟩
theorem qe_tup : ∀ {X : Cx} {es : List Expr} {t : TA} {pos : Pos} {x1 : Nat},QA X es t → QE X (Expr.Tuple es x1 pos) (tTup t) :=
 fun h0 => ⟨pe_tup h0.p⟩
theorem qe_callee : ∀ {X : Cx} {k : Nat} {ps : List Str} {sp : Sp} {x : Str} {p pos : Pos} {e : Expr} {es : List Expr}
 {t : TA},
 Callee X.prog X.w X.K X.mg X.base x ps k sp →
  Room k X.A →
   Gl X x →
    QA X (e :: es) t →
     autoParam ((x == Str.ofString "__debug__") = false) pe_callee._auto_1 →
      autoParam (starEach (e :: es) X.env = (false,eval e X.env) :: starEach es X.env) pe_callee._auto_2 →
       autoParam (((backTo pos (starEach es X.env)).any fun (x : Bool × Sem Value) => x.fst) = false)
         pe_callee._auto_3 →
        QE X ((Expr.Name x p).Call (e :: es) [] pos) (tCall sp [] E0 t) :=
 fun h0 h1 h2 h3 h4 h5 h6 => ⟨pe_callee h0 h1 h2 h3.p h4 h5 h6⟩
theorem qe_callTy : ∀ {X : Cx} {x : Str} {p pos : Pos} {e : Expr} {es : List Expr} {t : TA} {T : String}
 {r : List V → Hp → VK → Prop},
 CallR X (Value.type T) r →
  Gl X x →
   X.mg x = none →
    bootBuiltins x = some (Value.type T) →
     QA X (e :: es) t →
      autoParam (x ≠ Str.ofString "__name__") pe_callTy._auto_1 →
       autoParam ((x == Str.ofString "__debug__") = false) pe_callTy._auto_2 →
        autoParam (starEach (e :: es) X.env = (false,eval e X.env) :: starEach es X.env) pe_callTy._auto_3 →
         autoParam (((backTo pos (starEach es X.env)).any fun (x : Bool × Sem Value) => x.fst) = false)
           pe_callTy._auto_4 →
          QE X ((Expr.Name x p).Call (e :: es) [] pos) (tCB r t) :=
 fun h0 h1 h2 h3 h4 h5 h6 h7 h8 => ⟨pe_callTy h0 h1 h2 h3 h4.p h5 h6 h7 h8⟩
theorem qe_callB : ∀ {X : Cx} {x : Str} {p pos : Pos} {e : Expr} {es : List Expr} {t : TA} {id : String}
 {r : List V → Hp → VK → Prop},
 CallR X (Value.builtin id) r →
  Gl X x →
   X.mg x = none →
    bootBuiltins x = some (Value.builtin id) →
     QA X (e :: es) t →
      autoParam (x ≠ Str.ofString "__name__") pe_callB._auto_1 →
       autoParam ((x == Str.ofString "__debug__") = false) pe_callB._auto_2 →
        autoParam (starEach (e :: es) X.env = (false,eval e X.env) :: starEach es X.env) pe_callB._auto_3 →
         autoParam (((backTo pos (starEach es X.env)).any fun (x : Bool × Sem Value) => x.fst) = false)
           pe_callB._auto_4 →
          QE X ((Expr.Name x p).Call (e :: es) [] pos) (tCB r t) :=
 fun h0 h1 h2 h3 h4 h5 h6 h7 h8 => ⟨pe_callB h0 h1 h2 h3 h4.p h5 h6 h7 h8⟩
theorem qe_bm : ∀ {X : Cx} {o e : Expr} {es : List Expr} {to : TE} {t : TA} {name : Str} {apos cpos : Pos} {T id : String}
 {r : V → List V → Hp → VK → Prop},
 PlainAttrs T →
  Slot T name id →
   typeOf (Value.builtin id) = pure (Value.type "method_descriptor") →
    MtR X id r →
     QE X o to →
      QA X (e :: es) t →
       autoParam (attributeBase o name X.env (eval o X.env) = eval o X.env) pe_bm._auto_1 →
        autoParam
          (((((backTo cpos (starEach (e :: es) X.env)).all fun (x : Bool × Sem Value) => !x.fst) &&
             (backToKw cpos (keywordEach [] X.env)).all fun (x : Option Str × Sem Value) =>
              x.fst.isSome) &&
            decide (((e :: es).length + ([] : List Keyword).length + if ([] : List Keyword).isEmpty = true then 0 else 1) < 30)) =
           true)
          pe_bm._auto_2 →
         autoParam ((apos.endLine == cpos.line) = true) pe_bm._auto_3 →
          autoParam (starEach (e :: es) X.env = (false,eval e X.env) :: starEach es X.env) pe_bm._auto_4 →
           autoParam (((backTo cpos (starEach es X.env)).any fun (x : Bool × Sem Value) => x.fst) = false)
             pe_bm._auto_5 →
            QE X ((o.Attribute name apos).Call (e :: es) [] cpos) (tBM X.K T r to t) :=
 fun h0 h1 h2 h3 h4 h5 h6 h7 h8 h9 h10 => ⟨pe_bm h0 h1 h2 h3 h4.p h5.p h6 h7 h8 h9 h10⟩
theorem qe_comp : ∀ {X : Cx} {elt tg iter : Expr} {ifs : List Expr} {scope : Scope} {pos : Pos} {wi : TI} {g : TG} {tc : TT}
 {te : TE} (own fr : List Str) (js : List Nat) (NX : List Str) (sn : List (Str × NameKind)),
 X.calm = true →
  QI X tg iter wi →
   (∀ (cl : List (Str × Addr)) (C : Addr) (s : Shared) (H : Hp) (fp : List Addr),
     QG (cxComp X scope cl C (own ++ fr) s H fp) tg g) →
    (∀ (cl : List (Str × Addr)) (C : Addr) (s : Shared) (H : Hp) (fp : List Addr),
      QTs (cxComp X scope cl C (own ++ fr) s H fp) ifs tc) →
     (∀ (cl : List (Str × Addr)) (C : Addr) (s : Shared) (H : Hp) (fp : List Addr),
       QE (cxComp X scope cl C (own ++ fr) s H fp) elt te) →
      autoParam (X.N = NX) pe_comp._auto_1 →
       autoParam (X.env.scope.names = sn) pe_comp._auto_2 →
        autoParam (scope.kind = ScopeKind.function) pe_comp._auto_3 →
         autoParam (capOk NX sn scope.names fr js = true) pe_comp._auto_4 →
          autoParam (scOk sn scope.names = true) pe_comp._auto_5 →
           autoParam (∀ (x : Value),foldedSetIterable iter X.env x = pure x) pe_comp._auto_6 →
            QE X (elt.ListComp [{ target := tg,iter := iter,ifs := ifs,is_async := 0 }] scope pos)
             (tComp wi g tc te own.length js) :=
 fun own fr js NX sn h0 h1 h2 h3 h4 h5 h6 h7 h8 h9 h10 => ⟨pe_comp own fr js NX sn h0 h1.p (fun a b c d e => (h2 a b c d e).p) (fun a b c d e => (h3 a b c d e).p) (fun a b c d e => (h4 a b c d e).p) h5 h6 h7 h8 h9 h10⟩
theorem qe_cmpR : ∀ {X : Cx} {a b : Expr} {ta tb : TE} {pos : Pos} {op : CmpOp} {r : R2},
 OpR X (compareOp op) r →
  QE X a ta → QE X b tb → behindInMarks op b = false → QE X (a.Compare [op] [b] pos) (tOp r ta tb) :=
 fun h0 h1 h2 h3 => ⟨pe_cmpR h0 h1.p h2.p h3⟩
theorem qe_chain : ∀ {X : Cx} {a b c : Expr} {ta tb tc : TE} {pos : Pos} {op op' : CmpOp} {r r' : R2},
 OpR X (compareOp op) r →
  OpR X (compareOp op') r' →
   QE X a ta →
    QE X b tb →
     QE X c tc →
      autoParam (lastMarks [op,op'] [b,c] = false) pe_chain._auto_1 →
       QE X (a.Compare [op,op'] [b,c] pos) (tChain r r' ta tb tc) :=
 fun h0 h1 h2 h3 h4 h5 => ⟨pe_chain h0 h1 h2.p h3.p h4.p h5⟩
theorem qt_cmpR : ∀ {X : Cx} {a b : Expr} {ta tb : TE} {pos : Pos} {op : CmpOp} {r : R2},
 OpR X (compareOp op) r →
  QE X a ta → QE X b tb → behindInMarks op b = false → QT X (a.Compare [op] [b] pos) (tTest (tOp r ta tb)) :=
 fun h0 h1 h2 h3 => ⟨pt_cmpR h0 h1.p h2.p h3⟩
theorem qt_chain : ∀ {X : Cx} {a b c : Expr} {ta tb tc : TE} {pos : Pos} {op op' : CmpOp} {r r' : R2},
 OpR X (compareOp op) r →
  OpR X (compareOp op') r' →
   QE X a ta →
    QE X b tb →
     QE X c tc →
      autoParam (lastMarks [op,op'] [b,c] = false) pt_chain._auto_1 →
       QT X (a.Compare [op,op'] [b,c] pos) (tTest (tChain r r' ta tb tc)) :=
 fun h0 h1 h2 h3 h4 h5 => ⟨pt_chain h0 h1 h2.p h3.p h4.p h5⟩
theorem qt_not : ∀ {X : Cx} {a : Expr} {pos : Pos} {tA : TT},QT X a tA → QT X (Expr.UnaryOp UnaryOp.Not a pos) (tNot tA) :=
 fun h0 => ⟨pt_not h0.p⟩
theorem qt_val : ∀ {X : Cx} {e : Expr} {t : TE},
 QE X e t →
  autoParam
    (∀ (whole : Sem Value),
     PySem.isTrue e X.env whole = do
      let v ← whole
      standAt e.pos
      holding [v] (truthy v))
    pt_val._auto_1 →
   QT X e (tB t) :=
 fun h0 h1 => ⟨pt_val h0.p h1⟩
theorem qw_pt : ∀ {X : Cx} {e : Expr} {t : TT},QW X e t → QT X e t :=
 fun h0 => ⟨PW.pt h0.p⟩
theorem qw_and : ∀ {X : Cx} {a b : Expr} {pos : Pos} {tA tB' : TT} {rest : List Expr},
 QT X a tA →
  QW X (Expr.BoolOp BoolOp.And (b :: rest) pos) tB' → QW X (Expr.BoolOp BoolOp.And (a :: b :: rest) pos) (tAnd tA tB') :=
 fun h0 h1 => ⟨pw_and h0.p h1.p⟩
theorem qw_or : ∀ {X : Cx} {a b : Expr} {pos : Pos} {tA tB' : TT} {rest : List Expr},
 QT X a tA →
  QW X (Expr.BoolOp BoolOp.Or (b :: rest) pos) tB' → QW X (Expr.BoolOp BoolOp.Or (a :: b :: rest) pos) (tOr tA tB') :=
 fun h0 h1 => ⟨pw_or h0.p h1.p⟩
theorem qw_and1 : ∀ {X : Cx} {a : Expr} {pos : Pos} {tA : TT},QT X a tA → QW X (Expr.BoolOp BoolOp.And [a] pos) tA :=
 fun h0 => ⟨pw_and1 h0.p⟩
theorem qw_or1 : ∀ {X : Cx} {a : Expr} {pos : Pos} {tA : TT},QT X a tA → QW X (Expr.BoolOp BoolOp.Or [a] pos) tA :=
 fun h0 => ⟨pw_or1 h0.p⟩
theorem qi_list : ∀ {X : Cx} {tg l : Expr} {tl : TE},QE X l tl → QI X tg l (iList X.K tl) :=
 fun h0 => ⟨pi_list h0.p⟩
theorem qi_tup : ∀ {X : Cx} {tg l : Expr} {tl : TE},QE X l tl → QI X tg l (iTup X.K tl) :=
 fun h0 => ⟨pi_tup h0.p⟩
theorem qi_range1 : ∀ {X : Cx} {tg a : Expr} {ta : TA} {p pos : Pos},
 Gl X (Str.ofString "range") →
  X.mg (Str.ofString "range") = none →
   QA X [a] ta →
    autoParam (starEach [a] X.env = [(false,eval a X.env)]) pi_range1._auto_1 →
     QI X tg ((Expr.Name (Str.ofString "range") p).Call [a] [] pos) (iRng1 ta) :=
 fun h0 h1 h2 h3 => ⟨pi_range1 h0 h1 h2.p h3⟩
theorem qi_str : ∀ {X : Cx} {tg l : Expr} {tl : TE},QE X l tl → QI X tg l (iStr tl) :=
 fun h0 => ⟨pi_str h0.p⟩
theorem qg_name : ∀ {X : Cx} {pos : Pos} {i : Nat} {x : Str},
 X.N.Nodup →
  X.N[i]? = some x →
   Loc X.env.scope x →
    autoParam (X.fn x = true ∨ List.lookup x X.env.scope.names = some NameKind.local) pg_name._auto_1 →
     QG X (Expr.Name x pos) (gName i) :=
 fun h0 h1 h2 h3 => ⟨pg_name h0 h1 h2 h3⟩
theorem qg_tup : ∀ {X : Cx} {pos : Pos} {es : List Expr} {k : Nat} {t : TGs} {n : Nat},
 X.calm = true →
  QGs X es t →
   autoParam ((assignEach es X.env).length = n) pg_tup._auto_1 →
    autoParam (List.findIdx? (fun (x : Bool × (Value → Sem Unit)) => x.fst) (assignEach es X.env) = none)
      pg_tup._auto_2 →
     QG X (Expr.Tuple es k pos) (gTup X.K n t) :=
 fun h0 h1 h2 h3 => ⟨pg_tup h0 h1.p h2 h3⟩
theorem qgs_nil : ∀ {X : Cx},QGs X [] gNil :=
 ⟨pgs_nil ⟩
theorem qgs_cons : ∀ {X : Cx} {e : Expr} {es : List Expr} {t : TG} {u : TGs},
 QG X e t →
  QGs X es u →
   autoParam
     (List.map (fun (x : Bool × (Value → Sem Unit)) => x.snd) (assignEach (e :: es) X.env) =
      assign e X.env :: List.map (fun (x : Bool × (Value → Sem Unit)) => x.snd) (assignEach es X.env))
     pgs_cons._auto_1 →
    QGs X (e :: es) (gCons t u) :=
 fun h0 h1 h2 => ⟨pgs_cons h0.p h1.p h2⟩
theorem qts_nil : ∀ {X : Cx},QTs X [] tAlways :=
 ⟨pts_nil ⟩
theorem qts_one : ∀ {X : Cx} {c : Expr} {t : TT},QT X c t → QTs X [c] t :=
 fun h0 => ⟨pts_one h0.p⟩
theorem qs_ret : ∀ {X : Cx} {e : Expr} {te : TE} {pos : Pos},QE X e te → QS X (Stmt.Return (some e) pos) (tRet te) :=
 fun h0 => ⟨ps_ret h0.p⟩
theorem qs_set : ∀ {X : Cx} {pos : Pos} {i : Nat} {x : Str} {e : Expr} {te : TE} {pos' : Pos},
 X.N.Nodup →
  X.N[i]? = some x →
   Loc X.env.scope x →
    QE X e te →
     autoParam (swapsWith e (some (Expr.Name x pos')) pos.line X.env = pure false) ps_set._auto_1 →
      autoParam (X.fn x = true ∨ List.lookup x X.env.scope.names = some NameKind.local) ps_set._auto_2 →
       QS X (Stmt.Assign [Expr.Name x pos'] e pos) (tAsg te (gName i)) :=
 fun h0 h1 h2 h3 h4 h5 => ⟨ps_set h0 h1 h2 h3.p h4 h5⟩
theorem qs_asg : ∀ {X : Cx} {pos : Pos} {tg e : Expr} {te : TE} {g : TG},
 QE X e te →
  QG X tg g →
   autoParam (swapsWithSole [tg] e pos.line X.env = pure false) ps_asg._auto_1 →
    autoParam (swappedStores [tg] e X.env = pure none) ps_asg._auto_2 →
     autoParam
       (List.map (fun (x : Bool × (Value → Sem Unit)) => x.snd) (assignEach [tg] X.env) = [assign tg X.env])
       ps_asg._auto_3 →
      QS X (Stmt.Assign [tg] e pos) (tAsg te g) :=
 fun h0 h1 h2 h3 h4 => ⟨ps_asg h0.p h1.p h2 h3 h4⟩
theorem qg_sub : ∀ {X : Cx} {pos : Pos} {o i : Expr} {to ti : TE} {t : TSet},
 QE X o to →
  QE X i ti →
   PSet X t →
    autoParam
      (∀ (v : Value),
       assign (o.Subscript i pos) X.env v = do
        let ov ← holding [v] (eval o X.env)
        let iv ← holding [v,ov] (eval i X.env)
        standAt pos
        holding [v,ov,iv] (setItem ov iv v)
        release [v,ov,iv] [])
      pg_sub._auto_1 →
     QG X (o.Subscript i pos) (gSub to ti t) :=
 fun h0 h1 h2 h3 => ⟨pg_sub h0.p h1.p h2 h3⟩
theorem qs_fld : ∀ {X : Cx} {o value : Expr} {f : Str} {pos pos' : Pos} {ta tv : TE},
 QE X o ta →
  QE X value tv →
   swapsWith value (some (o.Attribute f pos')) pos.line X.env = pure false →
    QS X (Stmt.Assign [o.Attribute f pos'] value pos) (sFld X.K ta tv f) :=
 fun h0 h1 h2 => ⟨ps_fld h0.p h1.p h2⟩
theorem qs_augS : ∀ {X : Cx} {pos : Pos} {o i e : Expr} {to ti te : TE} {tget : V → V → Hp → VK → Prop} {tip : TIp}
 {tset : TSet} {op : Operator} {tpos : Pos},
 QE X o to →
  QE X i ti →
   PGet X tget →
    QE X e te →
     PIp X op tip →
      PSet X tset →
       autoParam
         (∀ (ov iv new : Value),
          augStore i ov iv new = do
           holding [new,ov,iv] (setItem ov iv new)
           release [new,ov,iv] []
           pure Flow.next)
         ps_augS._auto_1 →
        QS X (Stmt.AugAssign (o.Subscript i tpos) op e pos) (tAugS to ti te tget tip tset) :=
 fun h0 h1 h2 h3 h4 h5 h6 => ⟨ps_augS h0.p h1.p h2 h3.p h4 h5 h6⟩
theorem qs_if : ∀ {X : Cx} {t u : TS} {pos : Pos} {c : Expr} {a b : List Stmt} {tc : TT},
 QT X c tc → QB X a t → QB X b u → QS X (Stmt.If c a b pos) (tIfS tc t u) :=
 fun h0 h1 h2 => ⟨ps_if h0.p h1.p h2.p⟩
theorem qs_for : ∀ {X : Cx} {tg iter : Expr} {body : List Stmt} {wi : TI} {g : TG} {tb : TS} {pos : Pos},
 PassesOwn (model X.prog X.w) X.A X.env X.xe →
  X.calm = true →
   QI X tg iter wi →
    QG X tg g →
     QB X body tb →
      autoParam (∀ (x : Value),foldedSetIterable iter X.env x = pure x) ps_for._auto_1 →
       QS X (Stmt.For tg iter body [] pos) (tFor wi g tb) :=
 fun h0 h1 h2 h3 h4 h5 => ⟨ps_for h0 h1 h2.p h3.p h4.p h5⟩
theorem qs_while : ∀ {X : Cx} {pos : Pos} {c : Expr} {body : List Stmt} {tc : TT} {tb : TS},
 PassesOwn (model X.prog X.w) X.A X.env X.xe →
  QT X c tc → QB X body tb → QS X (Stmt.While c body [] pos) (tWhile tc tb) :=
 fun h0 h1 h2 => ⟨ps_while h0 h1.p h2.p⟩
theorem qs_expr : ∀ {X : Cx} {e : Expr} {te : TE} {pos : Pos},
 QE X e te →
  autoParam (swapsWith e none pos.line X.env = pure false) ps_expr._auto_1 → QS X (Stmt.Expr e pos) (tDrop te) :=
 fun h0 h1 => ⟨ps_expr h0.p h1⟩
theorem qs_comp : ∀ {X : Cx} {i : Nat} {y : Str} {py spos : Pos} {elt tg iter : Expr} {ifs : List Expr} {scope : Scope}
 {pos : Pos} {wi : TI} {g : TG} {tc : TT} {te : TE} (own fr : List Str) (js : List Nat) (NX : List Str)
 (sn : List (Str × NameKind)),
 X.calm = true →
  X.N.Nodup →
   X.N[i]? = some y →
    Loc X.env.scope y →
     QI X tg iter wi →
      (∀ (cl : List (Str × Addr)) (C : Addr) (s : Shared) (H : Hp) (fp : List Addr),
        QG (cxComp X scope cl C (own ++ fr) s H fp) tg g) →
       (∀ (cl : List (Str × Addr)) (C : Addr) (s : Shared) (H : Hp) (fp : List Addr),
         QTs (cxComp X scope cl C (own ++ fr) s H fp) ifs tc) →
        (∀ (cl : List (Str × Addr)) (C : Addr) (s : Shared) (H : Hp) (fp : List Addr),
          QE (cxComp X scope cl C (own ++ fr) s H fp) elt te) →
         autoParam
           (swapsWith (elt.ListComp [{ target := tg,iter := iter,ifs := ifs,is_async := 0 }] scope pos)
             (some (Expr.Name y py)) spos.line X.env =
            pure true)
           ps_comp._auto_1 →
          autoParam (X.N = NX) ps_comp._auto_2 →
           autoParam (X.env.scope.names = sn) ps_comp._auto_3 →
            autoParam (scope.kind = ScopeKind.function) ps_comp._auto_4 →
             autoParam (capOk NX sn scope.names fr js = true) ps_comp._auto_5 →
              autoParam (scOk sn scope.names = true) ps_comp._auto_6 →
               autoParam (∀ (x : Value),foldedSetIterable iter X.env x = pure x) ps_comp._auto_7 →
                autoParam (X.fn y = true ∨ List.lookup y X.env.scope.names = some NameKind.local)
                  ps_comp._auto_8 →
                 QS X
                  (Stmt.Assign [Expr.Name y py]
                   (elt.ListComp [{ target := tg,iter := iter,ifs := ifs,is_async := 0 }] scope
                    pos)
                   spos)
                  (tAsg (tComp wi g tc te own.length js) (gName i)) :=
 fun own fr js NX sn h0 h1 h2 h3 h4 h5 h6 h7 h8 h9 h10 h11 h12 h13 h14 h15 => ⟨ps_comp own fr js NX sn h0 h1 h2 h3 h4.p (fun a b c d e => (h5 a b c d e).p) (fun a b c d e => (h6 a b c d e).p) (fun a b c d e => (h7 a b c d e).p) h8 h9 h10 h11 h12 h13 h14 h15⟩
end L2
end
section
namespace L2
open PySem PySem.Spec PyProof.Rows
section
variable {prog : Program} {w : World} {A : Around} {R : Result → Shared → Prop} {it0 : Addr} {fp wr : List Addr} {n : Nat} {P : Nat → Value → Prop} {St : Nat → Heap → Prop} {kw : List (Str × Value)}
end
section
variable {prog : Program} {w : World} {A : Around} {E : Value → Shared → Prop} {s : Shared}
end
section
variable {prog : Program} {w : World} {A : Around} {R : Result → Shared → Prop} {it0 : Addr} {fp wr : List Addr} {n : Nat} {P : Nat → Value → Prop} {St : Nat → Heap → Prop} {kw : List (Str × Value)}
end
section
variable {prog : Program} {w : World} {A : Around} {E : Value → Shared → Prop} {s : Shared}
end
section
variable {X : Cx} {e ed : Expr} {ta : TA} {td : TE} {p pos kp : Pos}
end
section
variable {X : Cx} {e ed : Expr} {ta : TA} {td : TE} {p pos kp : Pos}
end
section
variable {X : Cx} {e es : Expr} {te ts : TE} {p2 pos : Pos}
end
section
variable {X : Cx}
end
section
variable {X : Cx} {e ed es : Expr} {ta : TA} {td te ts : TE} {p p2 pos kp : Pos}
end
end L2
end
section
namespace L2
open PySem PySem.Spec PyProof.Rows
section
variable {X : Cx} {tg l e : Expr} {tl te : TE} {a b : Str} {j1 j2 : Nat} {p1 p2 p3 pos : Pos}
end
theorem call_int_text {X : Cx} : CallR X (.type "int") (fun xs H Q => ∃ (z : Str) (n : Int),xs = [.str z] ∧ PySem.intText? z = some n ∧ z.length ≤ 640 ∧ Q (.int n) H) := by
 intro pins s σ H xs us Q I r h
 obtain ⟨z,n,rfl,hn,hl,q⟩ := h
 obtain ⟨u,rfl,t,rfl⟩ := vals1 r
 exact PySem.W.KIN.call_text hn hl ⟨.int n,H,I.tok _,⟨_,rfl⟩,q⟩
end L2
end
section
namespace L2
open PySem PySem.Spec PyProof.Rows
structure MCallee (P : Program) (w : World) (K : PySem.W.Frag) (mg : Str → Option Value) (base : Heap) (C : Addr) (m : Str) (ps : List Str) (k : Nat) (sp : Sp) : Prop where
 ex : ∃ (f : Addr) (fd : FuncData),FnOk P w K mg base CX0 k f fd ps sp ∧ Meth K C m f ∧ Binds K fd ps []
structure MkC (P : Program) (w : World) (K : PySem.W.Frag) (mg : Str → Option Value) (base : Heap) (x : Str) (C : Addr) (ps : List Str) (k : Nat) (sp : Sp) : Prop where
 ex : ∃ (f : Addr) (fd : FuncData),Mk K C f ∧ FnOk P w K mg base CX0 k f fd ps sp ∧ mg x = some (.ref C) ∧ Binds K fd ps []
section
variable {X : Cx} {C : Addr} {m x f : Str} {ps : List Str} {k : Nat} {sp : Sp} {o e v : Expr} {es : List Expr} {ta tv : TE} {t : TA} {apos pos p tpos : Pos}
theorem qe_methC {pl : Sem Bool} (he : QE X o ta) (c : Cls X.K C) (M : MCallee X.prog X.w X.K X.mg X.base C m ps k sp) (hr : Room k X.A) (ha : QA X (e :: es) t)
  (hst : starEach (e :: es) X.env = (false,eval e X.env) :: starEach es X.env := by rfl) (hpl : (backTo pos (starEach es X.env)).any (·.1) = false := by rfl)
  (ht : eval (.Call (.Attribute o m apos) (e :: es) [] pos) X.env = (do
   let ov ← eval o X.env
   standAt apos.atName
   let (f,first) ← holding [ov] (getMethod ov m pl)
   callWith pos f first (backTo pos (starEach (e :: es) X.env)) (backToKw pos (keywordEach [] X.env))) := by rfl) :
  QE X (.Call (.Attribute o m apos) (e :: es) [] pos) (tMeth C m sp [] E0 ta t) := by
 obtain ⟨f,fd,F,hm,hb⟩ := M.ex
 exact ⟨pe_meth (pl := pl) he.p c hm F hr hb .nil pass0 ha.p hst hpl ht⟩
theorem qe_meth0C {pl : Sem Bool} (he : QE X o ta) (c : Cls X.K C) (M : MCallee X.prog X.w X.K X.mg X.base C m ps k sp) (hr : Room k X.A)
  (ht : eval (.Call (.Attribute o m apos) [] [] pos) X.env = (do
   let ov ← eval o X.env
   standAt apos.atName
   let (f,first) ← holding [ov] (getMethod ov m pl)
   callWith pos f first (backTo pos (starEach [] X.env)) (backToKw pos (keywordEach [] X.env))) := by rfl) :
  QE X (.Call (.Attribute o m apos) [] [] pos) (tMeth C m sp [] E0 ta tNil) := by
 obtain ⟨f,fd,F,hm,hb⟩ := M.ex
 exact ⟨pe_meth0 (pl := pl) he.p c hm F hr hb .nil pass0 ht⟩
theorem qe_makeC (M : MkC X.prog X.w X.K X.mg X.base x C ps k sp) (hr : Room (k + 1) X.A) (hg : Gl X x) (ha : QA X (e :: es) t) (hdb : (x == ("__debug__" : Str)) = false := by decide)
  (he : starEach (e :: es) X.env = (false,eval e X.env) :: starEach es X.env := by rfl) (hpl : (backTo pos (starEach es X.env)).any (·.1) = false := by rfl) : QE X (.Call (.Name x p) (e :: es) [] pos) (tMake C sp [] E0 t) := by
 obtain ⟨f,fd,hm,F,hx,hb⟩ := M.ex
 exact ⟨pe_make hm F hr hg hx hb .nil pass0 ha.p hdb he hpl⟩
theorem qe_fld (he : QE X e ta) (hb : attributeBase e f X.env (eval e X.env) = eval e X.env := by rfl) : QE X (.Attribute e f pos) (tFld X.K ta f) := ⟨pe_fld he.p hb⟩
theorem qs_fldaug {op : Operator} {rd : V → V → Hp → VK → Prop} (ha : QE X o ta) (hv : QE X v tv) (hop : InOp X op rd) : QS X (.AugAssign (.Attribute o f tpos) op v pos) (sFldAug X.K ta tv rd f) := ⟨ps_fldaug ha.p hv.p hop⟩
theorem op_le_str : OpR X (compareOp .LtE) (fun x y H Q => ∃ i j,x = .str i ∧ y = .str j ∧ Q (.bl (!decide (j.cps.toList < i.cps.toList))) H) := by
 intro pins s σ H x y v u Q I rx ry h
 obtain ⟨i,j,rfl,rfl,q⟩ := h
 obtain ⟨t,rfl⟩ := rx
 obtain ⟨t',rfl⟩ := ry
 exact PySem.P.le_str (fin_bl I q rfl)
end
def S (l : List Nat) : Str := ⟨l.toArray⟩
theorem S_len (l : List Nat) : (S l).length = l.length := by show l.toArray.size = _; simp
theorem slice_ab (l : List Nat) {a b : Nat} (h : a ≤ b) (h2 : b ≤ l.length) : Txt.slice (S l) (some (a : Int)) (some (b : Int)) = S ((l.drop a).take (b - a)) := by
 unfold Txt.slice
 rw [S_len,StrLaws.strSliceIndices_plain h h2]
 have hp := pick_run (S l).cps a (b - a)
 have e : (S l).cps.toList = l := by show l.toArray.toList = l; simp
 rw [e] at hp
 split
 ·rename_i q
  simp only [BEq.rfl,Bool.true_and,beq_iff_eq,List.length_map,List.length_range] at q
  have h0 : a = 0 := by omega
  have h1 : b = l.length := by omega
  rw [h0,h1,List.drop_zero,Nat.sub_zero,List.take_of_length_le (Nat.le_refl _)]
 ·rw [hp]
  rfl
theorem slice_1 (l : List Nat) {n : Nat} (h : n ≤ l.length) : Txt.slice (S l) (some (n : Int)) (some ((n : Int) + 1)) = S ((l.drop n).take 1) := by
 by_cases q : n < l.length
 ·have := slice_ab l (a := n) (b := n + 1) (by omega) (by omega)
  rw [show ((n + 1 : Nat) : Int) = (n : Int) + 1 by omega,show n + 1 - n = 1 by omega] at this
  exact this
 ·have e : n = l.length := by omega
  subst e
  rw [List.drop_of_length_le (Nat.le_refl _)]
  unfold Txt.slice
  rw [S_len]
  have e0 : Builtin.Str.strSliceIndices (some (l.length : Int)) (some ((l.length : Int) + 1)) 1 l.length = [] := by
   unfold Builtin.Str.strSliceIndices sliceRange
   simp
   omega
  rw [e0]
  split
  ·rename_i z
   simp at z
   have : l = [] := List.eq_nil_of_length_eq_zero z.symm
   rw [this]
   rfl
  ·rfl
end L2
end
section
namespace L2
open PySem PySem.Spec PyProof.Rows
section
variable {prog : Program} {w : World} {A : Around} {E : Value → Shared → Prop} {s : Shared}
end
section
variable {X : Cx} {pos : Pos}
end
end L2
end
section
namespace L2
open PySem PySem.Spec PyProof.Rows
section
variable {X : Cx} {pins : List (Addr × Obj)} {σ : St} {H : Hp} {s : Shared}
theorem TyOf.kit {x : V} {u t : Value} (I : Inv X pins σ H s) (rx : RelV x u) (ty : TyOf X.K H x t) : ∃ Hq : Heap → Prop,PySem.W.KitX X.K u t Hq ∧ Hq s.heap ∧ u ≠ .builtin "__main__.__loader__#opaque" := by
 cases ty with
 | non => cases (show u = Value.none from rx); exact ⟨_,PySem.W.kitx_none,True.intro,fun z => nomatch z⟩
 | bl y => cases (show u = Value.bool y from rx); exact ⟨_,PySem.W.kitx_bool,True.intro,fun z => nomatch z⟩
 | int i => obtain ⟨t,q⟩ := (show ∃ t,u = Value.int i t from rx); cases q; exact ⟨_,PySem.W.kitx_int,True.intro,fun z => nomatch z⟩
 | str y => obtain ⟨t,q⟩ := (show ∃ t,u = Value.str y t from rx); cases q; exact ⟨_,PySem.W.kitx_str,True.intro,fun z => nomatch z⟩
 | flt y => obtain ⟨t,q⟩ := (show ∃ t,u = Value.float y t from rx); cases q; exact ⟨_,PySem.W.kitx_float,True.intro,fun z => nomatch z⟩
 | @lst a xs ea =>
  cases (show u = Value.ref a from rx)
  obtain ⟨_,_,n,_,h1⟩ := (show ObjOk X.prog X.w H s.heap a (.lst xs) from I.hok a _ ea)
  exact ⟨_,PySem.W.kitx_list,⟨_,h1,rfl⟩,fun z => nomatch z⟩
 | @frz a ob xs ea =>
  cases (show u = Value.ref a from rx)
  obtain ⟨_,_,_,n,_,h1⟩ := (show ObjOk X.prog X.w H s.heap a (.frz ob (.lst xs)) from I.hok a _ ea)
  exact ⟨_,PySem.W.kitx_list,⟨_,h1,rfl⟩,fun z => nomatch z⟩
 | @tup a xs ea =>
  cases (show u = Value.ref a from rx)
  obtain ⟨_,_,_,p⟩ := (show ObjOk X.prog X.w H s.heap a (.tup xs) from I.hok a _ ea)
  obtain ⟨o,h1,h2,_⟩ := p
  exact ⟨_,PySem.W.kitx_tuple,⟨o,h1,h2⟩,fun z => nomatch z⟩
 | @dK a kvs ea =>
  cases (show u = Value.ref a from rx)
  obtain ⟨_,_,vs,_,p⟩ := (show ObjOk X.prog X.w H s.heap a (.dK kvs) from I.hok a _ ea)
  obtain ⟨o,es,ep,h1,h2,_⟩ := p
  exact ⟨_,PySem.W.kitx_dict,⟨o,h1,h2.1⟩,fun z => nomatch z⟩
 | @dT a kvs ea =>
  cases (show u = Value.ref a from rx)
  obtain ⟨_,_,xs,_,o,es,ep,h1,h2,_⟩ := (show ObjOk X.prog X.w H s.heap a (.dT kvs) from I.hok a _ ea)
  exact ⟨_,PySem.W.kitx_dict,⟨o,h1,h2.1⟩,fun z => nomatch z⟩
 | @ins a C dx fs ea cl ha hn htk hm =>
  cases (show u = Value.ref a from rx)
  obtain ⟨mA,O,_⟩ := ins_get I.hok ea
  obtain ⟨od,J,_⟩ := O.look
  exact ⟨_,PySem.W.kitx_own (cl.get _) cl.hd ha hn htk hm,J,fun z => nomatch z⟩
theorem tys_of : ∀ {ns : List String} {us : List Value},Vals (ns.map V.ty) us → us = ns.map Value.type
 | [],us,r => by cases r; rfl
 | n :: ns,us,r => by
  cases r with
  | cons h t =>
   rw [tys_of t]
   cases (show _ = Value.type n from h)
   rfl
theorem call_isinstT : CallR X (.builtin "isinstance") (fun xs H Q => ∃ (x : V) (a : Addr) (ns : List String) (t : Value) (b : Bool),xs = [x,.ref a] ∧ H a = some (.tup (ns.map V.ty)) ∧ TyOf X.K H x t ∧ PySem.W.kitAny X.K t (ns.map Value.type) = some b ∧ Q (.bl b) H) := by
 intro pins s σ H xs us Q I r h
 obtain ⟨x,a,ns,t,b,rfl,ea,ty,e,q⟩ := h
 obtain ⟨u,w',rfl,ru,rw'⟩ := vals2 r
 cases (show w' = Value.ref a from rw')
 obtain ⟨Hq,Z,hq,ne⟩ := ty.kit I ru
 obtain ⟨_,vs,rv,p⟩ := (show ObjOk X.prog X.w H s.heap a (.tup (ns.map V.ty)) from I.hok a _ ea)
 obtain ⟨o,h1,h2,n,h3⟩ := p
 obtain ⟨oc,od,ob,osl⟩ := o
 cases (show oc = _ from h2)
 cases (show ob = _ from h3)
 cases tys_of rv
 exact PySem.W.kia_tup Z I.kIn hq h1 e ne fun tk => ⟨.bl b,H,I.tok tk,rfl,q⟩
theorem ix_seqK (K : PySem.W.Frag) (h : X.K = K) : IxR X (rIx K) := by
 subst h
 exact ix_seq
end
end L2
end
section
set_option maxHeartbeats 2000000
namespace L2
open PySem PySem.Spec PyProof.Rows
structure MkN (K : PySem.W.Frag) (mg : Str → Option Value) (x : Str) (C : Addr) : Prop where
 makes : PySem.W.makesIn K C = true
 init : PySem.W.findIn K (.ref C) "__init__" = some (some (.builtin "object.__init__"))
 kp : PySem.W.keepIn K (.ref C) = true
 mg : mg x = some (.ref C)
def tMakeN (C : Addr) : TE := fun _ H Q => ∀ x dx,H x = none → H dx = none → dx ≠ x → Q (.ref x) (upd (upd H dx (.own x)) x (.ins C dx []))
section
variable {X : Cx} {C : Addr} {x : Str} {p pos apos : Pos}
theorem run_makeN {pins : List (Addr × Obj)} {σ : St} {H : Hp} {s : Shared} {Q : VK} (hm : PySem.W.makesIn X.K C = true) (hi : PySem.W.findIn X.K (.ref C) "__init__" = some (some (.builtin "object.__init__"))) (I : Inv X pins σ H s)
  (h : ∀ x dx,H x = none → H dx = none → dx ≠ x → Q (.ref x) (upd (upd H dx (.own x)) x (.ins C dx []))) : wpAny (model X.prog X.w) X.A (call (.ref C) []) (EP X pins σ Q) X.xe s := by
 have hq := h (s.heap.objs.size + 1) s.heap.objs.size (I.hok.fresh (Nat.le_succ _)) (I.hok.fresh (Nat.le_refl _)) (Nat.ne_of_lt (Nat.lt_succ_self _))
 have I2 := Inv.made (C := C) I
 have e2 : ((s.heap.push PySem.W.emptyDict).push (PySem.W.instObj C s.heap.objs.size)).get? (s.heap.objs.size + 1) = some (PySem.W.instObj C s.heap.objs.size) := by
  have e1 : (s.heap.push PySem.W.emptyDict).objs.size = s.heap.objs.size + 1 := Heap.size_push ..
  rw [← e1]
  exact Heap.get?_push_size _ rfl
 have ty : PySem.W.Looks (model X.prog X.w) ((s.heap.push PySem.W.emptyDict).push (PySem.W.instObj C s.heap.objs.size)) (typeOf (.ref (s.heap.objs.size + 1))) (.ref C) := (PySem.W.Looks.ld e2).andThen .now
 have isO : PySem.W.Looks (model X.prog X.w) ((s.heap.push PySem.W.emptyDict).push (PySem.W.instObj C s.heap.objs.size)) (isInstance (.ref (s.heap.objs.size + 1)) (.type "object")) true :=
  ty.andThen ((PySem.W.makes_of (M := model X.prog X.w) I.kIn hm).top.keeps fun b o e => Heap.get?_push_of_some _ (Heap.get?_push_of_some _ e))
 refine wpAny_call (make_map0 I.kIn hm hi (fun self => PySem.W.Looks.of_pure (PySem.W.oi_bind self)) ?_)
 refine codeAny_call_builtin PySem.W.oi_plain PySem.W.entry_oi ?_
 refine @PySem.W.check_slot (model X.prog X.w) _ _ _ "object.__init__" "object" "__init__" (.ref (s.heap.objs.size + 1)) [] [] _ PySem.W.oi_kind PySem.W.oi_split isO (PySem.W.oi_args (.ref (s.heap.objs.size + 1))) ?_
 rw [PySem.W.oi_run]
 exact wpAny_pure ⟨rfl,⟨V.ref (s.heap.objs.size + 1),_,I2,rfl,hq⟩⟩
theorem qe_makeN (M : MkN X.K X.mg x C) (hg : Gl X x) (hdb : (x == ("__debug__" : Str)) = false := by decide) : QE X (.Call (.Name x p) [] [] pos) (tMakeN C) := ⟨by
 intro pins s σ H Q I h
 refine wpAny_Call_Name_kw (ld_glob I hg M.mg ?_ hdb)
 exact PySem.W.callWith_K0 I.kIn M.kp (run_makeN M.makes M.init I h)⟩
structure Fam (P : Program) (w : World) (K : PySem.W.Frag) (mg : Str → Option Value) (base : Heap) (C : Nat → Addr) (n : Nat) (m : Str) (ps : List Str) (k : Nat) (sp : Nat → Sp) : Prop where
 cl : ∀ i,i < n → Cls K (C i)
 me : ∀ i,i < n → MCallee P w K mg base (C i) m ps k (sp i)
def tFam (C : Nat → Addr) (n : Nat) (m : Str) (sp : Nat → Sp) (ta : TE) (t : TA) : TE := fun σ H Q => ta σ H fun x H1 => ∃ i a dx fs,i < n ∧ x = .ref a ∧ H1 a = some (.ins (C i) dx fs) ∧ fs.lookup m = none ∧ t σ H1 fun vs H2 => sp i (x :: vs) H2 Q E0
variable {C : Nat → Addr} {n : Nat} {m : Str} {ps : List Str} {k : Nat} {sp : Nat → Sp} {o e : Expr} {es : List Expr} {ta : TE} {t : TA}
theorem qe_fam {pl : Sem Bool} (he : QE X o ta) (F : Fam X.prog X.w X.K X.mg X.base C n m ps k sp) (hr : Room k X.A) (ha : QA X (e :: es) t)
  (hst : starEach (e :: es) X.env = (false,eval e X.env) :: starEach es X.env := by rfl) (hpl : (backTo pos (starEach es X.env)).any (·.1) = false := by rfl)
  (ht : eval (.Call (.Attribute o m apos) (e :: es) [] pos) X.env = (do
   let ov ← eval o X.env
   standAt apos.atName
   let (f,first) ← holding [ov] (getMethod ov m pl)
   callWith pos f first (backTo pos (starEach (e :: es) X.env)) (backToKw pos (keywordEach [] X.env))) := by rfl) :
  QE X (.Call (.Attribute o m apos) (e :: es) [] pos) (tFam C n m sp ta t) := ⟨by
 intro pins s σ H Q I h
 refine PySem.W.methodCall_KW (pl := pl) (thn (he.p pins s σ H _ I h) fun u s1 ⟨x,H1,I1,rx,i,a,dx,fs,hi,ex,ea,l,q⟩ => ?_) ht
 subst ex
 obtain rfl : u = Value.ref a := rx
 obtain ⟨f,fd,Fk,hm,hb⟩ := (F.me i hi).ex
 refine getmeth_ok I1 ea (F.cl i hi) hm l ?_
 refine PySem.W.callWith_K (first := [.ref a]) (h₀ := X.base) I.ok.mod.kin hm.kp (thn (ha.p pos pins s1 σ H1 _ I1 q) fun us s2 ⟨vs,H2,I2,r,q2⟩ => ⟨I2.kIn,?_⟩) hst hpl
 refine run_fn (us := .ref a :: us) (vs := .ref a :: vs) (dvs := []) (ds := []) Fk hr hb .nil pass0 I2 (.cons rfl r) ?_
 rw [List.append_nil]
 exact q2⟩
theorem qe_fam0 {pl : Sem Bool} (he : QE X o ta) (F : Fam X.prog X.w X.K X.mg X.base C n m ps k sp) (hr : Room k X.A)
  (ht : eval (.Call (.Attribute o m apos) [] [] pos) X.env = (do
   let ov ← eval o X.env
   standAt apos.atName
   let (f,first) ← holding [ov] (getMethod ov m pl)
   callWith pos f first (backTo pos (starEach [] X.env)) (backToKw pos (keywordEach [] X.env))) := by rfl) :
  QE X (.Call (.Attribute o m apos) [] [] pos) (tFam C n m sp ta tNil) := ⟨by
 intro pins s σ H Q I h
 refine PySem.W.methodCall_KW (pl := pl) (thn (he.p pins s σ H _ I h) fun u s1 ⟨x,H1,I1,rx,i,a,dx,fs,hi,ex,ea,l,q⟩ => ?_) ht
 subst ex
 obtain rfl : u = Value.ref a := rx
 obtain ⟨f,fd,Fk,hm,hb⟩ := (F.me i hi).ex
 refine getmeth_ok I1 ea (F.cl i hi) hm l ?_
 exact PySem.W.callWith_K0 (first := [.ref a]) I1.kIn hm.kp (run_fn (us := [.ref a]) (vs := [.ref a]) (dvs := []) (ds := []) Fk hr hb .nil pass0 I1 (.cons rfl .nil) q)⟩
end
end L2
end
section
namespace L2
open PySem PySem.Spec PyProof.Rows
def ExcO (x : Addr) (cls : Value) (dx tb : Option Addr) (h : Heap) : Prop :=
 ∃ vs : Array Value,h.get? x = some { cls := cls,dict := dx,data := .fields vs } ∧ vs[1]? = some (tb.elim Value.none Value.ref)
def TbO (T : Addr) (fl : Value) (h : Heap) : Prop := ∃ (oT : Obj) (ts : Array Value),h.get? T = some oT ∧ oT.data = .fields ts ∧ ts[3]? = some fl
abbrev hE (x : Addr) (cls : Value) (dx tb : Option Addr) : HO := .ext (ExcO x cls dx tb)
abbrev hT (T : Addr) (fl : Value) : HO := .ext (TbO T fl)
section
variable {P : Program} {w : World} {H : Hp} {h : Heap} {x T : Addr} {cls fl : Value} {dx tb : Option Addr}
theorem hE_ok (e : ExcO x cls dx tb h) : ObjOk P w H h x (hE x cls dx tb) :=
 ⟨e,let ⟨_,q,_⟩ := e; ⟨_,q⟩,fun h1 h2 ⟨vs,q,r⟩ k => ⟨vs,k _ q,r⟩⟩
theorem hT_ok (e : TbO T fl h) : ObjOk P w H h T (hT T fl) :=
 ⟨e,let ⟨_,_,q,_⟩ := e; ⟨_,q⟩,fun h1 h2 ⟨o,ts,q,r⟩ k => ⟨o,ts,k _ q,r⟩⟩
end
structure Fly (H : Hp) (x : Addr) (cls : Value) (dx tb : Option Addr) : Prop where
 ex : H x = some (hE x cls dx tb)
 tr : ∀ T,tb = some T → H T = some (hT T .none) ∧ T ≠ x
theorem upd_id {H : Hp} {a : Addr} {o : HO} (e : H a = some o) : upd H a o = H := by
 funext b; unfold upd; split
 ·rename_i z; rw [z,e]
 ·rfl
section
variable {X : Cx} {pins : List (Addr × Obj)} {σ : St} {H : Hp} {s : Shared} {M : Model} {A : Around} {E : Value → Shared → Prop} {x T : Addr} {cls fl : Value} {dx tb : Option Addr}
theorem Inv.exc (I : Inv X pins σ H s) (e : H x = some (hE x cls dx tb)) : ExcO x cls dx tb s.heap := (I.hok x _ e).1
theorem Inv.tbo (I : Inv X pins σ H s) (e : H T = some (hT T fl)) : TbO T fl s.heap := (I.hok T _ e).1
theorem tb_set {Q : Unit → Shared → Prop} {v : Value} (I : Inv X pins σ H s) (e : H T = some (hT T fl)) (h : ∀ s',Inv X pins σ (upd H T (hT T v)) s' → Q () s') : wpAny M A (setField (.ref T) 3 v) Q E s := by
 obtain ⟨oT,ts,ho,hd,h3⟩ := I.tbo e
 have hsz : 3 < ts.size := (Array.getElem?_eq_some_iff.mp h3).1
 have hd' := Obj.data_mapFields hd (·.setIfInBounds 3 v)
 have hs' := Heap.get?_update_self (Obj.mapFields (·.setIfInBounds 3 v)) ho (Obj.isFreed_of_fields hd')
 refine wpAny_setField ho hd hsz (h _ ?_)
 exact I.write (t' := s.toks) (by rw [e]; trivial) (.inl rfl) (fun b u hb q => (Heap.get?_update_other _ _ (Ne.symm hb)).trans q) ⟨_,hs'⟩ (hT_ok ⟨_,_,hs',hd',by simp [hsz]⟩)
theorem ex_set {Q : Unit → Shared → Prop} (I : Inv X pins σ H s) (e : H x = some (hE x cls dx tb)) (h : ∀ s',Inv X pins σ (upd H x (hE x cls dx (some T))) s' → Q () s') : wpAny M A (setField (.ref x) 1 (.ref T)) Q E s := by
 obtain ⟨vs,ho,h1⟩ := I.exc e
 have hsz : 1 < vs.size := (Array.getElem?_eq_some_iff.mp h1).1
 have hs' := Heap.get?_update_self (Obj.mapFields (·.setIfInBounds 1 (.ref T))) ho rfl
 refine wpAny_setField ho rfl hsz (h _ ?_)
 refine I.write (t' := s.toks) (by rw [e]; trivial) (.inl rfl) (fun b u hb q => (Heap.get?_update_other _ _ (Ne.symm hb)).trans q) ⟨_,hs'⟩ (hE_ok ⟨_,hs',by simp [hsz]⟩)
theorem fr_ok {Q : Value → Shared → Prop} (I : Inv X pins σ H s) (hst : X.stack = X.env :: X.outer) (hf : X.env.frame = some X.env.locals) (hA : A.frames = X.A.frames)
  (h : ∀ s',Inv X pins σ H s' → Q (.ref X.env.locals) s') : wpAny M A (frameOf X.env) Q E s := by
 have hs := I.stack
 have hfr := I.ok.frames
 rw [hst] at hs hfr
 refine wpAny_frameOf_fun (hA.trans hfr) hs hf fun h' so => h _ ?_
 have hfs : (X.env :: X.outer).filterMap (·.frame) = frs X.stack := by rw [hst]; rfl
 rw [hfs] at so
 obtain ⟨-,s1,s2⟩ := so
 have ne : ∀ b o,H b = some o → b ∉ frs X.stack := fun b o q z => by rw [I.stkFree b z] at q; cases q
 refine I.call (g' := s.gens) (t' := s.toks) (d' := s.drawn) (ch := []) ⟨fun b o q _ nf _ => (s1 b nf).trans q,fun b o q _ _ _ => s2 b o q,fun _ _ _ q _ => q,fun b o q _ => ⟨_,(s2 b o q).choose_spec⟩,fun _ _ q => q,fun _ _ _ q => q,fun b ps q => ⟨#[],by rw [q]; simp⟩⟩ (fun b o q => ?_) I.bare (fun _ z => nomatch z)
 refine (I.hok b o q).stay (fun c u hc e => (s1 c ?_).trans e) (fun _ q => q) fun _ _ q => q
 rcases hc with rfl | hc
 ·exact ne _ _ q
 ·exact ne _ _ hc
theorem note_ok {Q : Unit → Shared → Prop} (I : Inv X pins σ H s) (hst : X.stack = X.env :: X.outer) (hf : X.env.frame = some X.env.locals) (hA : A.frames = X.A.frames) (fl : Fly H x cls dx tb)
  (h : ∀ s' T',H T' = none → T' ≠ x → Inv X pins σ (upd (upd H T' (hT T' (rawInt X.env.locals))) x (hE x cls dx (some T'))) s' → Q () s') : wpAny M A (noteFrame (.ref x) X.env) Q E s := by
 obtain ⟨fx,ft⟩ := fl
 have tail : ∀ (s1 : Shared) (head : Value) (b : Bool),Inv X pins σ H s1 → wpAny M A (do let a ← frameOf X.env; let pl ← entryPlaceOf X.env.locals b; let c ← EntryCells.newEntry head a .none (rawInt X.env.locals) .none pl; setField (.ref x) 1 c) Q E s1 := fun s1 head b I1 => by
  refine wpAny_bind (fr_ok I1 hst hf hA fun s2 I2 => wpAny_bind (wpAny_entryPlaceOf fun pl hpl => ?_))
  unfold EntryCells.newEntry newFields
  refine wpAny_bind (wpAny_newObj_type ?_ (hpl.sizeOk5 _ _ _ _ _))
  have nx : s2.heap.objs.size ≠ x := Nat.ne_of_gt (I2.hok.lt fx)
  have I3 : Inv X pins σ (upd H s2.heap.objs.size (hT s2.heap.objs.size (rawInt X.env.locals))) { s2 with heap := s2.heap.push { cls := .type "traceback",dict := none,data := .fields ([head,.ref X.env.locals,.none,rawInt X.env.locals,.none] ++ (if pl.isEmpty then List.replicate 6 Value.none else pl)).toArray } } :=
   I2.laid (t' := s2.toks) (fun b u e => Heap.get?_push_of_some _ e) (Nat.le_refl _) (hT_ok ⟨_,_,Heap.get?_push_size _ rfl,rfl,by first | (simp; done) | (rcases hpl with rfl | ⟨_,_,_,_,_,_,_,rfl⟩ <;> simp)⟩)
  refine ex_set I3 (by rw [upd_ne (Ne.symm nx)]; exact fx) fun s4 I4 => h s4 _ (I2.hok.fresh (Nat.le_refl _)) nx I4
 obtain ⟨vs,ho,h1⟩ := I.exc fx
 unfold noteFrame
 simp only [hf]
 refine wpAny_bind (wpAny_field ho rfl h1 ?_)
 cases tb with
 | none => rw [if_neg (by decide)]; exact tail s _ _ I
 | some T =>
  obtain ⟨fT,nT⟩ := ft T rfl
  obtain ⟨oT,ts,hoT,hdT,h3⟩ := I.tbo fT
  rw [show (some T : Option Addr).elim Value.none Value.ref = Value.ref T from rfl,if_pos (show (Value.ref T != Value.none) = true from by simp)]
  refine wpAny_bind (wpAny_field hoT hdT h3 ?_)
  rw [if_neg (show ¬ ((Value.none == rawInt X.env.locals) = true) from by simp [rawInt])]
  refine wpAny_bind (tb_set I fT fun s1 I1 => ?_)
  rw [upd_id fT] at I1
  exact tail s1 _ _ I1
theorem land_ok {Q : Unit → Shared → Prop} (I : Inv X pins σ H s) (fx : H x = some (hE x cls dx (some T))) (fT : H T = some (hT T fl)) (h : ∀ s',Inv X pins σ (upd H T (hT T .none)) s' → Q () s') : wpAny M A (setFlight (.ref x) none) Q E s := by
 obtain ⟨vs,ho,h1⟩ := I.exc fx
 unfold setFlight
 refine wpAny_bind (wpAny_field ho rfl h1 ?_)
 rw [show (some T : Option Addr).elim Value.none Value.ref = Value.ref T from rfl,if_pos (show (Value.ref T != Value.none) = true from by simp)]
 exact tb_set I fT h
structure Flown (H H' : Hp) (x : Addr) (cls : Value) (dx : Option Addr) (T : Addr) : Prop where
 ex : H' x = some (hE x cls dx (some T))
 tr : H' T = some (hT T .none)
 ne : T ≠ x
 new : H T = none
 same : ∀ b,b ≠ x → b ≠ T → H' b = H b
theorem Flown.fly {H H' : Hp} (f : Flown H H' x cls dx T) : Fly H' x cls dx (some T) := ⟨f.ex,fun T' e => by cases e; exact ⟨f.tr,f.ne⟩⟩
theorem leave_ok {Q : Unit → Shared → Prop} (I : Inv X pins σ H s) (hst : X.stack = X.env :: X.outer) (hf : X.env.frame = some X.env.locals) (hA : A.frames = X.A.frames) (fl : Fly H x cls dx tb)
  (h : ∀ s' T' H',Flown H H' x cls dx T' → Inv X pins σ H' s' → Q () s') : wpAny M A (leaving X.env (.ref x)) Q E s := by
 unfold leaving
 refine wpAny_bind (note_ok I hst hf hA fl fun s1 T' hn ne I1 => ?_)
 refine land_ok I1 upd_same (by rw [upd_ne ne,upd_same]) fun s2 I2 => h s2 T' _ ⟨?_,upd_same,ne,hn,fun b b1 b2 => ?_⟩ I2
 ·rw [upd_ne (Ne.symm ne),upd_same]
 ·rw [upd_ne b2,upd_ne b1,upd_ne b2]
end
end L2
end
section
namespace L2
open PySem PySem.Spec PyProof.Rows
abbrev bmV : List Value := [.type "ValueError",.type "Exception",.type "BaseException",.type "object"]
def onlyVal : List Value → Bool
 | [] => false
 | v :: r => (v :: r) == bmV || match v with | .ref _ => onlyVal r | _ => false
theorem refuse_val (self : Value) : ∀ {l : List Value},onlyVal l = true → PySem.refuseLoop self "__setattr__" l = pure ()
 | [],e => by cases e
 | v :: r,e => by
  unfold onlyVal at e
  rcases Bool.or_eq_true_iff.mp e with q | q
  ·rw [beq_iff_eq.mp q]; exact PySem.F.store_ValueError.passes self
  ·split at q
   ·rw [refuseLoop_ref]; exact refuse_val self q
   ·cases q
theorem val_has {T : String} (hT : bmV.contains (.type T) = true) : ∀ {l : List Value},onlyVal l = true → l.contains (.type T) = true
 | [],e => by cases e
 | v :: r,e => by
  unfold onlyVal at e
  rcases Bool.or_eq_true_iff.mp e with q | q
  ·rw [beq_iff_eq.mp q]; exact hT
  ·split at q
   ·rw [List.contains_cons,val_has hT q,Bool.or_true]
   ·cases q
def valOver (K : PySem.W.Frag) (C : Addr) : Bool := (PySem.W.clsIn K C).any fun cd => onlyVal cd.mro
structure XCls (K : PySem.W.Frag) (C : Addr) : Prop where
 hd : PySem.W.hasDictIn K C = true
 ov : valOver K C = true
 sa : PySem.W.findIn K (.ref C) "__setattr__" = some (some (.builtin "object.__setattr__"))
 ga : PySem.W.findIn K (.ref C) "__getattribute__" = some (some (.builtin "BaseException.__getattribute__"))
 gt : PySem.W.findIn K (.ref C) "__getattr__" = some none
 ty : PySem.W.typeIn K (.ref C) = some (.type "type")
 cl : PySem.W.findIn K (.ref C) "__class__" = some (some (.builtin "object.__class__"))
 cg : PySem.W.specialIn K (.builtin "object.__class__") "__get__" = some (some (.builtin "getset_descriptor.__get__"))
 ct : PySem.W.takesIn K (.builtin "object.__class__") = some true
 cm : PySem.W.mroIn K C (.type "object") = some true
section
variable {prog : Program} {w : World} {A : Around} {E : Value → Shared → Prop} {s : Shared} {K : PySem.W.Frag} {x dx C : Addr} {name : Str} {v : Value} {R : Result → Shared → Prop}
theorem val_inst {M : Model} {ox : Obj} {od : Option Obj} {T : String} (hT : bmV.contains (.type T) = true) (X : K.In s.heap) (I : PySem.W.InstAt s.heap x ox C od) (hp : valOver K C = true) : PySem.W.Looks M s.heap (isInstance (.ref x) (.type T)) true := by
 obtain ⟨cd,hc,ho⟩ := PySem.W.any_some hp
 have ne : cd.mro.isEmpty = false := by cases q : cd.mro with | nil => rw [q] at ho; cases ho | cons _ _ => rfl
 exact I.type.andThen (PySem.W.looks_mroIn X (by unfold PySem.W.mroIn; rw [hc,Option.bind_some,if_neg (by rw [ne]; decide),val_has hT ho]))
theorem osa_openV {ox : Obj} {od : Option Obj} {tk : Tok} (X : K.In s.heap) (I : PySem.W.InstAt s.heap x ox C od) (hp : valOver K C = true) (ht : PySem.W.findIn K (.ref C) name = some none)
  (h : ∀ b,wpAny (model prog w) A.in1 (Builtin.ObjectAttr.storeInOwnDict (.ref x) (.ref C) (.str name tk) name v b)
   (fun fin s' => match fin with | .done f => R (.ok f) s' | .again c' => c'.quiet = true ∧ codeAny (model prog w) A c' R s') (fun e s' => R (.error e) s') s) :
  codeAny (model prog w) A (.call (.builtin "object.__setattr__") ⟨[.ref x,.str name tk,v],[]⟩) R s := by
 have SF := PySem.F.store_object
 obtain ⟨cd,hc,ho⟩ := PySem.W.any_some hp
 refine codeAny_call_builtin SF.slot.plain SF.entry (PySem.W.check_slot (s := s) (i := "object.__setattr__") (owner := "object") (n := "__setattr__") (self := .ref x) (rest := [.str name tk,v]) (kw := []) SF.kind SF.split (val_inst (by decide) X I hp) (SF.args (.ref x) (.str name tk) v) ?_)
 have hm : PySem.W.Looks (model prog w) s.heap (mroOf (.ref C)) cd.mro := (PySem.W.looks_clsIn X hc).andThen .now
 rw [PySem.W.osa_eq,refuse_eq]
 refine wpAny_bind (wpAny_bind (I.type.here (wpAny_bind (hm.here ?_))))
 rw [refuse_val _ ho]
 refine wpAny_pure (wpAny_bind (I.type.here (wpAny_bind ((PySem.W.looks_findIn X ht).here (wpAny_bind (PySem.W.Looks.here (PySem.W.Looks.now (a := (none : Option Value))) ?_))))))
 exact h _
theorem set_exc {Q : Unit → Shared → Prop} {vs : Array Value} (X : K.In s.heap) (hx : s.heap.get? x = some { cls := .ref C,dict := none,data := .fields vs }) (c : XCls K C) (n : NoAttr K C name)
  (h : ∀ h',h'.Ns1 s.heap.objs.size (fun y => if y = name then some v else none) → h'.get? x = some { cls := .ref C,dict := some s.heap.objs.size,data := .fields vs } → (∀ b o,b ≠ x → s.heap.get? b = some o → h'.get? b = some o) → Q () { s with heap := h',toks := s.toks + 2 }) :
  wpAny (model prog w) A (setAttr (.ref x) name v) Q E s := by
 have J : PySem.W.InstAt s.heap x { cls := .ref C,dict := none,data := .fields vs } C none := ⟨hx,rfl,rfl,trivial⟩
 refine PySem.W.set_plain X J c.sa (osa_openV (s := { s with toks := s.toks + 1 }) X J c.ov n fun b => ?_)
 obtain ⟨cd,hc,hd'⟩ := PySem.W.any_some c.hd
 refine wpAny_bind (wpAny_pure (wpAny_bind (wpAny_bind (wpAny_loadPart hx (wpAny_bind (PySem.W.Looks.here (s := { s with toks := s.toks + 1 }) (PySem.W.looks_clsIn X hc) ?_))))))
 rw [hd']
 have hxs : x ≠ s.heap.objs.size := Nat.ne_of_lt (Heap.lt_size hx)
 have hx₁ : (s.heap.push { cls := .type "dict",data := .dict #[] }).get? x = some { cls := .ref C,dict := none,data := .fields vs } := Heap.get?_push_of_some _ hx
 refine wpAny_bind (wpAny_alloc ?_)
 refine wpAny_bind (wpAny_update hx₁ ?_)
 refine wpAny_pure ?_
 have hgd : ((s.heap.push { cls := .type "dict",data := .dict #[] }).update x fun o => { o with dict := some s.heap.objs.size }).get? s.heap.objs.size = some { cls := .type "dict",data := .dict #[] } :=
  (Heap.get?_update_ne _ _ _ _ hxs.symm).trans (Heap.get?_push_at rfl rfl)
 have hnd : ((s.heap.push { cls := .type "dict",data := .dict #[] }).update x fun o => { o with dict := some s.heap.objs.size }).Ns s.heap.objs.size (fun _ => none) :=
  ⟨_,#[],_,hgd,rfl,fun e he => absurd he (by simp),fun _ => rfl⟩
 show wpAny _ _ (Builtin.ObjectAttr.storeInDict s.heap.objs.size (.str name _) name v) _ _ _
 unfold Builtin.ObjectAttr.storeInDict Builtin.ObjectAttr.newKeyGuard
 refine wpAny_bind (wpAny_pure (wpAny_bind (wpAny_nsSet1 (Heap.Ns1.of_empty hnd) fun h' hn' hs => ?_)))
 obtain ⟨oD,esD,epD,hoD,hdD,hcD⟩ := hn'.count (Within.cons name v Within.nil)
 refine wpAny_bind (wpAny_lookBehind hoD (by rw [hdD]; exact pastItsLine_dict (Nat.le_trans hcD (by rw [List.length_cons,List.length_nil,sizeLine_eq]; omega))) ?_)
 refine wpAny_pure (h h' hn' ?_ fun b o hb q => ?_)
 ·exact (hs.2 x hxs).trans (Heap.get?_update_self _ hx₁ rfl)
 ·exact (hs.2 b (Nat.ne_of_lt (Heap.lt_size q))).trans ((Heap.get?_update_ne _ _ _ _ hb).trans (Heap.get?_push_of_some _ q))
theorem get_exc {expr : Bool} {Q : Value → Shared → Prop} {vs : Array Value} {mA : Str → Option Value} (X : K.In s.heap) (hx : s.heap.get? x = some { cls := .ref C,dict := some dx,data := .fields vs }) (c : XCls K C) (n : NoAttr K C name) (hn : s.heap.Ns1 dx mA) (hv : mA name = some v)
  (hh : PySem.W.handedIn v = true) (h : Q v { s with toks := s.toks + 1 }) : wpAny (model prog w) A (getAttr (.ref x) name expr) Q E s := by
 obtain ⟨od,ho,hl⟩ := lookIn_ns hn
 have J : PySem.W.InstAt s.heap x { cls := .ref C,dict := some dx,data := .fields vs } C (some od) := ⟨hx,rfl,rfl,ho⟩
 have L0 := J.type (M := model prog w)
 have L1 := PySem.W.looks_findIn (M := model prog w) X c.ga
 have L2 := PySem.W.looks_findIn (M := model prog w) X c.gt
 have L3 := PySem.W.looks_find (M := model prog w) X J (PySem.W.findObj_own c.hd n rfl (by rw [hl,hv]))
 have L4 := val_inst (s := s) (M := model prog w) (T := "BaseException") (by decide) X J c.ov
 have FB := PySem.F.attrBase_ValueError
 obtain ⟨hh',g,d,t,os⟩ := s
 unfold getAttr getAttrBy
 refine wpAny_bind (wpAny_mkText (wpAny_holding (wpAny_bind (L0.at (wpAny_bind (L1.at ?_))))))
 have hx2 : (Value.builtin "BaseException.__getattribute__" == Value.builtin "object.__getattribute__") = false := by decide +kernel
 dsimp only
 rw [hx2,Bool.and_false,if_neg (by decide)]
 unfold getAttrByItsOwn
 refine wpAny_bind (L2.at (wpAny_bind (wpAny_attempt (wpAny_holding ?_))))
 unfold callGetattribute
 rw [if_neg (by cases expr <;> decide)]
 unfold boundAndCalled
 rw [FB.ga.bind]
 refine wpAny_bind (wpAny_pure (wpAny_call (codeAny_call_builtin FB.ga.plain PySem.F.entry_bexc_ga (PySem.W.check_slot (i := "BaseException.__getattribute__") (owner := "BaseException") (n := "__getattribute__") (self := .ref x) (rest := [.str name t]) (kw := []) (by decide +kernel) (by decide +kernel) L4 (PySem.F.args_bexc_ga _ _) ?_))))
 refine wpAny_bind (wpAny_pure (wpAny_bind (wpAny_pure (wpAny_bind (L0.at (wpAny_bind (L3.at ?_)))))))
 refine wpAny_pure ?_
 show wpAny _ _ (handedOut v) _ _ _
 rw [PySem.W.handedOut_of hh]; exact wpAny_pure h
end
end L2
end
section
namespace L2
open PySem PySem.Spec PyProof.Rows
def excXIn (K : PySem.W.Frag) (C : Addr) (r : Option Value) : Bool := match K.lookup C with
 | some ⟨.type "type",_,.cls cd,sl⟩ => (match cd.mro,sl.toList with
  | .ref C' :: bm,[_,_,_,_,some (.builtin n),_] => ((C' == C && n == "ValueError.__new__") && (!cd.hasDel && PySem.W.tailIn K bmV bm)) && (PySem.W.nsOkIn K cd.ns && PySem.W.nsIn K cd.ns "__init__" == some r)
  | _,_ => false)
 | _ => false
theorem ns_some_of {K : PySem.W.Frag} {h : Heap} {N : Addr} {m : Str → Option Value} {n : Str} {r : Option Value} (X : K.In h) (G : h.Ns N m) (e : PySem.W.nsIn K N n = some r) : m n = r := by
 obtain ⟨o,es,ep,ho,hd,_,hf⟩ := G
 unfold PySem.W.nsIn at e
 split at e
 ·rename_i c d es' n' sl q
  have := X _ _ q
  rw [ho] at this
  cases this
  cases hd
  rw [← hf]
  unfold nsFind findBy
  rw [← Array.find?_toList]
  split at e
  ·rename_i he; cases e; rw [he]; rfl
  ·rename_i he
   split at e
   ·cases e
   ·cases e; rw [he]; rfl
 ·cases e
theorem excX_of {K : PySem.W.Frag} {h : Heap} {C : Addr} {r : Option Value} (X : K.In h) (q : excXIn K C r = true) : ∃ bm N nm qn bs hd sn sub ab col dd k0 k1 k2 k3 k5 mN,
  h.get? C = some (excClassObj nm qn C N bs bm hd sn sub ab col dd k0 k1 k2 k3 k5 "ValueError.__new__") ∧ h.Ns N mN ∧ mN "__init__" = r ∧ OwnTail h bmV bm := by
 unfold excXIn at q
 split at q
 ·rename_i dd cd sl ho
  split at q
  ·rename_i C' bm k0 k1 k2 k3 n k5 hm hs
   simp only [Bool.and_eq_true,beq_iff_eq,Bool.not_eq_true'] at q
   obtain ⟨⟨⟨rfl,rfl⟩,hdel,ht⟩,hok,hni⟩ := q
   obtain ⟨nm,bs,mro,ns,qn,hd,sn,sub,ab,col,del⟩ := cd
   dsimp only at hm hdel hok hni
   subst hm hdel
   obtain rfl : sl = #[k0,k1,k2,k3,some (.builtin "ValueError.__new__"),k5] := by
    obtain ⟨l⟩ := sl
    simp only at hs
    rw [hs]
   have G : h.Ns ns (h.nsMap ns) := .of_isNs (PySem.W.isNs_of_in X hok)
   exact ⟨bm,ns,nm,qn,bs,hd,sn,sub,ab,col,dd,k0,k1,k2,k3,k5,_,X _ _ ho,G,ns_some_of X G hni,PySem.W.tail_of_in X ht⟩
  ·cases q
 ·cases q
section
variable {prog : Program} {w : World} {A : Around} {E : Value → Shared → Prop} {h : Heap} {g : Array GenState} {d : Drawn} {t : Nat} {os : OsState}
variable {nm qn : Str} {C N fI : Addr} {bs bm : List Value} {hd : Bool} {sn : List Str} {sub : List Value} {ab : Bool} {col : Option Bool} {dd : Option Addr} {k0 k1 k2 k3 k5 : Option Value} {mN : Str → Option Value} {rest : List Value} {oI : Obj}
theorem tcall_excI {Q : Fin → Shared → Prop} (T : OwnTail h bmV bm) (hC : h.get? C = some (excClassObj nm qn C N bs bm hd sn sub ab col dd k0 k1 k2 k3 k5 "ValueError.__new__")) (hn : h.Ns N mN) (hi : mN "__init__" = some (.ref fI)) (hf : h.get? fI = some oI)
  (hfc : oI.cls = .type "function") (hr : rest.length ≤ sizeLine)
  (hq : ∀ h' e,Heap.MadeExcOf h h' e (.ref C) rest → wpAny (model prog w) A (call (.ref fI) (.ref e :: rest)) (fun r s' => r = .none ∧ Q (.done (.ret (.ref e))) s') E ⟨h',g,d,t,os⟩) :
  wpAny (model prog w) A (Builtin.«type.__call__» ⟨.ref C :: rest,[]⟩) Q E ⟨h,g,d,t,os⟩ := by
 have FV := PySem.F.excBase_ValueError
 repeat (first | with_reducible refine wpAny_loadPart_at hC ?_ | with_reducible refine wpAny_madeBy_exc hC ?_ | wp_step)
 refine codeAny_call_builtin_code (Code.quiet_builtin _ FV.quiet) (wpAny_check_new_subU FV (by decide) T hC (codeAny_exc_new_subU FV (by decide) FV T hC ?_ hr))
 show wpAny _ _ _ _ _ _
 generalize hh : (h.push { cls := .type "tuple",data := .seq rest.toArray }).push { cls := .ref C,data := .fields #[.ref h.objs.size,.none,.none,.none,.bool false,.none] } = h1
 have kp : ∀ b o,h.get? b = some o → h1.get? b = some o := fun b o e => by rw [← hh]; exact Heap.get?_push_of_some _ (Heap.get?_push_of_some _ e)
 have g1 : h1.get? (h.objs.size + 1) = some { cls := .ref C,data := .fields #[.ref h.objs.size,.none,.none,.none,.bool false,.none] } := by rw [← hh]; heap_get
 have g0 : h1.get? h.objs.size = some { cls := .type "tuple",data := .seq rest.toArray } := by rw [← hh]; exact Heap.get?_push_of_some _ (Heap.get?_push_at rfl rfl)
 have mk : Heap.MadeExcOf h h1 (h.objs.size + 1) (.ref C) rest := ⟨kp,Heap.get?_none_of_le (Nat.le_succ _),h.objs.size,g1,Heap.get?_none_of_le (Nat.le_refl _),g0⟩
 have hcC : (Value.ref C :: bm).contains (.ref C) = true := by simp
 unfold isInstance
 repeat (first | with_reducible refine wpAny_loadPart_at g1 ?_ | (with_reducible refine wpAny_isSubtype_exc (kp _ _ hC) ?_; rw [hcC]) | wp_step)
 show wpAny _ _ (typeLookup (.ref C) _) _ _ _
 refine wpAny_typeLookup_tail (kp _ _ hC) (hn.keeps kp) (T.keeps kp) FV.mroIs FV.init.lookup ?_
 rw [hi]
 refine wpAny_holding (wpAny_bind ?_)
 unfold bindSpecial
 refine wpAny_bind (wpAny_typeOf (T := "function") ⟨_,kp _ _ hf,hfc⟩ ?_)
 rw [if_pos (by decide)]
 refine wpAny_pure (wpAny_bind (wpAny_mono (hq h1 _ mk) (fun r s' hr => ?_) fun _ _ x => x))
 obtain ⟨rfl,hQ⟩ := hr
 wp_walk
 exact hQ
theorem call_excI {Q : Value → Shared → Prop} (T : OwnTail h bmV bm) (hC : h.get? C = some (excClassObj nm qn C N bs bm hd sn sub ab col dd k0 k1 k2 k3 k5 "ValueError.__new__")) (hn : h.Ns N mN) (hi : mN "__init__" = some (.ref fI)) (hf : h.get? fI = some oI)
  (hfc : oI.cls = .type "function") (hr : rest.length ≤ sizeLine)
  (hq : ∀ h' e,Heap.MadeExcOf h h' e (.ref C) rest → wpAny (model prog w) (A.under (.builtin "type.__call__" ⟨.ref C :: rest,[]⟩)) (call (.ref fI) (.ref e :: rest)) (fun r s' => r = .none ∧ Q (.ref e) s') E ⟨h',g,d,t,os⟩) :
  wpAny (model prog w) A (call (.ref C) rest) Q E ⟨h,g,d,t,os⟩ := by
 have f1 := tc_lookup
 have f2 := tc_bind (.ref C)
 have hT : (⟨h,g,d,t,os⟩ : Shared).TypeIs (.ref C) "type" := ⟨_,hC,rfl⟩
 refine wpAny_call (codeAny_of_tree ?_)
 show wpAny _ _ (callAny (.ref C) _) _ _ _
 repeat (any_goals (first | assumption | with_reducible refine wpAny_loadPart_at hC ?_ | wp_step))
 exact ⟨rfl,codeAny_call_builtin_at (Code.quiet_builtin _ (by decide +kernel)) entry_typeCall (wpAny_check_type_call_sub hC (tcall_excI T hC hn hi hf hfc hr hq))⟩
end
section
variable {P : Program} {w : World} {H : Hp} {h h' : Heap} {a : Addr} {o : HO}
theorem ObjOk.there (x : ObjOk P w H h a o) : ∃ ob,h.get? a = some ob := by
 cases o with
 | lst xs => obtain ⟨_,_,_,_,e⟩ := x; exact ⟨_,e⟩
 | tup xs => obtain ⟨_,_,_,ob,e,_⟩ := x; exact ⟨_,e⟩
 | dK kvs => obtain ⟨_,_,_,_,o,_,_,e,_⟩ := x; exact ⟨_,e⟩
 | dT kvs => obtain ⟨_,_,_,_,o,_,_,e,_⟩ := x; exact ⟨_,e⟩
 | set S n => obtain ⟨o,_,_,_,e,_⟩ := x; exact ⟨_,e⟩
 | ins C dx fs => obtain ⟨_,_,_,e,_⟩ := x; exact ⟨_,e⟩
 | own y => obtain ⟨_,e⟩ := x; exact ⟨_,e⟩
 | xd fs => obtain ⟨_,⟨_,_,_,e,_⟩,_⟩ := x; exact ⟨_,e⟩
 | rng lo hi => obtain ⟨_,_,_,e⟩ := x; exact ⟨_,e⟩
 | frz ob u => obtain ⟨e,_⟩ := x; exact ⟨_,e⟩
 | tbl ps => exact ⟨_,(show h.get? a = some _ from x)⟩
 | met f y => exact ⟨_,(show h.get? a = some _ from x)⟩
 | ext φ => obtain ⟨_,e,_⟩ := x; exact e
theorem HOk.clear (x : HOk P w H h) (e : h.get? a = none) : H a = none := by
 cases q : H a with
 | none => rfl
 | some o => obtain ⟨ob,z⟩ := (x a o q).there; rw [e] at z; cases z
end
section
variable {X : Cx} {pins : List (Addr × Obj)} {σ : St} {H : Hp} {s : Shared} {h' : Heap}
theorem Inv.laidN {a : Addr} {o : HO} {t' : Nat} (I : Inv X pins σ H s) (k : ∀ b u,s.heap.get? b = some u → h'.get? b = some u) (hp : s.heap.get? a = none) (new : ObjOk X.prog X.w (upd H a o) h' a o) :
  Inv X pins σ (upd H a o) { s with heap := h',toks := t' } := by
 have hn := I.hok.clear hp
 have ne : ∀ b u,H b = some u → b ≠ a := fun b u q z => by rw [z,hn] at q; cases q
 refine I.un ⟨fun b o q _ _ _ => k b o q,fun b o q _ _ _ => ⟨o.slots,k b o q⟩,fun b o q n _ => ?_,fun b o q _ => ⟨o,k b o q⟩,fun b xs q => ?_,fun b o u q => ?_,fun b ps q => ⟨#[],?_⟩⟩ fun b u q => ?_
 ·rw [upd_ne (fun z => by rw [z,hp] at q; cases q)]; exact n
 ·rw [upd_ne (ne _ _ q)]; exact q
 ·rw [upd_ne (ne _ _ q)]; exact q
 ·rw [upd_ne (ne _ _ q),q]; simp
 ·by_cases hb : b = a
  ·subst hb; rw [upd_same] at q; cases q; exact new
  ·rw [upd_ne hb] at q
   exact (I.hok b u q).stay (fun c v _ z => k c v z) (fun c z => by rw [upd_ne (ne _ _ z)]; exact z) fun c xs z => by rw [upd_ne (ne _ _ z)]; exact z
end
end L2
end
section
namespace L2
open PySem PySem.Spec PyProof.Rows
section
variable {prog : Program} {w : World} {A : Around} {E : Value → Shared → Prop} {s : Shared} {K : PySem.W.Frag} {x D : Addr} {ox : Obj} {odo : Option Obj}
theorem exc_class {Q : Option Value → Shared → Prop} (c : XCls K D) (X : K.In s.heap) (I : PySem.W.InstAt s.heap x ox D odo) (h : Q (some (.ref D)) { s with toks := s.toks + 1 }) : wpAny (model prog w) A (getAttr? (.ref x) "__class__") Q E s := by
 have hf : PySem.W.findObj K D odo "__class__" = some (.bind (.builtin "getset_descriptor.__get__") (.builtin "object.__class__")) := by
  obtain ⟨cd,hc,_⟩ := PySem.W.any_some c.hd
  unfold PySem.W.findObj
  rw [hc,Option.bind_some,c.cl,Option.bind_some]
  simp [c.cg,c.ct]
 have L0 := I.type (M := model prog w)
 have L1 := PySem.W.looks_findIn (M := model prog w) X c.ga
 have L2 := PySem.W.looks_findIn (M := model prog w) X c.gt
 have L3 := PySem.W.looks_find (M := model prog w) X I hf
 have L4 := val_inst (s := s) (M := model prog w) (T := "BaseException") (by decide) X I c.ov
 have FB := PySem.F.attrBase_ValueError
 obtain ⟨hh',g,d,t,os⟩ := s
 unfold getAttr? getAttrBy? getAttrBy
 refine wpAny_bind (wpAny_mkText (wpAny_bind (wpAny_attempt (wpAny_holding (wpAny_bind (L0.at (wpAny_bind (L1.at ?_))))))))
 have hx2 : (Value.builtin "BaseException.__getattribute__" == Value.builtin "object.__getattribute__") = false := by decide +kernel
 dsimp only
 rw [hx2,Bool.and_false,if_neg (by decide)]
 unfold getAttrByItsOwn
 refine wpAny_bind (L2.at (wpAny_bind (wpAny_attempt (wpAny_holding ?_))))
 unfold callGetattribute
 rw [if_neg (by decide)]
 unfold boundAndCalled
 rw [FB.ga.bind]
 refine wpAny_bind (wpAny_pure (wpAny_call (codeAny_call_builtin FB.ga.plain PySem.F.entry_bexc_ga (PySem.W.check_slot (i := "BaseException.__getattribute__") (owner := "BaseException") (n := "__getattribute__") (self := .ref x) (rest := [.str "__class__" t]) (kw := []) (by decide +kernel) (by decide +kernel) L4 (PySem.F.args_bexc_ga _ _) ?_))))
 refine wpAny_bind (wpAny_pure (wpAny_bind (wpAny_pure (wpAny_bind (L0.at (wpAny_bind (L3.at ?_)))))))
 show wpAny _ _ (holding [.builtin "object.__class__"] (call (.builtin "getset_descriptor.__get__") [.builtin "object.__class__",.ref x,.ref D]) >>= ret) _ _ _
 refine wpAny_bind (wpAny_holding (wpAny_call (PySem.W.class_get (s := ⟨hh',g,d,t + 1,os⟩) X I c.cm (wpAny_pure ?_))))
 exact PySem.W.handed_on rfl (wpAny_pure h)
theorem kitx_exc (c : XCls K D) : PySem.W.KitX K (.ref x) (.ref D) (fun h => PySem.W.InstAt h x ox D odo) where
 ty := fun _ _ _ I => I.type
 it := fun _ _ X _ => by
  obtain ⟨cdD,hcD,_⟩ := PySem.W.any_some c.hd
  unfold PySem.W.clsIn at hcD
  split at hcD
  ·rename_i c' d' cd' sl' ho
   intro A' Q' E' s' k q
   unfold isType loadHead
   exact wpAny_bind (wpAny_loadPart (k _ _ (X _ _ ho)) (wpAny_pure q))
  ·cases hcD
 ne := fun h tp dd its n sl X htp => by
  obtain ⟨cdD,hcD,_⟩ := PySem.W.any_some c.hd
  refine Bool.eq_false_iff.mpr fun q => ?_
  have e : D = tp := Value.ref.inj (beq_iff_eq.mp q)
  subst e
  unfold PySem.W.clsIn at hcD
  split at hcD
  ·rename_i c' d' cd' sl' ho
   have z := (X _ _ ho).symm.trans htp
   cases z
  ·cases hcD
 ca := fun X I k => exc_class c X I k
end
def XDict (H : Hp) : Option Addr → Prop
 | none => True
 | some d => ∃ fs,H d = some (.xd fs)
section
variable {X : Cx} {pins : List (Addr × Obj)} {σ : St} {H : Hp} {s : Shared} {x C : Addr} {cls : Value} {dx tb : Option Addr}
theorem Inv.inst (I : Inv X pins σ H s) (e : H x = some (hE x (.ref C) dx tb)) (d : XDict H dx) : ∃ vs odo,s.heap.get? x = some { cls := .ref C,dict := dx,data := .fields vs } ∧ PySem.W.InstAt s.heap x { cls := .ref C,dict := dx,data := .fields vs } C odo := by
 obtain ⟨vs,ho,_⟩ := I.exc e
 cases dx with
 | none => exact ⟨vs,none,ho,ho,rfl,rfl,trivial⟩
 | some d' =>
  obtain ⟨fs,ed⟩ := d
  obtain ⟨ob,q⟩ := (I.hok d' _ ed).there
  exact ⟨vs,some ob,ho,ho,rfl,rfl,q⟩
def vCls : V → Option Value
 | .ref a => some (.ref a)
 | .ty n => some (.type n)
 | _ => none
theorem call_isinstX : CallR X (.builtin "isinstance") (fun xs H Q => ∃ (x D : Addr) (dx tb : Option Addr) (y : V) (c : Value) (b : Bool),xs = [.ref x,y] ∧ vCls y = some c ∧ H x = some (hE x (.ref D) dx tb) ∧ XDict H dx ∧ XCls X.K D ∧ PySem.W.kitOne X.K (.ref D) c = some b ∧ Q (.bl b) H) := by
 intro pins s σ H xs us Q I r h
 obtain ⟨x,D,dx,tb,y,c,b,rfl,hy,ex,hd,xc,e,q⟩ := h
 obtain ⟨u,w',rfl,ru,rw'⟩ := vals2 r
 cases (show u = Value.ref x from ru)
 obtain rfl : w' = c := by
  cases y with
  | ref a => cases hy; exact rw'
  | ty n => cases hy; exact rw'
  | _ => cases hy
 obtain ⟨vs,odo,ho,J⟩ := I.inst ex hd
 exact PySem.W.kia_one (kitx_exc xc) I.kIn J e (fun z => nomatch z) fun tk => ⟨.bl b,H,I.tok tk,rfl,q⟩
def tFldX (K : PySem.W.Frag) (ta : TE) (f : Str) : TE := fun σ H Q => ta σ H fun x H1 => ∃ (a C d : Addr) (tb : Option Addr) (fs : List (Str × V)) (v : V),x = .ref a ∧ H1 a = some (hE a (.ref C) (some d) tb) ∧ H1 d = some (.xd fs) ∧ XCls K C ∧ NoAttr K C f ∧ fs.lookup f = some v ∧ Q v H1
theorem qe_fldX {e : Expr} {f : Str} {pos : Pos} {ta : TE} (he : QE X e ta) (hb : attributeBase e f X.env (eval e X.env) = eval e X.env := by rfl) : QE X (.Attribute e f pos) (tFldX X.K ta f) := ⟨by
 intro pins s σ H Q I h
 refine attr_of hb (thn (he.p pins s σ H _ I h) fun u s1 ⟨x,H1,I1,rx,a,C,d,tb,fs,v,ex,ea,ed,c,n,l,q⟩ => ?_)
 subst ex
 obtain rfl : u = Value.ref a := rx
 obtain ⟨vs,ho,_⟩ := I1.exc ea
 obtain ⟨mA,hn,r⟩ := I1.hok d _ ed
 obtain ⟨u,hu,ru⟩ := RelO.some_of (v := v) (o := mA f) (by rw [← l]; exact r f)
 exact get_exc I1.kIn ho c n hn hu (handed_of ru) ⟨v,H1,I1.tok _,ru,q⟩⟩
def sFldX (K : PySem.W.Frag) (ta tv : TE) (f : Str) : TS := fun D σ H => tv σ H fun y H1 => ta σ H1 fun x H2 => ∃ (a C : Addr) (tb : Option Addr),x = .ref a ∧ H2 a = some (hE a (.ref C) none tb) ∧ XCls K C ∧ NoAttr K C f ∧
 ∀ d,H2 d = none → d ≠ a → D.nx σ (upd (upd H2 d (.xd [(f,y)])) a (hE a (.ref C) (some d) tb))
theorem qs_fldX {o value : Expr} {f : Str} {pos pos' : Pos} {ta tv : TE} (ha : QE X o ta) (hv : QE X value tv) (hs : swapsWith value (some (.Attribute o f pos')) pos.line X.env = pure false := by rfl) : QS X (.Assign [.Attribute o f pos'] value pos) (sFldX X.K ta tv f) := ⟨by
 intro pins s σ H D I h
 refine plainObj_wpAny_Assign_Attribute (thn (hv.p pins s σ H _ I h) fun u s1 ⟨y,H1,I1,ry,q⟩ => thn (ha.p pins s1 σ H1 _ I1 q) fun ov s2 ⟨x,H2,I2,rx,a,C,tb,ex,ea,c,n,q2⟩ => ?_) hs
 subst ex
 obtain rfl : ov = Value.ref a := rx
 obtain ⟨vs,ho,h1⟩ := I2.exc ea
 have na : s2.heap.objs.size ≠ a := Nat.ne_of_gt (I2.hok.lt ea)
 have hf : H2 s2.heap.objs.size = none := I2.hok.fresh (Nat.le_refl _)
 refine set_exc I2.kIn ho c n fun h' hn hx k => ⟨σ,_,?_,q2 _ hf na⟩
 have ne : ∀ b o,H2 b = some o → b ≠ s2.heap.objs.size := fun b o e z => by rw [z,hf] at e; cases e
 have nea : ∀ b o,H2 b = some o → o ≠ hE a (.ref C) none tb → b ≠ a := fun b o e z q => by rw [q,ea] at e; cases e; exact z rfl
 refine I2.un (t' := s2.toks + 2) ⟨fun b o e z _ _ => k b o (fun q => by rw [q,ea] at z; cases z) e,fun b o e z _ _ => ⟨o.slots,k b o (fun q => by rw [q,ea] at z; cases z) e⟩,fun b o e z _ => ?_,fun b o e _ => ?_,fun b xs e => ?_,fun b o u e => ?_,fun b ps e => ⟨#[],?_⟩⟩ fun b o e => ?_
 ·rw [upd_ne (fun q => by rw [q,ea] at z; cases z),upd_ne (Nat.ne_of_lt (Heap.lt_size e))]; exact z
 ·by_cases hb : b = a
  ·subst hb; exact ⟨_,hx⟩
  ·exact ⟨_,k b o hb e⟩
 ·rw [upd_ne (nea _ _ e (fun z => nomatch z)),upd_ne (ne _ _ e)]; exact e
 ·rw [upd_ne (nea _ _ e (fun z => nomatch z)),upd_ne (ne _ _ e)]; exact e
 ·rw [upd_ne (nea _ _ e (fun z => nomatch z)),upd_ne (ne _ _ e),e]; simp
 ·by_cases hb : b = a
  ·subst hb; rw [upd_same] at e; cases e
   exact hE_ok ⟨vs,hx,h1⟩
  ·rw [upd_ne hb] at e
   by_cases hd : b = s2.heap.objs.size
   ·subst hd; rw [upd_same] at e; cases e
    refine ⟨_,hn,fun g => ?_⟩
    by_cases hg : g = f
    ·subst hg
     simp only [List.lookup,beq_self_eq_true,if_true]
     exact ry
    ·have hb' : (g == f) = false := beq_eq_false_iff_ne.mpr hg
     simp only [List.lookup,hb',if_neg hg]
     trivial
   ·rw [upd_ne hd] at e
    refine (I2.hok b o e).stay (fun c' u hc e' => k c' u (fun q => ?_) e') (fun c' z => by rw [upd_ne (nea _ _ z (fun z => nomatch z)),upd_ne (ne _ _ z)]; exact z) fun c' xs z => by rw [upd_ne (nea _ _ z (fun z => nomatch z)),upd_ne (ne _ _ z)]; exact z
    rcases hc with hc | hc
    ·exact hb (hc.symm.trans q)
    ·rw [q,ea] at hc; cases hc⟩
end
end L2
end
section
namespace L2
open PySem PySem.Spec PyProof.Rows
section
variable {X : Cx} {pins : List (Addr × Obj)} {σ : St} {H : Hp} {s : Shared} {Q : VK} {C f : Addr} {fd : FuncData} {ps : List Str} {sp : Sp} {k : Nat} {us : List Value} {vs : List V}
theorem run_excI (q : excXIn X.K C (some (.ref f)) = true) (hf : PySem.W.isFn X.K (.ref f) = true) (F : FnOk X.prog X.w X.K X.mg X.base CX0 k f fd ps sp) (hr : Room (k + 1) X.A) (hb : Binds X.K fd ps []) (I : Inv X pins σ H s) (r : Vals vs us) (hl : us.length ≤ sizeLine)
  (h : ∀ x,H x = none → sp (.ref x :: vs) (upd H x (hE x (.ref C) none none)) (fun v H2 => v = .non ∧ Q (.ref x) H2) E0) : wpAny (model X.prog X.w) X.A (call (.ref C) us) (EP X pins σ Q) X.xe s := by
 obtain ⟨bm,N,nm,qn,bs,hd,sn,sub,ab,col,dd,k0,k1,k2,k3,k5,mN,hC,hN,hi,T⟩ := excX_of I.kIn q
 obtain ⟨oI,hoI,hoc⟩ : ∃ oI,s.heap.get? f = some oI ∧ oI.cls = .type "function" := by
  have e : (X.K.lookup f).map (·.cls) = some (.type "function") := beq_iff_eq.mp hf
  obtain ⟨o,a,b⟩ := Option.map_eq_some_iff.mp e
  exact ⟨o,I.kIn _ _ a,b⟩
 obtain ⟨hp,g,d,t,os⟩ := s
 refine call_excI T hC hN hi hoI hoc hl fun h' e mk => ?_
 obtain ⟨t',ht,_⟩ := mk.there
 have I2 : Inv X pins σ (upd H e (hE e (.ref C) none none)) ⟨h',g,d,t,os⟩ := I.laidN (t' := t) mk.keeps mk.new (hE_ok ⟨_,ht,rfl⟩)
 have hq := h e (I.hok.clear mk.new)
 have r2 : Vals (V.ref e :: vs) (Value.ref e :: us) := .cons rfl r
 have hl2 : (Value.ref e :: us ++ []).length = ps.length := by rw [List.append_nil,← r2.length]; exact F.len _ _ _ _ hq
 have bd := hb ⟨h',g,d,t,os⟩ (Value.ref e :: us) I2.kIn hl2
 rw [List.append_nil] at bd
 refine wpAny_call (codeAny_mono (F.run _ X.stack _ _ ⟨Value.ref e :: us,[]⟩ (Value.ref e :: us) _ _ E0 (hr.make C us []) (I2.env0.make C us []) bd r2 hq) fun r s' hq' => ?_)
 cases r with
 | error e => exact False.elim hq'
 | ok fl =>
  cases fl with
  | ret u =>
   obtain ⟨v,H',I3,rv,ev,q3⟩ := I2.after hq'
   subst ev
   exact ⟨rv,⟨V.ref e,H',I3,rfl,q3⟩⟩
  | next => exact False.elim hq'
  | brk => exact False.elim hq'
  | cont => exact False.elim hq'
def tExcI (C : Addr) (sp : Sp) (t : TA) : TE := fun σ H Q => t σ H fun vs H1 => vs.length ≤ 1000 ∧ ∀ x,H1 x = none → sp (.ref x :: vs) (upd H1 x (hE x (.ref C) none none)) (fun v H2 => v = .non ∧ Q (.ref x) H2) E0
theorem qe_excI {x : Str} {p pos : Pos} {e : Expr} {es : List Expr} {t : TA} (q : excXIn X.K C (some (.ref f)) = true) (hf : PySem.W.isFn X.K (.ref f) = true) (F : FnOk X.prog X.w X.K X.mg X.base CX0 k f fd ps sp) (hr : Room (k + 1) X.A) (hb : Binds X.K fd ps [])
  (kp : PySem.W.keepIn X.K (.ref C) = true) (hm : X.mg x = some (.ref C)) (ha : QA X (e :: es) t) (hg : Gl X x := by rfl) (hdb : (x == ("__debug__" : Str)) = false := by decide)
  (he : starEach (e :: es) X.env = (false,eval e X.env) :: starEach es X.env := by rfl) (hpl : (backTo pos (starEach es X.env)).any (·.1) = false := by rfl) : QE X (.Call (.Name x p) (e :: es) [] pos) (tExcI C sp t) := ⟨by
 intro pins s σ H Q I h
 refine wpAny_Call_Name_kw (ld_glob I hg hm ?_ hdb)
 refine PySem.W.callWith_K (h₀ := X.base) I.ok.mod.kin kp (thn (ha.p pos pins s σ H _ I h) fun us s1 ⟨vs,H1,I1,r,l,q1⟩ => ⟨I1.kIn,?_⟩) he hpl
 refine run_excI q hf F hr hb I1 r ?_ q1
 show us.length ≤ sizeLine
 rw [← r.length]
 exact Nat.le_of_lt (small1000 l)⟩
end
def XRaises (X : Cx) (E : XK) : Prop := ∀ (pins : List (Addr × Obj)) (σ : St) (H : Hp) (s : Shared) (x C : Addr) (dx tb : Option Addr),Inv X pins σ H s → Fly H x (.ref C) dx tb → (∀ T H',Flown H H' x (.ref C) dx T → E (.ref C) dx H') → X.xe (.ref x) s
section
variable {X : Cx} {E : XK}
theorem raise_ok {M : Model} {K : PySem.W.Frag} {A : Around} {E : Value → Shared → Prop} {s : Shared} {env : Env} {e : Sem Value} {Q : Flow → Shared → Prop} (hh : A.handled = none)
  (h : wpAny M A e (fun v s₁ => ∃ (x C : Addr) (dx : Option Addr) (vs : Array Value),v = .ref x ∧ K.In s₁.heap ∧ XCls K C ∧ s₁.heap.get? x = some { cls := .ref C,dict := dx,data := .fields vs } ∧ vs[1]? = some .none ∧ E (.ref x) s₁) E s) : wpAny M A (raiseStmt env (some e) none) Q E s := by
 unfold raiseStmt
 refine wpAny_bind (wpAny_mono h (fun v s₁ h₁ => ?_) fun _ _ z => z)
 obtain ⟨x,C,dx,vs,rfl,KX,c,ho,h1,hE'⟩ := h₁
 have LT : PySem.W.Looks M s₁.heap (typeOf (.ref x)) (.ref C) := (PySem.W.Looks.ld ho).andThen .now
 have L1 : PySem.W.Looks M s₁.heap (isType (.ref x)) false := by
  intro A' Q' E' s' k q
  unfold isType loadHead
  exact wpAny_bind (wpAny_loadPart (k _ _ ho) (wpAny_pure q))
 have L2 : PySem.W.Looks M s₁.heap (isInstance (.ref x) (.type "BaseException")) true := by
  obtain ⟨cd,hc,ho'⟩ := PySem.W.any_some c.ov
  have ne : cd.mro.isEmpty = false := by cases q : cd.mro with | nil => rw [q] at ho'; cases ho' | cons _ _ => rfl
  exact LT.andThen (PySem.W.looks_mroIn KX (by unfold PySem.W.mroIn; rw [hc,Option.bind_some,if_neg (by rw [ne]; decide),val_has (by decide) ho']))
 have L3 := PySem.W.looks_typeIn (M := M) KX c.ty
 refine wpAny_bind (wpAny_pure (wpAny_bind (wpAny_holding ?_)))
 unfold excFromValue isExcClass
 refine wpAny_bind (wpAny_bind (L1.here ?_))
 rw [if_neg (by decide)]
 refine wpAny_pure ?_
 rw [if_neg (by decide)]
 refine wpAny_bind (L2.here ?_)
 rw [if_pos rfl]
 refine wpAny_pure ?_
 dsimp only
 refine wpAny_bind (L1.here ?_)
 rw [if_neg (by decide)]
 unfold raisedInstance
 refine wpAny_bind (wpAny_bind (LT.here (wpAny_bind (L3.here ?_))))
 rw [if_pos (by decide)]
 refine wpAny_pure ?_
 unfold setFlight
 refine wpAny_bind (wpAny_bind (wpAny_field ho rfl h1 ?_))
 rw [if_neg (by decide)]
 refine wpAny_pure ?_
 exact wpAny_raiseNew_none hh hE'
def tRaise (K : PySem.W.Frag) (te : TE) (E : XK) : TS := fun D σ H => te σ H fun v H1 => ∃ (x C : Addr) (dx : Option Addr),v = .ref x ∧ H1 x = some (hE x (.ref C) dx none) ∧ XCls K C ∧ ∀ T H',Flown H1 H' x (.ref C) dx T → E (.ref C) dx H'
theorem qs_raise {e : Expr} {te : TE} {pos : Pos} (hx : XRaises X E) (hc : X.calm = true) (he : QE X e te) : QS X (.Raise (some e) none pos) (tRaise X.K te E) := ⟨by
 intro pins s σ H D I h
 rw [arm_exec_Raise]
 refine wpAny_bind (wpAny_standAt (raise_ok (K := X.K) (I.ok.hd hc) ?_))
 refine wpAny_bind (thn (he.p pins s σ H _ I h) fun u s1 ⟨v,H1,I1,rv,x,C,dx,ev,ex,c,q⟩ => wpAny_bind (wpAny_standAt (wpAny_pure ?_)))
 subst ev
 obtain rfl : u = Value.ref x := rv
 obtain ⟨vs,ho,h1⟩ := I1.exc ex
 exact ⟨x,C,dx,vs,rfl,I1.kIn,c,ho,h1,hx pins σ H1 s1 x C dx none I1 ⟨ex,fun T z => nomatch z⟩ q⟩⟩
end
def CXD (P : Program) (w : World) : CXT := fun outer H s E e s' => ∃ (x C : Addr) (dx : Option Addr) (T : Addr) (H' : Hp),e = .ref x ∧ s'.os = s.os ∧ AllBare s'.gens ∧ Un (frs outer) [] H H' s.heap s'.heap ∧ HOk P w H' s'.heap ∧
 Fly H' x (.ref C) dx (some T) ∧ E (.ref C) dx H'
section
variable {P : Program} {w : World} {K : PySem.W.Frag} {mg : Str → Option Value} {base : Heap} {N : List Str} {qual : Str} {scope : Scope} {f : Addr} {cd : Value} {A : Around} {outer : List Env} {s : Shared} {H : Hp} {E : XK}
theorem raises_cx : XRaises (cxOf (CXD P w) P w K mg base N qual scope f cd A outer s H E) E := fun pins σ H1 s1 x C dx tb I fl q => by
 show wpAny _ _ (leaving _ _) _ _ _
 refine leave_ok I rfl rfl rfl fl fun s2 T H2 fn I2 => ⟨x,C,dx,T,H2,rfl,I2.os,I2.bare,I2.base,I2.hok,fn.fly,q T H2 fn⟩
theorem passes_cx {E' : XK} (h : ∀ x C dx T H1 H2 T2,Fly H1 x (.ref C) dx (some T) → E' (.ref C) dx H1 → Flown H1 H2 x (.ref C) dx T2 → E (.ref C) dx H2) : Passes (CXD P w) (cxOf (CXD P w) P w K mg base N qual scope f cd A outer s H E) E' := fun pins σ H1 s1 e s2 I q => by
 obtain ⟨x,C,dx,T,H2,rfl,os,bare,un,hok,fl,z⟩ := q
 have I2 : Inv (cxOf (CXD P w) P w K mg base N qual scope f cd A outer s H E) pins σ H2 s2 := I.call' os un hok bare (fun _ z => nomatch z)
 exact raises_cx pins σ H2 s2 x C dx (some T) I2 fl fun T2 H3 fn => h x C dx T H2 H3 T2 fl z fn
theorem Fun.okX {CX : CXT} {x : Str} {st : Stmt} {fd : FuncData} {ps : List Str} {k : Nat} {sp : Sp} (F : Fun K x qual st f fd) (S : FnScope N ps (defScope st)) (len : ∀ vs H Q E,sp vs H Q E → vs.length = ps.length)
  (hbody : ∀ (cdv : Value) (A : Around) (outer : List Env) (s : Shared) (H : Hp) (vs : List V) (Q : VK) (E : XK),Room k (A.deeper (envOfC qual (defScope st) s.heap.objs.size f cdv)) → sp vs H Q E →
   ∃ t,PSs (cxOf CX P w K mg base N qual (defScope st) f cdv A outer s H E) (defBody st) t ∧ t { nx := fun _ H' => Q .non H',rt := Q } (start N vs) H) : FnOk P w K mg base CX (k + 1) f fd ps sp := by
 obtain ⟨oc,od,kV,doc,pm,an,cdv,ct,osl,rfl,lk,hcd⟩ := F.ex
 exact fn_of lk hcd S len fun A outer s H vs Q E hr hsp => hbody cdv A outer s H vs Q E hr hsp
end
end L2
end
section
namespace L2
open PySem PySem.Spec PyProof.Rows
abbrev Cx.held (X : Cx) (e : Value) : Cx := { X with A := X.A.mark (some e),calm := false,xe := fun _ _ => False }
theorem Cx.Ok.held {X : Cx} (ok : X.Ok) (e : Value) : (X.held e).Ok :=
 ⟨ok.mod,ok.kind,ok.glob,ok.blt,ok.above,ok.inj,ok.has,ok.cab,(fun z => by cases z),ok.frames,ok.stk,ok.exf,ok.bs,ok.bsz,ok.noex,ok.exfs,ok.funs,ok.frf⟩
section
variable {X : Cx} {pins : List (Addr × Obj)} {σ : St} {H : Hp} {s : Shared} {e : Value}
theorem Inv.held (I : Inv X pins σ H s) (e : Value) : Inv (X.held e) pins σ H s := ⟨I.ok.held e,I.os,I.bare,I.base,I.loc,I.cell,I.free,I.freeC,I.pin,I.hok,I.len⟩
theorem Inv.unheld (ok : X.Ok) (I : Inv (X.held e) pins σ H s) : Inv X pins σ H s := ⟨ok,I.os,I.bare,I.base,I.loc,I.cell,I.free,I.freeC,I.pin,I.hok,I.len⟩
theorem Inv.unbound {h' : Heap} {i : Nat} {n : Str} {m : Str → Option Value} {u : Option Value} {t' : Nat} (I : Inv X pins σ H s) (hN : X.N.Nodup) (hi : X.N[i]? = some n)
  (hl : ∀ (i : Nat) (x : Str) (v : V),X.N[i]? = some x → σ[i]? = some (some v) → Vis X.env.scope x → ∃ u,RelV v u ∧ Look X.env s.heap m x u) (hn : h'.Ns X.env.locals (fun x => if x = n then u else m x)) (hs : Heap.SameBut X.env.locals s.heap h') :
  Inv X pins (σ.set i none) H { s with heap := h',toks := t' } := by
 have nb : ∀ b o,X.s₀.heap.get? b = some o → b ≠ X.env.locals := fun b o e => Nat.ne_of_lt (Nat.lt_of_lt_of_le (Heap.lt_size e) I.ok.above)
 have nH : ∀ b o,H b = some o → b ≠ X.env.locals := fun b o e z => by rw [z,I.free] at e; cases e
 have cK : ∀ x c,X.env.cells.lookup x = some c → ∀ v,s.heap.IsCell c v → h'.IsCell c v := fun x c e v ⟨o,ho,hd⟩ => ⟨o,(hs.2 c (I.cne x c e)).trans ho,hd⟩
 refine ⟨I.ok,I.os,I.bare,⟨fun b o e n hb hx => (hs.2 b (nb b o e)).trans (I.base.keep b o e n hb hx),fun b o e n hb hx => ?_,I.base.free,fun b o e hx => ?_,I.base.tups,I.base.frzs,I.base.tbls⟩,⟨_,hn,fun j y v e1 e2 e3 => ?_⟩,fun x c e => ?_,I.free,I.freeC,fun p hp => ?_,fun b o e => ?_,by simpa using I.len⟩
 ·obtain ⟨sl,e1⟩ := I.base.slot b o e n hb hx
  exact ⟨sl,(hs.2 b (nb b o e)).trans e1⟩
 ·obtain ⟨o',e1⟩ := I.base.there b o e hx
  exact ⟨o',(hs.2 b (nb b o e)).trans e1⟩
 ·have hj : i ≠ j := fun z => by
   subst z
   rw [List.getElem?_set] at e2
   simp only [if_true] at e2
   split at e2 <;> cases e2
  rw [List.getElem?_set_ne hj] at e2
  obtain ⟨u',r,lk⟩ := hl j y v e1 e2 e3
  refine ⟨u',r,?_⟩
  rcases lk with ⟨k1,k2⟩ | ⟨k1,c,k2,k3⟩
  ·refine .inl ⟨k1,?_⟩
   have ny : y ≠ n := fun z => hj (nodup_ix hN hi (by rw [← z]; exact e1))
   show (if y = n then u else m y) = some u'
   rw [if_neg ny]
   exact k2
  ·exact .inr ⟨k1,c,k2,cK y c k2 _ k3⟩
 ·obtain ⟨v,q⟩ := I.cell x c e
  exact ⟨v,cK x c e v q⟩
 ·obtain ⟨a1,a2,a3,a4⟩ := I.pin p hp
  exact ⟨(hs.2 p.1 a3).trans a1,a2,a3,a4⟩
 ·refine (I.hok b o e).stay (fun c u hc q => (hs.2 c ?_).trans q) (fun _ q => q) fun _ _ q => q
  rcases hc with rfl | hc
  ·exact nH _ _ e
  ·exact nH _ _ hc
theorem unbind_ok {A : Around} {E : Value → Shared → Prop} {M : Model} {i : Nat} {n : Str} {pos : Pos} {Q : Unit → Shared → Prop} (I : Inv X pins σ H s) (hN : X.N.Nodup) (hi : X.N[i]? = some n) (hk : X.env.kindOf n = some .local)
  (h : ∀ s',Inv X pins (σ.set i none) H s' → Q () s') : wpAny M A (do bindName X.env n .none; unbindBehindTheSuite X.env n pos) Q E s := by
 refine wpAny_bind (wpAny_bindName (store_ok I hN hi (.inl hk) (v := .non) rfl (fun s1 I1 => ?_) (.inr hk)))
 have hiσ : i < σ.length := by rw [I.len]; exact (List.getElem?_eq_some_iff.mp hi).1
 obtain ⟨m,hn,hl⟩ := id I1.loc
 obtain ⟨u,ru,lk⟩ := hl i n .non hi (by rw [List.getElem?_set_self hiσ]) (.inl hk)
 have hm : m n = some u := by
  rcases lk with ⟨_,q⟩ | ⟨q,_⟩
  ·exact q
  ·rw [hk] at q; rcases q with q | q <;> cases q
 unfold unbindBehindTheSuite
 refine wpAny_onRaise (wpAny_unbindName_local hk hn hm (by rw [I.ok.kind]; rfl) fun h' u' hn' hs => h _ ?_)
 have J := Inv.unbound (t' := s1.toks) I1 hN hi hl hn' hs
 rw [List.set_set] at J
 exact J
end
abbrev TH := Addr → Addr → Option Addr → TS
def PH (X : Cx) (hs : List ExceptHandler) (t : TH) : Prop :=
 ∀ (pins : List (Addr × Obj)) (s : Shared) (σ : St) (H : Hp) (D : Ends) (x C : Addr) (dx : Option Addr) (T : Addr),Inv X pins σ H s → Fly H x (.ref C) dx (some T) → t x C dx D σ H → wpAny (model X.prog X.w) X.A (handleBy (.ref x) X.env hs) (SP X pins D) X.xe s
structure QH (X : Cx) (hs : List ExceptHandler) (t : TH) : Prop where
 p : PH X hs t
theorem qh_nil {X : Cx} : QH X [] (fun _ _ _ _ _ _ => False) := ⟨fun _ _ _ _ _ _ _ _ _ _ _ h => h.elim⟩
def Ends.as (D : Ends) (i : Nat) : Ends := { nx := fun σ H => D.nx (σ.set i none) H,rt := D.rt,bk := fun σ H => D.bk (σ.set i none) H,ct := fun σ H => D.ct (σ.set i none) H }
def tAs (K : PySem.W.Frag) (C' : Addr) (i : Nat) (ts : TS) (tr : TH) : TH := fun x C dx D σ H => ∃ b,PySem.W.exmOne K (.ref C) (.ref C') = some b ∧ if b = true then ts (D.as i) (σ.set i (some (.ref x))) H else tr x C dx D σ H
theorem qh_as {X : Cx} {c n : Str} {np pos : Pos} {C' : Addr} {i : Nat} {b₀ : Stmt} {suite : List Stmt} {rest : List ExceptHandler} {ts : TS} {tr : TH} (hm : X.mg c = some (.ref C')) (hN : X.N.Nodup) (hb : ∀ e,QB (X.held e) (b₀ :: suite) ts) (hr : QH X rest tr)
  (hi : X.N[i]? = some n := by rfl) (hk : X.env.kindOf n = some .local := by rfl) (hg : Gl X c := by rfl) (hd : (c == ("__debug__" : Str)) = false := by decide) :
  QH X (.ExceptHandler (some (.Name c np)) (some n) (b₀ :: suite) pos :: rest) (tAs X.K C' i ts tr) := ⟨by
 intro pins s σ H D x C dx T I fl h
 obtain ⟨b,eb,h⟩ := h
 obtain ⟨vs,ho,_⟩ := I.exc fl.ex
 obtain ⟨fT,nT⟩ := fl.tr T rfl
 have LT : PySem.W.Looks (model X.prog X.w) s.heap (typeOf (.ref x)) (.ref C) := (PySem.W.Looks.ld ho).andThen .now
 refine wpAny_handleBy_cons (codeAny_handlers_test (ld_glob (X := X.held (.ref x)) (I.held _) hg hm ((PySem.W.exm_one I.kIn LT eb).here ?_) hd)) (by intro q; cases q)
 cases b with
 | false => exact hr.p pins s σ H D x C dx T I fl h
 | true =>
  refine codeAny_handlers_suite_as (land_ok I fl.ex fT fun s1 I1 => ?_)
  rw [upd_id fT] at I1
  refine store_ok I1 hN hi (.inl hk) (v := .ref x) rfl (fun s2 I2 => ?_) (.inr hk)
  refine wpAny_mono ((hb (.ref x)).p pins s2 _ H (D.as i) (I2.held _) h) (fun f s3 q => ?_) fun _ _ z => False.elim z
  cases f with
  | next =>
   obtain ⟨σ',H',I3,q⟩ := q
   exact unbind_ok (I3.unheld I.ok) hN hi hk fun s4 I4 => ⟨_,H',I4,q⟩
  | brk =>
   obtain ⟨σ',H',I3,q⟩ := q
   exact unbind_ok (I3.unheld I.ok) hN hi hk fun s4 I4 => ⟨_,H',I4,q⟩
  | cont =>
   obtain ⟨σ',H',I3,q⟩ := q
   exact unbind_ok (I3.unheld I.ok) hN hi hk fun s4 I4 => ⟨_,H',I4,q⟩
  | ret u =>
   obtain ⟨v,σ',H',I3,r,q⟩ := q
   exact unbind_ok (I3.unheld I.ok) hN hi hk fun s4 I4 => ⟨v,_,H',I4,r,q⟩⟩
abbrev EK := Addr → Addr → Option Addr → Hp → Prop
def ErrP (X : Cx) (pins : List (Addr × Obj)) (σ : St) (Ex : EK) (e : Value) (s' : Shared) : Prop := ∃ (x C : Addr) (dx : Option Addr) (T : Addr) (H' : Hp),e = .ref x ∧ Inv X pins σ H' s' ∧ Fly H' x (.ref C) dx (some T) ∧ Ex x C dx H'
abbrev TXE := St → Hp → VK → EK → Prop
structure QXE (X : Cx) (e : Expr) (t : TXE) : Prop where
 p : ∀ (pins : List (Addr × Obj)) (s : Shared) (σ : St) (H : Hp) (Q : VK) (Ex : EK),Inv X pins σ H s → t σ H Q Ex → wpAny (model X.prog X.w) X.A (eval e X.env) (EP X pins σ Q) (ErrP X pins σ Ex) s
abbrev TX := Ends → EK → St → Hp → Prop
structure QX (X : Cx) (st : Stmt) (t : TX) : Prop where
 p : ∀ (pins : List (Addr × Obj)) (s : Shared) (σ : St) (H : Hp) (D : Ends) (Ex : EK),Inv X pins σ H s → t D Ex σ H → wpAny (model X.prog X.w) X.A (exec st X.env) (SP X pins D) (ErrP X pins σ Ex) s
section
variable {X : Cx}
def tXCall (sp : Sp) (t : TA) : TXE := fun σ H Q Ex => t σ H fun vs H1 => sp vs H1 Q (fun cls dx H' => ∃ C,cls = .ref C ∧ ∀ x T,Fly H' x (.ref C) dx (some T) → Ex x C dx H')
theorem qxe_call {k : Nat} {f : Addr} {fd : FuncData} {ps : List Str} {sp : Sp} {x : Str} {p pos : Pos} {e : Expr} {es : List Expr} {t : TA} (F : FnOk X.prog X.w X.K X.mg X.base (CXD X.prog X.w) k f fd ps sp) (hr : Room k X.A) (hm : X.mg x = some (.ref f))
  (hk : PySem.W.keepIn X.K (.ref f) = true) (hb : Binds X.K fd ps []) (ha : QA X.nox (e :: es) t) (hg : Gl X x := by rfl) (hdb : (x == ("__debug__" : Str)) = false := by decide)
  (he : starEach (e :: es) X.env = (false,eval e X.env) :: starEach es X.env := by rfl) (hpl : (backTo pos (starEach es X.env)).any (·.1) = false := by rfl) : QXE X (.Call (.Name x p) (e :: es) [] pos) (tXCall sp t) := ⟨by
 intro pins s σ H Q Ex I h
 refine wpAny_Call_Name_kw (ld_glob I hg hm ?_ hdb)
 refine PySem.W.callWith_K (h₀ := X.base) I.ok.mod.kin hk (wpAny_mono (ha.p pos pins s σ H _ (I.wish _) h) (fun us s1 ⟨vs,H1,I1,r,q⟩ => ?_) fun _ _ z => False.elim z) he hpl
 have I1' : Inv X pins σ H1 s1 := I1.unwish
 refine ⟨I1'.kIn,?_⟩
 have hl : (us ++ []).length = ps.length := by rw [List.append_nil,← r.length]; exact F.len _ _ _ _ q
 have bd := hb s1 us I1'.kIn hl
 rw [List.append_nil] at bd
 refine wpAny_call (codeAny_mono (F.run X.A X.stack s1 H1 ⟨us,[]⟩ us vs Q _ hr I1'.env0 bd r q) fun r s' hq => ?_)
 cases r with
 | error e =>
  obtain ⟨x,C,dx,T,H2,rfl,os,bare,un,hok,fl,C',eC,z⟩ := hq
  cases eC
  exact ⟨x,C,dx,T,H2,rfl,I1'.call' os un hok bare (fun _ z => nomatch z),fl,z x T fl⟩
 | ok fl =>
  cases fl with
  | ret u => exact I1'.after hq
  | next => exact False.elim hq
  | brk => exact False.elim hq
  | cont => exact False.elim hq⟩
theorem qx_expr {e : Expr} {te : TXE} {pos : Pos} (he : QXE X e te) (hs : swapsWith e none pos.line X.env = pure false := by rfl) : QX X (.Expr e pos) (fun D Ex σ H => te σ H (fun _ H1 => D.nx σ H1) Ex) := ⟨by
 intro pins s σ H D Ex I h
 exact wpAny_Expr_any (thn (he.p pins s σ H _ Ex I h) fun v s1 ⟨x,H1,I1,r1,q1⟩ => ⟨σ,H1,I1,q1⟩) I.quiet hs⟩
def tTry (tb : TX) (th : TH) : TS := fun D σ H => tb D (fun x C dx H' => ∀ T H'',Flown H' H'' x (.ref C) dx T → th x C dx D σ H'') σ H
theorem qs_try {st : Stmt} {tb : TX} {h₀ : ExceptHandler} {hs : List ExceptHandler} {th : TH} {pos : Pos} (hst : X.stack = X.env :: X.outer) (hf : X.env.frame = some X.env.locals) (hb : QX X st tb) (hh : QH X (h₀ :: hs) th) : QS X (.Try [st] (h₀ :: hs) [] [] pos) (tTry tb th) := ⟨by
 intro pins s σ H D I h
 refine wpAny_Try_except (wpAny_execs_cons (wpAny_mono (hb.p pins s σ H D _ I h) (fun f s1 q => ?_) fun e s1 q => ?_))
 ·cases f with
  | next => exact wpAny_execs_nil (wpAny_execs_nil q)
  | ret v => exact q
  | brk => exact q
  | cont => exact q
 ·obtain ⟨x,C,dx,T,H1,rfl,I1,fl,z⟩ := q
  refine note_ok I1 hst hf rfl fl fun s2 T2 hn ne I2 => ?_
  refine land_ok I2 upd_same (by rw [upd_ne ne,upd_same]) fun s3 I3 => ?_
  have fn : Flown H1 (upd (upd (upd H1 T2 (hT T2 (rawInt X.env.locals))) x (hE x (.ref C) dx (some T2))) T2 (hT T2 .none)) x (.ref C) dx T2 :=
   ⟨by rw [upd_ne (Ne.symm ne),upd_same],upd_same,ne,hn,fun b b1 b2 => by rw [upd_ne b2,upd_ne b1,upd_ne b2]⟩
  exact hh.p pins s3 σ _ D x C dx T2 I3 fn.fly (z T2 _ fn)⟩
end
structure CalleeX (P : Program) (w : World) (K : PySem.W.Frag) (mg : Str → Option Value) (base : Heap) (x : Str) (ps : List Str) (k : Nat) (sp : Sp) : Prop where
 ex : ∃ (f : Addr) (fd : FuncData),FnOk P w K mg base (CXD P w) k f fd ps sp ∧ mg x = some (.ref f) ∧ PySem.W.keepIn K (.ref f) = true ∧ Binds K fd ps []
theorem qxe_callee {X : Cx} {k : Nat} {ps : List Str} {sp : Sp} {x : Str} {p pos : Pos} {e : Expr} {es : List Expr} {t : TA} (C : CalleeX X.prog X.w X.K X.mg X.base x ps k sp) (hr : Room k X.A) (hg : Gl X x) (ha : QA X.nox (e :: es) t) (hdb : (x == ("__debug__" : Str)) = false := by decide)
  (he : starEach (e :: es) X.env = (false,eval e X.env) :: starEach es X.env := by rfl) (hpl : (backTo pos (starEach es X.env)).any (·.1) = false := by rfl) : QXE X (.Call (.Name x p) (e :: es) [] pos) (tXCall sp t) := by
 obtain ⟨f,fd,F,hm,hk,hb⟩ := C.ex
 exact qxe_call F hr hm hk hb ha hg hdb he hpl
theorem Flown.same_of {H H1 H' : Hp} {x : Addr} {cls : Value} {dx : Option Addr} {T : Addr} (f : Flown H1 H' x cls dx T) (hx : H x = none) (h : ∀ b o,H b = some o → b ≠ x → H1 b = some o) : Same H H' := fun b o e => by
 have nx : b ≠ x := ne_of_none e hx
 have e1 := h b o e nx
 rw [f.same b nx (ne_of_none e1 f.new)]
 exact e1
theorem Flown.keep {H H' : Hp} {x : Addr} {cls : Value} {dx : Option Addr} {T b : Addr} {o : HO} (f : Flown H H' x cls dx T) (e : H b = some o) (nx : b ≠ x) : H' b = some o := by
 rw [f.same b nx (ne_of_none e f.new)]; exact e
def spInit (K : PySem.W.Frag) (fld : Str) : Sp := fun vs H Q _ => ∃ (x C : Addr) (v : V) (tb : Option Addr),vs = [.ref x,v] ∧ H x = some (hE x (.ref C) none tb) ∧ XCls K C ∧ NoAttr K C fld ∧
 ∀ d,H d = none → d ≠ x → Q .non (upd (upd H d (.xd [(fld,v)])) x (hE x (.ref C) (some d) tb))
theorem raiseI {K : PySem.W.Frag} {E : XK} {D : Ends} {σ : St} {H : Hp} {C : Addr} {fld : Str} {t : TA} {v : V} (xc : XCls K C) (na : NoAttr K C fld) (ht : ∀ Q : List V → Hp → Prop,Q [v] H → t σ H Q) (k : ∀ d H',H' d = some (.xd [(fld,v)]) → Same H H' → E (.ref C) (some d) H') :
  tRaise K (tExcI C (spInit K fld) t) E D σ H := by
 refine ht _ ⟨(by show 1 ≤ 1000; decide),fun x hx => ⟨x,C,v,none,rfl,upd_same,xc,na,fun d hd nd => ⟨rfl,x,C,some d,rfl,upd_same,xc,fun T H' fn => ?_⟩⟩⟩
 have e1 : (upd (upd (upd H x (hE x (.ref C) none none)) d (.xd [(fld,v)])) x (hE x (.ref C) (some d) none)) d = some (.xd [(fld,v)]) := by rw [upd_ne nd,upd_same]
 refine k d H' (fn.keep e1 nd) (fn.same_of hx fun b o e nx => ?_)
 have eb : (upd H x (hE x (.ref C) none none)) b = some o := by rw [upd_ne nx]; exact e
 rw [upd_ne nx,upd_ne (ne_of_none eb hd)]
 exact eb
section
variable {X : Cx}
theorem call_isinstXK (K : PySem.W.Frag) (hK : X.K = K) : CallR X (.builtin "isinstance") (fun xs H Q => ∃ (x D : Addr) (dx tb : Option Addr) (y : V) (c : Value) (b : Bool),xs = [.ref x,y] ∧ vCls y = some c ∧ H x = some (hE x (.ref D) dx tb) ∧ XDict H dx ∧ XCls K D ∧ PySem.W.kitOne K (.ref D) c = some b ∧ Q (.bl b) H) := by
 subst hK; exact call_isinstX
theorem qe_fldXK {e : Expr} {f : Str} {pos : Pos} {ta : TE} (K : PySem.W.Frag) (hK : X.K = K) (he : QE X e ta) (hb : attributeBase e f X.env (eval e X.env) = eval e X.env := by rfl) : QE X (.Attribute e f pos) (tFldX K ta f) := by
 subst hK; exact qe_fldX he hb
end
end L2
end
section
namespace L2
open PySem PySem.Spec PyProof.Rows
section
variable {X : Cx}
theorem op_in_seqK (K : PySem.W.Frag) (hK : X.K = K) : OpR X (compareOp .In) (rIn K false) := by
 subst hK
 exact op_in_seq
end
end L2
end
section
namespace L2
open PySem PySem.Spec PyProof.Rows
def Eup (E : XK) : XK := fun cls dx H1 => ∀ x T T2 H2,Fly H1 x cls dx (some T) → Flown H1 H2 x cls dx T2 → E cls dx H2
section
variable {P : Program} {w : World} {K : PySem.W.Frag} {mg : Str → Option Value} {base : Heap} {N : List Str} {qual : Str} {scope : Scope} {f : Addr} {cd : Value} {A : Around} {outer : List Env} {s : Shared} {H : Hp} {E : XK}
theorem passes_up : Passes (CXD P w) (cxOf (CXD P w) P w K mg base N qual scope f cd A outer s H E) (Eup E) := passes_cx fun x C dx T H1 H2 T2 fl e fn => e x T T2 H2 fl fn
end
structure MCalleeX (P : Program) (w : World) (K : PySem.W.Frag) (mg : Str → Option Value) (base : Heap) (C : Addr) (m : Str) (ps : List Str) (k : Nat) (sp : Sp) : Prop where
 ex : ∃ (f : Addr) (fd : FuncData),FnOk P w K mg base (CXD P w) k f fd ps sp ∧ Meth K C m f ∧ Binds K fd ps []
section
variable {X : Cx} {C : Addr} {m x : Str} {ps : List Str} {k : Nat} {sp : Sp} {E' : XK} {o e v : Expr} {es : List Expr} {ta : TE} {t : TA} {apos pos p tpos : Pos}
theorem qe_methX {pl : Sem Bool} (hx : Passes (CXD X.prog X.w) X E') (he : QE X o ta) (c : Cls X.K C) (M : MCalleeX X.prog X.w X.K X.mg X.base C m ps k sp) (hr : Room k X.A) (ha : QA X (e :: es) t)
  (hst : starEach (e :: es) X.env = (false,eval e X.env) :: starEach es X.env := by rfl) (hpl : (backTo pos (starEach es X.env)).any (·.1) = false := by rfl)
  (ht : eval (.Call (.Attribute o m apos) (e :: es) [] pos) X.env = (do
   let ov ← eval o X.env
   standAt apos.atName
   let (f,first) ← holding [ov] (getMethod ov m pl)
   callWith pos f first (backTo pos (starEach (e :: es) X.env)) (backToKw pos (keywordEach [] X.env))) := by rfl) :
  QE X (.Call (.Attribute o m apos) (e :: es) [] pos) (tMeth C m sp [] E' ta t) := by
 obtain ⟨f,fd,F,hm,hb⟩ := M.ex
 exact ⟨pe_meth (pl := pl) he.p c hm F hr hb .nil hx ha.p hst hpl ht⟩
theorem qe_meth0X {pl : Sem Bool} (hx : Passes (CXD X.prog X.w) X E') (he : QE X o ta) (c : Cls X.K C) (M : MCalleeX X.prog X.w X.K X.mg X.base C m ps k sp) (hr : Room k X.A)
  (ht : eval (.Call (.Attribute o m apos) [] [] pos) X.env = (do
   let ov ← eval o X.env
   standAt apos.atName
   let (f,first) ← holding [ov] (getMethod ov m pl)
   callWith pos f first (backTo pos (starEach [] X.env)) (backToKw pos (keywordEach [] X.env))) := by rfl) :
  QE X (.Call (.Attribute o m apos) [] [] pos) (tMeth C m sp [] E' ta tNil) := by
 obtain ⟨f,fd,F,hm,hb⟩ := M.ex
 exact ⟨pe_meth0 (pl := pl) he.p c hm F hr hb .nil hx ht⟩
theorem qx_set {i : Nat} {y : Str} {te : TXE} {pos' : Pos} (hN : X.N.Nodup) (hi : X.N[i]? = some y) (hy : Loc X.env.scope y) (he : QXE X e te) (hs : swapsWith e (some (.Name y pos')) pos.line X.env = pure false := by rfl) (hf : X.fn y = true ∨ X.env.scope.names.lookup y = some .local := by first | exact .inl rfl | exact .inr rfl | assumption) :
  QX X (.Assign [.Name y pos'] e pos) (fun D Ex σ H => te σ H (fun v H1 => D.nx (σ.set i (some v)) H1) Ex) := ⟨by
 intro pins s σ H D Ex I h
 refine wpAny_Assign_Name (thn (he.p pins s σ H _ Ex I h) fun v s1 ⟨z,H1,I1,r1,q1⟩ => ?_) hs
 exact store_ok I1 hN hi hy r1 (fun s2 I2 => ⟨_,H1,I2,q1⟩) hf⟩
end
end L2
end
section
set_option maxHeartbeats 1000000
namespace L2
open PySem PySem.Spec PyProof.Rows
section
variable {X : Cx}
end
end L2
end
section
namespace L2
open PySem PySem.Spec PyProof.Rows
section
variable {X : Cx}
theorem qg_tupK (K : PySem.W.Frag) (n : Nat) {pos : Pos} {es : List Expr} {k : Nat} {t : TGs} (hK : X.K = K) (hc : X.calm = true) (h : QGs X es t) (hn : (assignEach es X.env).length = n) (hst : (assignEach es X.env).findIdx? (·.1) = none) : QG X (.Tuple es k pos) (gTup K n t) := by
 subst hK
 exact qg_tup hc h hn hst
end
end L2
end
section
namespace L2
open PySem PySem.Spec PyProof.Rows
def tNoAs (K : PySem.W.Frag) (C' : Addr) (ts : TS) (tr : TH) : TH := fun x C dx D σ H => ∃ b,PySem.W.exmOne K (.ref C) (.ref C') = some b ∧ if b = true then ts D σ H else tr x C dx D σ H
theorem qh_no {X : Cx} {c : Str} {np pos : Pos} {C' : Addr} {b₀ : Stmt} {suite : List Stmt} {rest : List ExceptHandler} {ts : TS} {tr : TH} (hm : X.mg c = some (.ref C')) (hb : ∀ e,QB (X.held e) (b₀ :: suite) ts) (hr : QH X rest tr)
  (hg : Gl X c := by rfl) (hd : (c == ("__debug__" : Str)) = false := by decide) :
  QH X (.ExceptHandler (some (.Name c np)) none (b₀ :: suite) pos :: rest) (tNoAs X.K C' ts tr) := ⟨by
 intro pins s σ H D x C dx T I fl h
 obtain ⟨b,eb,h⟩ := h
 obtain ⟨vs,ho,_⟩ := I.exc fl.ex
 obtain ⟨fT,nT⟩ := fl.tr T rfl
 have LT : PySem.W.Looks (model X.prog X.w) s.heap (typeOf (.ref x)) (.ref C) := (PySem.W.Looks.ld ho).andThen .now
 refine wpAny_handleBy_cons (codeAny_handlers_test (ld_glob (X := X.held (.ref x)) (I.held _) hg hm ((PySem.W.exm_one I.kIn LT eb).here ?_) hd)) (by intro q; cases q)
 cases b with
 | false => exact hr.p pins s σ H D x C dx T I fl h
 | true =>
  refine codeAny_handlers_suite (land_ok I fl.ex fT fun s1 I1 => ?_)
  rw [upd_id fT] at I1
  refine wpAny_mono ((hb (.ref x)).p pins s1 σ H D (I1.held _) h) (fun f s3 q => ?_) fun _ _ z => False.elim z
  cases f with
  | next => obtain ⟨σ',H',I3,q⟩ := q; exact ⟨σ',H',I3.unheld I.ok,q⟩
  | brk => obtain ⟨σ',H',I3,q⟩ := q; exact ⟨σ',H',I3.unheld I.ok,q⟩
  | cont => obtain ⟨σ',H',I3,q⟩ := q; exact ⟨σ',H',I3.unheld I.ok,q⟩
  | ret u => obtain ⟨v,σ',H',I3,r,q⟩ := q; exact ⟨v,σ',H',I3.unheld I.ok,r,q⟩⟩
end L2
end
section
namespace L2
open PySem PySem.Spec PyProof.Rows
section
variable {prog : Program} {w : World} {A : Around} {E : Value → Shared → Prop} {s : Shared}
theorem tupNext {j t : Addr} {n : Nat} {its : Array Value} {v : Value} {Q : Value → Shared → Prop} (p : s.heap.IsTupleIter j t n) (pt : s.heap.IsTuple t its) (hv : its[n]? = some v)
  (k : ∀ g,g.IsTupleIter j t (n + 1) → Heap.SameBut j s.heap g → Q v { s with heap := g }) : wpAny (model prog w) A (Builtin.SmallTypes.nextOf (.ref j)) Q E s := by
 obtain ⟨u,hu,cu,du⟩ := id p
 obtain ⟨q,hq,_,m,dq⟩ := pt
 unfold Builtin.SmallTypes.nextOf
 refine wpAny_bind (wpAny_callSpecial?_slot (name := Str.ofString "__next__") p.typeIs F.slot_tuple_iterator_next (wpAny_call_entry F.slot_tuple_iterator_next p.typeIs F.entry_tuple_iterator_next ?_ (F.args_tuple_iterator_next_1 _)))
 show wpAny _ _ (field (.ref j) 0 >>= _) _ _ s
 refine wpAny_bind (wpAny_field hu du (x := .ref t) rfl ?_)
 rw [if_neg (show ¬ ((Value.ref t == Value.none) = true) by exact Bool.false_ne_true)]
 show wpAny _ _ (field (.ref j) 1 >>= _) _ _ s
 refine wpAny_bind (wpAny_field hu du (x := .int n 0) rfl ?_)
 refine wpAny_bind (wpAny_seqItems hq dq ?_)
 simp only [Int.toNat_natCast,hv]
 refine wpAny_bind (wpAny_setField hu du (by simp) (wpAny_pure ⟨v,rfl,wpAny_pure (k _ ⟨_,Heap.get?_update_self _ hu (Obj.isFreed_of_fields (Obj.data_mapFields du _)),(Obj.cls_mapFields ..).trans cu,?_⟩ (Heap.SameBut.update ..))⟩))
 rw [Obj.data_mapFields du]
 simp [rawInt]
theorem tupStops {j t : Addr} {n : Nat} {its : Array Value} {Q : Value → Shared → Prop} (hh : A.handled = none) (p : s.heap.IsTupleIter j t n) (pt : s.heap.IsTuple t its) (hv : its[n]? = none)
  (k : ∀ g e,Heap.ExtBut j s.heap g → (∃ o,g.get? e = some o ∧ o.cls = .type "StopIteration") → E (.ref e) { s with heap := g }) : wpAny (model prog w) A (Builtin.SmallTypes.nextOf (.ref j)) Q E s := by
 obtain ⟨u,hu,cu,du⟩ := id p
 obtain ⟨q,hq,_,m,dq⟩ := pt
 unfold Builtin.SmallTypes.nextOf
 refine wpAny_bind (wpAny_callSpecial?_slot (name := Str.ofString "__next__") p.typeIs F.slot_tuple_iterator_next (wpAny_call_entry F.slot_tuple_iterator_next p.typeIs F.entry_tuple_iterator_next ?_ (F.args_tuple_iterator_next_1 _)))
 show wpAny _ _ (field (.ref j) 0 >>= _) _ _ s
 refine wpAny_bind (wpAny_field hu du (x := .ref t) rfl ?_)
 rw [if_neg (show ¬ ((Value.ref t == Value.none) = true) by exact Bool.false_ne_true)]
 show wpAny _ _ (field (.ref j) 1 >>= _) _ _ s
 refine wpAny_bind (wpAny_field hu du (x := .int n 0) rfl ?_)
 refine wpAny_bind (wpAny_seqItems hq dq ?_)
 simp only [Int.toNat_natCast,hv]
 refine wpAny_bind (wpAny_rule (wpAny_bind (wpAny_setField hu du (by simp) ?_)))
 show wpAny _ A.in1 (newExc (.type "StopIteration") [] >>= _) _ _ _
 refine wpAny_bind ?_
 simp only [newExc,newTuple]
 refine wpAny_bind (wpAny_newObj_type ?_ (by size_fits))
 refine wpAny_bind (m := firstArgMember _ _) (wpAny_of_eq (a := Value.none) (by first | rfl | (simp only [firstArgMember]; rfl)) (wpAny_newObj_type ?_ (by size_fits)))
 simp only [raiseNew]
 refine wpAny_bind (wpAny_handled ?_)
 rw [show A.in1.handled = none from hh]
 exact wpAny_bind (wpAny_pure (wpAny_throw (k _ _ (((Heap.SameBut.update ..).extBut.push _).push _) ⟨_,Heap.get?_push_size _ rfl,rfl⟩)))
theorem zipTL_item {z TI TO i1 i2 a b : Addr} {n : Nat} {xs ys : Array Value} {x y c d : Value} {Q : Value → Shared → Prop} (D : ZipApart z TI TO i1 i2 a b)
  (hz : IsZip s.heap z TI TO .none) (ti : IsPair s.heap TI (.ref i1) (.ref i2)) (to : IsPair s.heap TO c d) (p1 : s.heap.IsTupleIter i1 a n) (p2 : s.heap.IsListIter i2 b n) (ta : s.heap.IsTuple a xs) (lb : s.heap.IsList b ys) (hx : xs[n]? = some x) (hy : ys[n]? = some y)
  (k : ∀ g,IsZip g z TI TO (rawInt s.heap.objs.size) → IsPair g TO x y → g.IsTupleIter i1 a (n + 1) → g.IsListIter i2 b (n + 1) → IsPair g s.heap.objs.size x y → (∀ e o,e ≠ z → e ≠ TO → e ≠ i1 → e ≠ i2 → s.heap.get? e = some o → g.get? e = some o) → Q (.ref s.heap.objs.size) { s with heap := g }) :
  wpAny (model prog w) A (Builtin.«zip.__next__» ⟨[.ref z],[]⟩) (fun fin s' => ∃ v,fin = .done (.ret v) ∧ Q v s') E s := by
 show wpAny (model prog w) A (field (.ref z) 2 >>= _) _ E s
 refine wpAny_bind (wpAny_field hz rfl (x := .bool false) rfl ?_)
 show wpAny (model prog w) A (field (.ref z) 3 >>= _) _ E s
 refine wpAny_bind (wpAny_field hz rfl (x := .ref TI) rfl (wpAny_bind (wpAny_seqItems ti rfl ?_)))
 show wpAny (model prog w) A (Builtin.SmallTypes.ownedTupleIsFree (.ref z) >>= _) _ E s
 refine wpAny_bind ?_
 unfold Builtin.SmallTypes.ownedTupleIsFree
 refine wpAny_bind (wpAny_field hz rfl (x := .none) rfl (wpAny_pure ?_))
 simp only [if_true]
 refine wpAny_bind (wpAny_rule (wpAny_bind (wpAny_field hz rfl (x := .ref TO) rfl (wpAny_bind (wpAny_setField_rec hz (by simp) fun g1 z1 e1 => ?_)))))
 replace z1 : IsZip g1 z TI TO .ellipsis := z1
 refine wpAny_bind ?_
 simp only [List.zipIdx_cons,List.zipIdx_nil,List.forIn_cons,List.forIn_nil]
 refine wpAny_bind (wpAny_bind (wpAny_onRaise (wpAny_bind (tupNext (p1.extBut e1.extBut D.i1z) (ta.extBut e1.extBut D.l1z) hx fun g2 q1 e2 => wpAny_pure ?_))))
 have to2 : IsPair g2 TO c d := e2.extBut _ _ D.TOi1 (e1.extBut _ _ D.TOz to)
 refine wpAny_bind (wpAny_seqItems to2 rfl (wpAny_bind (wpAny_updateSeq_pair to2 fun g3 to3 e3 => ?_)))
 replace to3 : IsPair g3 TO x d := to3
 refine wpAny_bind (wpAny_letGo (wpAny_pure (wpAny_bind (wpAny_bind (wpAny_onRaise (wpAny_bind (wpAny_nextOf_list_item (((p2.extBut e1.extBut D.i2z).extBut e2.extBut D.i12.symm).extBut e3.extBut D.TOi2.symm) (((lb.extBut e1.extBut D.l2z).extBut e2.extBut D.l2i1).extBut e3.extBut D.l2TO) hy fun g4 q2 e4 => wpAny_pure ?_)))))))
 have to4 : IsPair g4 TO x d := e4.extBut _ _ D.TOi2 to3
 refine wpAny_bind (wpAny_seqItems to4 rfl (wpAny_bind (wpAny_updateSeq_pair to4 fun g5 to5 e5 => ?_)))
 replace to5 : IsPair g5 TO x y := to5
 refine wpAny_bind (wpAny_letGo (wpAny_pure (wpAny_pure (wpAny_bind (wpAny_seqItems to5 rfl (wpAny_bind (wpAny_newTuple ?_)))))))
 have sz : g5.objs.size = s.heap.objs.size := by rw [e5.1,e4.1,e3.1,e2.1,e1.1]
 have z5 : IsZip g5 z TI TO .ellipsis := e5.extBut _ _ D.TOz.symm (e4.extBut _ _ D.i2z.symm (e3.extBut _ _ D.TOz.symm (e2.extBut _ _ D.i1z.symm z1)))
 have far : ∀ e o,e ≠ z → e ≠ TO → e ≠ i1 → e ≠ i2 → s.heap.get? e = some o → g5.get? e = some o := fun e o n1 n2 n3 n4 he => e5.extBut _ _ n2 (e4.extBut _ _ n4 (e3.extBut _ _ n2 (e2.extBut _ _ n3 (e1.extBut _ _ n1 he))))
 have r1 : g5.IsTupleIter i1 a (n + 1) := ((q1.extBut e3.extBut D.TOi1.symm).extBut e4.extBut D.i12).extBut e5.extBut D.TOi1.symm
 have r2 : g5.IsListIter i2 b (n + 1) := q2.extBut e5.extBut D.TOi2.symm
 have lz : z < g5.objs.size := Heap.lt_size z5
 refine wpAny_bind ?_
 unfold Builtin.SmallTypes.ownedTupleHandOut
 refine wpAny_bind (wpAny_setField_rec (show IsZip (g5.push { cls := .type "tuple",data := .seq #[x,y] }) z TI TO .ellipsis from Heap.get?_push_of_some _ z5) (by simp) fun g7 z7 e7 => ?_)
 replace z7 : IsZip g7 z TI TO (rawInt g5.objs.size) := z7
 refine wpAny_setField_rec z7 (by simp) fun g8 z8 e8 => ?_
 replace z8 : IsZip g8 z TI TO (rawInt g5.objs.size) := z8
 have up : ∀ e o,e ≠ z → g5.get? e = some o → g8.get? e = some o := fun e o n1 he => e8.extBut _ _ n1 (e7.extBut _ _ n1 (Heap.get?_push_of_some _ he))
 have tn : IsPair g8 g5.objs.size x y := e8.extBut _ _ (Nat.ne_of_gt lz) (e7.extBut _ _ (Nat.ne_of_gt lz) (Heap.get?_push_size _ rfl))
 rw [sz] at z8 tn
 refine wpAny_pure ⟨_,rfl,?_⟩
 show Q (.ref g5.objs.size) _
 rw [sz]
 exact k g8 z8 (up _ _ D.TOz to5) (r1.at fun o e => up _ o D.i1z e) (r2.at fun o e => up _ o D.i2z e) tn fun e o n1 n2 n3 n4 he => up e o n1 (far e o n1 n2 n3 n4 he)
theorem zipTL_end {z TI TO i1 i2 a b : Addr} {n : Nat} {xs : Array Value} {Q : Fin → Shared → Prop} (hh : A.handled = none) (D : ZipApart z TI TO i1 i2 a b)
  (hz : IsZip s.heap z TI TO .none) (ti : IsPair s.heap TI (.ref i1) (.ref i2)) (p1 : s.heap.IsTupleIter i1 a n) (ta : s.heap.IsTuple a xs) (hx : xs[n]? = none)
  (k : ∀ g e,(∀ c o,c ≠ z → c ≠ i1 → s.heap.get? c = some o → g.get? c = some o) → (∃ o,g.get? e = some o ∧ o.cls = .type "StopIteration") → E (.ref e) { s with heap := g }) :
  wpAny (model prog w) A (Builtin.«zip.__next__» ⟨[.ref z],[]⟩) Q E s := by
 show wpAny (model prog w) A (field (.ref z) 2 >>= _) _ E s
 refine wpAny_bind (wpAny_field hz rfl (x := .bool false) rfl ?_)
 show wpAny (model prog w) A (field (.ref z) 3 >>= _) _ E s
 refine wpAny_bind (wpAny_field hz rfl (x := .ref TI) rfl (wpAny_bind (wpAny_seqItems ti rfl ?_)))
 show wpAny (model prog w) A (Builtin.SmallTypes.ownedTupleIsFree (.ref z) >>= _) _ E s
 refine wpAny_bind ?_
 unfold Builtin.SmallTypes.ownedTupleIsFree
 refine wpAny_bind (wpAny_field hz rfl (x := .none) rfl (wpAny_pure ?_))
 simp only [if_true]
 refine wpAny_bind (wpAny_rule (wpAny_bind (wpAny_field hz rfl (x := .ref TO) rfl (wpAny_bind (wpAny_setField_rec hz (by simp) fun g1 z1 e1 => ?_)))))
 replace z1 : IsZip g1 z TI TO .ellipsis := z1
 refine wpAny_bind ?_
 simp only [List.zipIdx_cons,List.zipIdx_nil,List.forIn_cons,List.forIn_nil]
 refine wpAny_bind (wpAny_bind (wpAny_onRaise (wpAny_bind (tupStops hh (p1.extBut e1.extBut D.i1z) (ta.extBut e1.extBut D.l1z) hx fun g2 e e2 he => ?_))))
 obtain ⟨oe,h1,h2⟩ := he
 have z2 : IsZip g2 z TI TO .ellipsis := e2 _ _ D.i1z.symm z1
 have ez : e ≠ z := fun q => by rw [q,z2] at h1; cases h1; simp at h2
 exact wpAny_setField_rec z2 (by simp) fun g3 _ e3 => k g3 e (fun c o n1 n2 q => e3.extBut _ _ n1 (e2 _ _ n2 (e1.extBut _ _ n1 q))) ⟨oe,e3.extBut _ _ ez h1,h2⟩
theorem next_zipTL {z TI TO i1 i2 a b : Addr} {n : Nat} {xs ys : Array Value} {x y c d : Value} {Q : Option Value → Shared → Prop} (D : ZipApart z TI TO i1 i2 a b)
  (hz : IsZip s.heap z TI TO .none) (ti : IsPair s.heap TI (.ref i1) (.ref i2)) (to : IsPair s.heap TO c d) (p1 : s.heap.IsTupleIter i1 a n) (p2 : s.heap.IsListIter i2 b n) (ta : s.heap.IsTuple a xs) (lb : s.heap.IsList b ys) (hx : xs[n]? = some x) (hy : ys[n]? = some y)
  (k : ∀ g,IsZip g z TI TO (rawInt s.heap.objs.size) → IsPair g TO x y → g.IsTupleIter i1 a (n + 1) → g.IsListIter i2 b (n + 1) → IsPair g s.heap.objs.size x y → (∀ e o,e ≠ z → e ≠ TO → e ≠ i1 → e ≠ i2 → s.heap.get? e = some o → g.get? e = some o) → Q (some (.ref s.heap.objs.size)) { s with heap := g }) :
  wpAny (model prog w) A (pyNext (.ref z)) Q E s := by
 have ty : s.TypeIs (.ref z) "zip" := ⟨_,hz,rfl⟩
 unfold pyNext
 exact wpAny_bind (wpAny_attempt (wpAny_callSpecial?_slot (name := Str.ofString "__next__") ty F.slot_zip_next (wpAny_call_entry F.slot_zip_next ty F.entry_zip_next (zipTL_item D hz ti to p1 p2 ta lb hx hy fun g a1 a2 a3 a4 a5 a6 => wpAny_pure (k g a1 a2 a3 a4 a5 a6)) (F.args_zip_next_1 _))))
theorem stop_zipTL {z TI TO i1 i2 a b : Addr} {n : Nat} {xs : Array Value} {Q : Option Value → Shared → Prop} (hh : A.handled = none) (D : ZipApart z TI TO i1 i2 a b)
  (hz : IsZip s.heap z TI TO .none) (ti : IsPair s.heap TI (.ref i1) (.ref i2)) (p1 : s.heap.IsTupleIter i1 a n) (ta : s.heap.IsTuple a xs) (hx : xs[n]? = none)
  (k : ∀ g,(∀ c o,c ≠ z → c ≠ i1 → s.heap.get? c = some o → g.get? c = some o) → Q none { s with heap := g }) : wpAny (model prog w) A (pyNext (.ref z)) Q E s := by
 have ty : s.TypeIs (.ref z) "zip" := ⟨_,hz,rfl⟩
 unfold pyNext
 refine wpAny_bind (wpAny_attempt (wpAny_callSpecial?_slot (name := Str.ofString "__next__") ty F.slot_zip_next (wpAny_call_entry F.slot_zip_next ty F.entry_zip_next (zipTL_end hh D hz ti p1 ta hx fun g e q he => ?_) (F.args_zip_next_1 _))))
 obtain ⟨o,ho,hc⟩ := he
 exact wpAny_bind (wpAny_isInstance (T := "StopIteration") (b := true) ⟨o,ho,hc⟩ isSubtype_stop (wpAny_pure (k _ q)))
end
abbrev zT1 (h : Heap) (a : Addr) : Heap := h.push { cls := .type "tuple_iterator",data := .fields #[.ref a,.int 0 0] }
abbrev zT2 (h : Heap) (a b : Addr) : Heap := (zT1 h a).push { cls := .type "list_iterator",data := .fields #[.ref b,.int 0 0] }
abbrev zT3 (h : Heap) (a b : Addr) : Heap := (zT2 h a b).push { cls := .type "tuple",data := .seq #[.ref h.objs.size,.ref (zT1 h a).objs.size] }
abbrev zT4 (h : Heap) (a b : Addr) : Heap := (zT3 h a b).push { cls := .type "tuple",data := .seq #[.none,.none] }
abbrev zT5 (h : Heap) (a b : Addr) : Heap := (zT4 h a b).push { cls := .type "zip",data := .fields #[.none,.bool false,.bool false,.ref (zT2 h a b).objs.size,.ref (zT3 h a b).objs.size] }
theorem zip_newTL (a b : Addr) (xs ys : Array Value) : Meets (Builtin.«zip.__new__» ⟨[.type "zip",.ref a,.ref b],[]⟩) (fun _ R s => s.heap.IsTuple a xs ∧ s.heap.IsList b ys ∧ R (.ok (.ret (.ref (zT4 s.heap a b).objs.size))) { s with heap := zT5 s.heap a b }) :=
 .of_wp fun prog w A R s h => by
  obtain ⟨hp,g,d,tk,os⟩ := s
  obtain ⟨q1,q2,h⟩ := h
  have hsub := sub_zip
  have L1 : Heap.IsTuple (Shared.heap ⟨hp,g,d,tk,os⟩) a xs := q1
  have L2 : Heap.IsList (Shared.heap ⟨hp.push { cls := .type "tuple_iterator",data := .fields #[.ref a,.int 0 0] },g,d,tk,os⟩) b ys := Heap.IsList.push q2 _
  wp_walk using wpAny_pyIter_tuple L1,wpAny_pyIter_list L2
  exact ⟨_,rfl,h⟩
section
variable {X : Cx} {pins : List (Addr × Obj)} {σ : St} {H : Hp} {s : Shared} {h' : Heap}
theorem Inv.turnedM {t' : Nat} {fp : List Addr} (I : Inv X pins σ H s) (hf : ∀ b ∈ fp,FpOk X pins H b) (k : ∀ b o,b ∉ fp → s.heap.get? b = some o → h'.get? b = some o) : Inv X pins σ H { s with heap := h',toks := t' } := by
 have far : ∀ b u,H b = some u → b ∉ fp := fun b u e z => by rw [(hf b z).1] at e; cases e
 have away : X.env.locals ∉ fp := fun z => (hf _ z).2.1 rfl
 refine I.step (ch := fp) ?c1 ?c2 ?c3 ?c4 ?c5 ?c6 ?c7 ?c8 ?c9 ?c10 I.bare
 case c1 => exact fun b hb => ⟨(hf b hb).2.2.2.1,(hf b hb).2.1,(hf b hb).2.2.2.2.1,(hf b hb).2.2.2.2.2⟩
 case c2 => exact fun b o _ _ n e _ => k b o n e
 case c3 => exact fun b o _ _ n e _ => ⟨o.slots,k b o n e⟩
 case c4 => exact fun _ _ _ _ n => n
 case c5 => exact fun b o n e => ⟨o,k b o n e⟩
 case c6 => exact fun _ _ e => e
 case c7 => exact fun _ _ _ e => e
 case c8 => exact fun b ps e => ⟨#[],by rw [e,Array.append_empty]⟩
 case c9 =>
  rintro m ⟨o,es,ep,ho,r⟩
  exact ⟨o,es,ep,k _ o away ho,r⟩
 case c10 =>
  intro b u e
  refine (I.hok b u e).stay (fun c v hc q => k c v ?_ q) (fun _ q => q) fun _ _ q => q
  exact hc.elim (fun z => by rw [z]; exact far b u e) fun z => far c _ z
end
def Itzt (K : PySem.W.Frag) (a b : Addr) : It :=
  ⟨fun i H => ∃ xs ys x y,SqT K H a xs ∧ SqL K H b ys ∧ xs[i]? = some x ∧ ys[i]? = some y,
   fun i H v H' => ∃ T x y,v = .ref T ∧ H T = none ∧ H' = upd H T (.tup [x,y]) ∧ (∀ xs,SqT K H a xs → xs[i]? = some x) ∧ ∀ ys,SqL K H b ys → ys[i]? = some y,
   fun i H => ∃ xs,SqT K H a xs ∧ xs.length ≤ i⟩
structure ZipTAt (z TI TO i1 i2 a b : Addr) (i : Nat) (h : Heap) : Prop where
 zz : IsZip h z TI TO .none
 ti : IsPair h TI (.ref i1) (.ref i2)
 to : ∃ u v,IsPair h TO u v
 p1 : h.IsTupleIter i1 a i
 p2 : h.IsListIter i2 b i
theorem ZipTAt.obj {z TI TO i1 i2 a b : Addr} {i : Nat} {h : Heap} (Z : ZipTAt z TI TO i1 i2 a b i h) : ∀ c ∈ [z,TI,TO,i1,i2],∃ o,h.get? c = some o ∧ ∀ v,o.data ≠ .cell v := by
 obtain ⟨u,v,to⟩ := Z.to
 obtain ⟨o1,e1,c1,d1⟩ := Z.p1
 obtain ⟨o2,e2,c2,d2⟩ := Z.p2
 intro c hc
 simp only [List.mem_cons,List.not_mem_nil,or_false] at hc
 rcases hc with rfl | rfl | rfl | rfl | rfl
 ·exact ⟨_,Z.zz,fun v z => by cases (show Data.fields _ = Data.cell v from z)⟩
 ·exact ⟨_,Z.ti,fun v z => by cases (show Data.seq _ _ = Data.cell v from z)⟩
 ·exact ⟨_,to,fun v z => by cases (show Data.seq _ _ = Data.cell v from z)⟩
 ·exact ⟨o1,e1,fun v z => by rw [d1] at z; cases z⟩
 ·exact ⟨o2,e2,fun v z => by rw [d2] at z; cases z⟩
theorem turn_zipT {P : Program} {w : World} {K : PySem.W.Frag} {es : List Expr} {k : Nat} {pt : Pos} (z TI TO i1 i2 a b : Addr) (D : ZipApart z TI TO i1 i2 a b) : Turn P w K (.Tuple es k pt) (Itzt K a b) [z,TI,TO,i1,i2] z (ZipTAt z TI TO i1 i2 a b) where
 mem := List.mem_cons_self
 obj := fun i h st c hc => st.obj c hc
 keep := fun i h h' st k => by
  obtain ⟨u,v,to⟩ := st.to
  exact ⟨k z (by simp) _ st.zz,k TI (by simp) _ st.ti,⟨u,v,k TO (by simp) _ to⟩,st.p1.at fun o e => k i1 (by simp) o e,st.p2.at fun o e => k i2 (by simp) o e⟩
 item := by
  intro X hP hw hK hc i pins s σ H E I hf st hg
  subst hP hw hK
  obtain ⟨xs,ys,x,y,qa,qb,hx,hy⟩ := hg
  obtain ⟨its,r1,p1,_⟩ := I.tuple qa
  obtain ⟨jts,r2,p2,_⟩ := I.list qb
  obtain ⟨u,hu,ru⟩ := r1.get hx
  obtain ⟨v,hv,rv⟩ := r2.get hy
  obtain ⟨c,d,to⟩ := st.to
  refine next_zipTL D st.zz st.ti to st.p1 st.p2 (show s.heap.IsTuple a its.toArray from p1) p2.isList (x := u) (y := v) (by simpa using hu) (by simpa using hv) fun h' z1 z2 z3 z4 z5 kk => ?_
  refine ⟨_,rfl,wpAny_letOwnedTupleGo_zip z1 fun h'' w1 sb => ?_⟩
  have far : ∀ c ∈ [z,TI,TO,i1,i2],c ≠ s.heap.objs.size := fun c hc => by
   obtain ⟨o,e,_⟩ := st.obj c hc
   exact Nat.ne_of_lt (Heap.lt_size e)
  have J1 : Inv X pins σ (upd H s.heap.objs.size (.tup [x,y])) { s with heap := s.heap.push { cls := .type "tuple",data := .seq #[u,v] },toks := s.toks } :=
   I.laid (fun b o e => Heap.get?_push_of_some _ e) (Nat.le_refl _) ⟨by show 2 ≤ sizeLine; decide,[u,v],.cons ru (.cons rv .nil),⟨_,Heap.get?_push_size _ rfl,rfl,_,rfl⟩⟩
  have hf1 : ∀ c ∈ [z,TI,TO,i1,i2],FpOk X pins (upd H s.heap.objs.size (.tup [x,y])) c := fun c hc => by
   obtain ⟨f0,f1⟩ := hf c hc
   exact ⟨by rw [upd_ne (far c hc)]; exact f0,f1⟩
  have J2 : Inv X pins σ (upd H s.heap.objs.size (.tup [x,y])) { s with heap := h'',toks := s.toks } := by
   refine J1.turnedM (s := { s with heap := s.heap.push { cls := .type "tuple",data := .seq #[u,v] },toks := s.toks }) hf1 fun b o nb e => ?_
   simp only [List.mem_cons,List.not_mem_nil,or_false,not_or] at nb
   obtain ⟨n1,n2,n3,n4,n5⟩ := nb
   refine sb.extBut _ _ n1 ?_
   rcases Heap.get?_push_cases e with ⟨e1,e2⟩ | e1
   ·rw [e1,e2]; exact z5
   ·exact kk b o n1 n3 n4 n5 e1
  refine ⟨.ref s.heap.objs.size,_,J2,rfl,⟨_,x,y,rfl,I.hok.fresh (Nat.le_refl _),rfl,fun ys' hy' => ?_,fun ys' hy' => ?_⟩,?_,fun c hc => (hf1 c hc).1⟩
  ·rw [I.tuple_inj hy' qa]; exact hx
  ·rw [I.list_inj hy' qb]; exact hy
  ·exact ⟨w1,sb.extBut _ _ D.TIz (kk _ _ D.TIz D.TITO D.TIi1 D.TIi2 st.ti),⟨u,v,sb.extBut _ _ D.TOz z2⟩,z3.at fun o e => sb.extBut _ _ D.i1z e,z4.at fun o e => sb.extBut _ _ D.i2z e⟩
 done := by
  intro X hP hw hK hc i pins s σ H E I hf st hg
  subst hP hw hK
  obtain ⟨xs,qa,hi⟩ := hg
  obtain ⟨its,r1,p1,_⟩ := I.tuple qa
  have l1 := r1.length
  refine stop_zipTL (I.ok.hd hc) D st.zz st.ti st.p1 (show s.heap.IsTuple a its.toArray from p1) (by simp; omega) fun h' kk => ⟨rfl,I.turnedM (t' := s.toks) hf fun b o nb e => ?_⟩
  simp only [List.mem_cons,List.not_mem_nil,or_false,not_or] at nb
  exact kk b o nb.1 nb.2.2.2.1 e
 self := fun _ _ _ _ _ st h => wpAny_pyIter_zip st.zz h
section
variable {X : Cx}
theorem call_zipTL {prog : Program} {w : World} {A : Around} {E : Value → Shared → Prop} {s : Shared} {a b : Addr} {xs ys : Array Value} {Q : Value → Shared → Prop} (h1 : s.heap.IsTuple a xs) (h2 : s.heap.IsList b ys)
  (h : ∀ g,IsZip g (s.heap.objs.size + 4) (s.heap.objs.size + 2) (s.heap.objs.size + 3) .none → IsPair g (s.heap.objs.size + 2) (.ref s.heap.objs.size) (.ref (s.heap.objs.size + 1)) → IsPair g (s.heap.objs.size + 3) .none .none →
   g.IsTupleIter s.heap.objs.size a 0 → g.IsListIter (s.heap.objs.size + 1) b 0 → (∀ c o,s.heap.get? c = some o → g.get? c = some o) → Q (.ref (s.heap.objs.size + 4)) { s with heap := g }) : wpAny (model prog w) A (call (.type "zip") [.ref a,.ref b]) Q E s := by
 refine callType_new F.called_zip (by decide) (F.typeCall_zip_2 _ _) (F.newCall_zip_2 _ _) (fun obj => F.args_object_init_3 obj _ _) F.entry_zip_new (zip_newTL a b xs ys) ⟨h1,h2,?_⟩
 have s1 : (zT1 s.heap a).objs.size = s.heap.objs.size + 1 := Heap.size_push ..
 have s2 : (zT2 s.heap a b).objs.size = s.heap.objs.size + 2 := by rw [Heap.size_push,s1]
 have s3 : (zT3 s.heap a b).objs.size = s.heap.objs.size + 3 := by rw [Heap.size_push,s2]
 have s4 : (zT4 s.heap a b).objs.size = s.heap.objs.size + 4 := by rw [Heap.size_push,s3]
 have g5 : (zT5 s.heap a b).get? (zT4 s.heap a b).objs.size = some _ := Heap.get?_push_size _ rfl
 have g4 : (zT5 s.heap a b).get? (zT3 s.heap a b).objs.size = some _ := Heap.get?_push_of_some _ (Heap.get?_push_size _ rfl)
 have g3 : (zT5 s.heap a b).get? (zT2 s.heap a b).objs.size = some _ := Heap.get?_push_of_some _ (Heap.get?_push_of_some _ (Heap.get?_push_size _ rfl))
 have g2 : (zT5 s.heap a b).get? (zT1 s.heap a).objs.size = some _ := Heap.get?_push_of_some _ (Heap.get?_push_of_some _ (Heap.get?_push_of_some _ (Heap.get?_push_size _ rfl)))
 have g1 : (zT5 s.heap a b).get? s.heap.objs.size = some _ := Heap.get?_push_of_some _ (Heap.get?_push_of_some _ (Heap.get?_push_of_some _ (Heap.get?_push_of_some _ (Heap.get?_push_size _ rfl))))
 show _ ∧ _
 rw [s2,s3,s4] at g5
 rw [s1,s2] at g3
 rw [s3] at g4
 rw [s1] at g2
 rw [s4]
 exact ⟨⟨_,g5,rfl⟩,h _ g5 g3 g4 ⟨_,g1,rfl,rfl⟩ ⟨_,g2,rfl,rfl⟩ fun c o q => Heap.get?_push_of_some _ (Heap.get?_push_of_some _ (Heap.get?_push_of_some _ (Heap.get?_push_of_some _ (Heap.get?_push_of_some _ q))))⟩
def iZipT (K : PySem.W.Frag) (ta : TA) : TI := fun σ H R => ta σ H fun vs H1 => ∃ a b,vs = [.ref a,.ref b] ∧ (∃ xs,SqT K H1 a xs) ∧ (∃ ys,SqL K H1 b ys) ∧ R (Itzt K a b) H1
theorem qi_zipT {a b : Expr} {ta : TA} {p pos pt : Pos} {es : List Expr} {k : Nat} (hg : Gl X "zip") (hm : X.mg "zip" = none) (ha : QA X [a,b] ta) (hs : starEach [a,b] X.env = [(false,eval a X.env),(false,eval b X.env)] := by rfl) (hs2 : starEach [b] X.env = [(false,eval b X.env)] := by rfl) :
  QI X (.Tuple es k pt) (.Call (.Name "zip" p) [a,b] [] pos) (iZipT X.K ta) := ⟨by
 intro pins s σ H R I h
 refine Call_ (ld_blt I hg hm boot_zip (PyProof.Rows.callWith_type1 (thn (ha.p pos pins s σ H _ I h) fun us s1 ⟨vs,H1,I1,r1,q1⟩ => ?_) (by rw [hs,hs2]) (by rw [hs2]; rfl)))
 obtain ⟨x,y,rfl,⟨xs,qx⟩,⟨ys,qy⟩,q⟩ := q1
 obtain ⟨u,v,rfl,ru,rv⟩ := vals2 r1
 cases ru
 cases rv
 obtain ⟨its,_,p1,_⟩ := I1.tuple qx
 obtain ⟨jts,_,p2,_⟩ := I1.list qy
 have p1 : s1.heap.IsTuple x its.toArray := p1
 have lx : x < s1.heap.objs.size := by obtain ⟨o,e,_⟩ := p1; exact Heap.lt_size e
 have ly : y < s1.heap.objs.size := by obtain ⟨o,e,_⟩ := p2.isList; exact Heap.lt_size e
 refine call_zipTL p1 p2.isList fun h' z1 z2 z3 z4 z5 kk => wpAny_pyIter_zip z1 ?_
 have I2 : Inv X pins σ H1 { s1 with heap := h' } := I1.kept (t' := s1.toks) kk
 refine ⟨_,_,_,_,H1,rfl,I2,turn_zipT _ _ _ _ _ x y (zipApart_new lx ly),⟨z1,z2,⟨_,_,z3⟩,z4,z5⟩,fun c hc => ?_,q⟩
 have hb : s1.heap.objs.size ≤ c := by
  simp only [List.mem_cons,List.not_mem_nil,or_false] at hc
  rcases hc with q | q | q | q | q <;> rw [q] <;> first | exact Nat.le_add_right _ _ | exact Nat.le_refl _
 exact I1.fpOk hb (I1.hok.fresh hb)⟩
end
theorem comp_zipT {K : PySem.W.Frag} {a b : Addr} {xs zs : List V} {g : TG} {tc : TT} {te : TE} {k : Nat} {js : List Nat} {σ : St} {H : Hp} {Fin : Hp → Prop} {D : Addr} (Pv : Nat → List V → Hp → Prop) (h0 : Pv 0 [] (upd H D (.lst []))) (el : xs.length = zs.length)
  (hl : ∀ i ys H,i ≤ xs.length → Pv i ys H → SqT K H a xs ∧ SqL K H b zs) (hd : ∀ ys H,Pv xs.length ys H → H D = some (.lst ys) → Fin H)
  (hs : ∀ i x z T ys H,xs[i]? = some x → zs[i]? = some z → Pv i ys H → H D = some (.lst ys) → H T = none → g (.ref T) (List.replicate k none ++ cap js σ) (upd H T (.tup [x,z])) fun σ2 H2 => σ2.drop k = cap js σ ∧ tc σ2 H2 fun b H3 =>
   if b = true then te σ2 H3 fun y H4 => H4 D = some (.lst ys) ∧ ys.length < sizeLine ∧ Nx xs.length i (Pv (i + 1) (ys ++ [y]) (upd H4 D (.lst (ys ++ [y])))) else H3 D = some (.lst ys) ∧ Nx xs.length i (Pv (i + 1) ys H3)) :
  ∃ W : Nat → Nat → List V → Hp → Prop,(∃ m,W 0 m [] (upd H D (.lst []))) ∧ ∀ i m ys H,W i m ys H → H D = some (.lst ys) →
  ((Itzt K a b).stop i H ∧ Fin H) ∨ ((Itzt K a b).go i H ∧ ∀ x H',(Itzt K a b).yld i H x H' → g x (List.replicate k none ++ cap js σ) H' fun σ2 H2 => σ2.drop k = cap js σ ∧ tc σ2 H2 fun b H3 =>
   if b = true then te σ2 H3 fun y H4 => H4 D = some (.lst ys) ∧ ys.length < sizeLine ∧ ∃ m',m' < m ∧ W (i + 1) m' (ys ++ [y]) (upd H4 D (.lst (ys ++ [y])))
   else H3 D = some (.lst ys) ∧ ∃ m',m' < m ∧ W (i + 1) m' ys H3) := by
 refine ⟨fun i m ys H => m = xs.length - i ∧ i ≤ xs.length ∧ Pv i ys H,⟨xs.length,by simp,Nat.zero_le _,h0⟩,?_⟩
 rintro i m ys H ⟨rfl,hi,p⟩ hD
 obtain ⟨qa,qb⟩ := hl i ys H hi p
 by_cases hlt : i < xs.length
 ·have lt2 : i < zs.length := el ▸ hlt
  refine .inr ⟨⟨xs,zs,_,_,qa,qb,List.getElem?_eq_getElem hlt,List.getElem?_eq_getElem lt2⟩,?_⟩
  rintro v H' ⟨T,x,z,rfl,hT,rfl,h1,h2⟩
  exact hs i x z T ys H (h1 xs qa) (h2 zs qb) p hD hT
 ·obtain rfl : i = xs.length := by omega
  exact .inl ⟨⟨xs,qa,Nat.le_refl _⟩,hd ys H p hD⟩
end L2
end
section
namespace L2
open PySem PySem.Spec PyProof.Rows
inductive KDr (w : World) : List DictEntry → List (Str × Addr) → Prop
 | nil : KDr w [] []
 | cons {e : DictEntry} {es : List DictEntry} {x : Str} {a : Addr} {r : List (Str × Addr)} {t : Tok} : e.key = .str x t → e.hash = hashStr w x → e.val = .ref a → KDr w es r → KDr w (e :: es) ((x,a) :: r)
structure KD (K : PySem.W.Frag) (w : World) (d : Addr) (kvs : List (Str × Addr)) : Prop where
 ex : ∃ (o : Obj) (es : Array DictEntry) (ep : Nat),K.lookup d = some o ∧ o.ExactDict ∧ o.data = .dict es ep ∧ KDr w es.toList kvs
 ns : (d == sysModules) = false
def getR (kvs : List (Str × Addr)) (x : Str) : Option Addr := (kvs.find? fun p => decide (p.1 = x)).map (·.2)
theorem KDr.keys {P : Program} {w : World} : ∀ {es : List DictEntry} {kvs : List (Str × Addr)},KDr w es kvs → ∀ e ∈ es,∃ k,(mixKind P w).is k e.key = true ∧ e.hash = (mixKind P w).hash k
 | _,_,.nil,e,h => by cases h
 | _,_,.cons (x := x) hk hh hv r,e,h => by
  rcases List.mem_cons.mp h with rfl | h
  ·exact ⟨.inr x,by rw [hk]; exact mixKind_str P w x _,hh⟩
  ·exact r.keys e h
theorem KDr.find {w : World} {x : Str} : ∀ {es : List DictEntry} {kvs : List (Str × Addr)},KDr w es kvs → (es.find? fun e => keyIs (.inr x) e.key).map (·.val) = (getR kvs x).map Value.ref
 | _,_,.nil => rfl
 | _,_,.cons (x := y) (a := a) (t := t) hk hh hv r => by
  unfold getR
  rw [List.find?_cons,List.find?_cons,hk]
  have e : keyIs (.inr x) (.str y t) = decide (y = x) := by
   show Value.isStrOf x (.str y t) = _
   by_cases q : y = x
   ·rw [q,decide_eq_true rfl]; exact keyIs_str x t
   ·rw [decide_eq_false q]
    cases z : Value.isStrOf x (.str y t) with
    | false => rfl
    | true =>
     obtain ⟨t',e⟩ := Value.isStrOf_shape z
     cases e
     exact absurd rfl q
  rw [e]
  by_cases q : y = x
  ·rw [decide_eq_true q]
   exact congrArg some hv
  ·rw [decide_eq_false q]
   exact r.find
def tKGet (K : PySem.W.Frag) (w : World) (td ty : TE) : TE := fun σ H Q => td σ H fun x H1 => ∃ (a : Addr) (kvs : List (Str × Addr)),x = .ref a ∧ KD K w a kvs ∧ ty σ H1 fun y H2 => ∃ z,y = .str z ∧ (∀ b,getR kvs z = some b → Q (.ref b) H2) ∧ (getR kvs z = none → Q .non H2)
theorem qe_kget {X : Cx} {o e : Expr} {apos cpos : Pos} {td ty : TE} (ho : QE X o td) (he : QE X e ty) (m : M1 X o "get" apos e cpos := by exact ⟨by rfl,by rfl,by rfl,by rfl⟩) : QE X (.Call (.Attribute o "get" apos) [e] [] cpos) (tKGet X.K X.w td ty) := ⟨by
 intro pins s σ H Q I h
 refine wpAny_Call_method m.base m.few m.line PySem.F.plainAttrs_dict PySem.F.slot_dict_get PySem.F.type_dict_get (thn (ho.p pins s σ H _ I h) fun u s1 ⟨x,H1,I1,rx,a,kvs,ex,kd,q1⟩ => ?_)
 subst ex
 obtain rfl : u = Value.ref a := rx
 obtain ⟨ob,es,ep,hk,ed,hd,r⟩ := kd.ex
 have at_ : ∀ {s' : Shared},X.K.In s'.heap → s'.heap.get? a = some ob := fun q => q a ob hk
 refine ⟨⟨ob,at_ I1.kIn,ed.1⟩,fun b q => by cases q; exact ⟨ob,at_ I1.kIn,ed.2.1⟩,?_⟩
 rw [m.trees]
 refine Calls.callWith_builtin rfl (Calls.evalArgs_plain (Calls.spliced_cons (thn (he.p pins s1 σ H1 _ I1 q1) fun iv s2 ⟨y,H2,I2,ry,z,ez,k1,k2⟩ => Calls.spliced_nil ?_)))
 subst ez
 obtain ⟨t,rfl⟩ := ry
 have mo : s2.heap.MapOf (mixKind X.prog X.w) a (findBy keyIs es) := ⟨ob,es,ep,at_ I2.kIn,ed,hd,fun e he => r.keys e (by simpa using he),fun _ => rfl⟩
 refine call_meetsIn PySem.F.slot_dict_get ⟨ob,at_ I2.kIn,ed.1⟩ PySem.F.entry_dict_get (PySem.F.args_dict_get_2 _ _) (meets_dict_get (mixKind X.prog X.w) a (k := .inr z) (mixKind_str X.prog X.w z t) kd.ns) ⟨_,mo,?_⟩
 have ef : findBy keyIs es (.inr z) = (getR kvs z).map Value.ref := by
  rw [← r.find (x := z)]
  unfold findBy
  rw [← Array.find?_toList]
 show EP X pins σ Q ((findBy keyIs es (.inr z)).getD .none) _
 rw [ef]
 cases q : getR kvs z with
 | none => exact ⟨.non,H2,I2.tok _,rfl,k2 q⟩
 | some b => exact ⟨.ref b,H2,I2.tok _,rfl,k1 b q⟩⟩
end L2
end
section
namespace L2
open PySem PySem.Spec PyProof.Rows
def clip (n : Nat) (d : Nat) : Option Int → Nat
 | none => d
 | some i => (max 0 (min (if i < 0 then i + n else i) n)).toNat
theorem clip_le {n d : Nat} (h : d ≤ n) : ∀ o,clip n d o ≤ n
 | none => h
 | some i => by show (max 0 (min (if i < 0 then i + n else i) n)).toNat ≤ n; omega
theorem clip_nat {n d j : Nat} (h : j ≤ n) : clip n d (some (j : Int)) = j := by show (max 0 (min (if (j : Int) < 0 then (j : Int) + n else (j : Int)) n)).toNat = j; omega
theorem idx_clip (lo hi : Option Int) (n : Nat) : Builtin.Str.strSliceIndices lo hi 1 n = Builtin.Str.strSliceIndices (some (clip n 0 lo : Int)) (some ((max (clip n 0 lo) (clip n n hi) : Nat) : Int)) 1 n := by
 have ha := clip_le (Nat.zero_le n) lo
 have hb := clip_le (Nat.le_refl n) hi
 rw [StrLaws.strSliceIndices_plain (Nat.le_max_left _ _) (Nat.max_le.mpr ⟨ha,hb⟩)]
 clear ha hb
 have e1 : (match lo with | none => (0 : Int) | some i => max 0 (min (if i < 0 then i + n else i) n)) = (clip n 0 lo : Int) := by
  cases lo with
  | none => rfl
  | some i => show max 0 (min (if i < 0 then i + n else i) n) = (((max 0 (min (if i < 0 then i + n else i) n)).toNat : Nat) : Int); omega
 have e2 : (match hi with | none => (n : Int) | some i => max 0 (min (if i < 0 then i + n else i) n)) = (clip n n hi : Int) := by
  cases hi with
  | none => rfl
  | some i => show max 0 (min (if i < 0 then i + n else i) n) = (((max 0 (min (if i < 0 then i + n else i) n)).toNat : Nat) : Int); omega
 generalize clip n 0 lo = a at *
 generalize clip n n hi = b at *
 have e3 : Builtin.Str.strSliceIndices lo hi 1 n = sliceRange (a : Int) (b : Int) 1 := by
  rw [← e1,← e2]
  unfold Builtin.Str.strSliceIndices
  cases lo <;> cases hi <;> simp
 rw [e3]
 unfold sliceRange
 by_cases hlt : (a : Int) < b
 ·have e5 : max a b - a = b - a := by omega
  have e4 : (((b : Int) - a + 1 - 1) / 1).toNat = b - a := by first | omega | (simp; done) | (simp; omega)
  simp only [show ((1 : Int) > 0) = True from by simp,hlt,if_true,e4,e5]
  refine List.map_congr_left fun k _ => ?_
  omega
 ·have : max a b - a = 0 := by omega
  simp [hlt,this]
theorem slice_any (l : List Nat) (lo hi : Option Int) : Txt.slice (S l) lo hi = S ((l.drop (clip l.length 0 lo)).take (clip l.length l.length hi - clip l.length 0 lo)) := by
 have ha := clip_le (Nat.zero_le l.length) lo
 have hb := clip_le (Nat.le_refl l.length) hi
 have := slice_ab l (a := clip l.length 0 lo) (b := max (clip l.length 0 lo) (clip l.length l.length hi)) (Nat.le_max_left _ _) (Nat.max_le.mpr ⟨ha,hb⟩)
 rw [show max (clip l.length 0 lo) (clip l.length l.length hi) - clip l.length 0 lo = clip l.length l.length hi - clip l.length 0 lo by omega] at this
 rw [← this]
 unfold Txt.slice
 rw [S_len,idx_clip lo hi l.length]
theorem slice_to (l : List Nat) {j : Nat} (h : j ≤ l.length) : Txt.slice (S l) none (some (j : Int)) = S (l.take j) := by
 rw [slice_any,clip_nat h]
 show S ((l.drop 0).take (j - 0)) = _
 rw [List.drop_zero,Nat.sub_zero]
theorem slice_from (l : List Nat) {j : Nat} (h : j ≤ l.length) : Txt.slice (S l) (some (j : Int)) none = S (l.drop j) := by
 rw [slice_any,clip_nat h]
 show S ((l.drop j).take (l.length - j)) = _
 rw [List.take_of_length_le (by rw [List.length_drop]; exact Nat.le_refl _)]
theorem at_last {α : Type} (l : List α) (x : α) : atI (l ++ [x]) (-1) = some x := by
 unfold atI ixN
 have h1 : (l ++ [x]).length = l.length + 1 := by simp
 rw [h1,if_neg (by omega),if_pos (by omega)]
 show (l ++ [x])[((-1 : Int) + ((l.length + 1 : Nat) : Int)).toNat]? = some x
 rw [show ((-1 : Int) + ((l.length + 1 : Nat) : Int)).toNat = l.length by omega]
 simp
theorem slice_some (z : Str) (lo hi : Option Int) : ∃ l : List Nat,Txt.slice z lo hi = S l ∧ l.length ≤ z.length := by
 have e : z = S z.cps.toList := by show z = Str.mk _; simp
 rw [e,slice_any]
 refine ⟨_,rfl,?_⟩
 rw [S_len,List.length_take,List.length_drop]
 omega
theorem S_app (a b : List Nat) : S (a ++ b) = S a ++ S b := by
 show Str.mk (a ++ b).toArray = Str.mk (a.toArray ++ b.toArray)
 congr 1
 apply Array.toList_inj.mp
 simp
theorem S_of (z : Str) : z = S z.cps.toList := by show z = Str.mk _; simp
theorem S_list (l : List Nat) : (S l).cps.toList = l := by show l.toArray.toList = l; simp
theorem S_inj {a b : List Nat} (h : S a = S b) : a = b := by
 have := congrArg (fun z => z.cps.toList) h
 rwa [S_list,S_list] at this
def rRepS : R2 := fun x y H Q => ∃ (l : List Nat) (k : Nat),x = .str (S l) ∧ y = .int (k : Int) ∧ k ≤ 1000000 ∧ l.length * k ≤ 1000000 ∧ Q (.str (S (List.replicate k l).flatten)) H
theorem fold_app (l : List Nat) : ∀ (k : Nat) (a : Array Nat),(List.replicate k l.toArray).foldl (· ++ ·) a = a ++ ((List.replicate k l).flatten).toArray
 | 0,a => by simp
 | k + 1,a => by
  rw [List.replicate_succ,List.foldl_cons,fold_app l k,List.replicate_succ,List.flatten_cons]
  apply Array.toList_inj.mp
  simp
theorem op_rep_str {X : Cx} : OpR X (binaryOp .Mult) rRepS := by
 intro pins s σ H x y v u Q I rx ry h
 obtain ⟨l,k,rfl,rfl,hk,hz,q⟩ := h
 obtain ⟨t,rfl⟩ := rx
 obtain ⟨t',rfl⟩ := ry
 refine PySem.P.mul_str ?_ (fun h1 h2 => ?_) (fun h1 h2 => ?_) ?_
 ·rw [decide_eq_false (by omega),decide_eq_false (by omega)]
  rfl
 ·rw [S_len]
  have k1 : 1 ≤ k := by omega
  have := Int.le_ediv_of_mul_le (a := (l.length : Int)) (b := (2 ^ 63 - 1)) (c := (k : Int)) (by omega) (by
   have : ((l.length * k : Nat) : Int) ≤ 1000000 := by omega
   rw [Int.natCast_mul] at this
   omega)
  omega
 ·rw [S_len]
  show decide ((l.length * (k : Int).toNat) > sizeLine) = false
  refine decide_eq_false fun z => ?_
  have : l.length * (k : Int).toNat ≤ 1000000 := hz
  exact absurd (Nat.lt_of_lt_of_le z this) (by decide)
 ·by_cases k0 : (k : Int) < 1
  ·rw [if_pos k0]
   have : k = 0 := by omega
   subst this
   exact ⟨by decide,⟨.str _,H,I.tok _,⟨_,rfl⟩,q⟩⟩
  ·rw [if_neg k0]
   by_cases k1 : (((k : Int) == 1) || ((S l).length == 0)) = true
   ·rw [if_pos k1]
    refine ⟨.str _,H,I,⟨t,?_⟩,q⟩
    have : (List.replicate k l).flatten = l := by
     rw [Bool.or_eq_true] at k1
     rcases k1 with z | z
     ·have : k = 1 := by have := eq_of_beq z; omega
      subst this
      simp
     ·have : l = [] := by
       have z := eq_of_beq z
       rw [S_len] at z
       exact List.eq_nil_of_length_eq_zero z
      subst this
      simp
    rw [this]
   ·rw [if_neg k1]
    refine ⟨?_,⟨.str _,H,I.tok _,⟨s.toks,?_⟩,q⟩⟩
    ·show ((List.replicate k (S l).cps).foldl (· ++ ·) #[]).size ≤ sizeLine
     show ((List.replicate k l.toArray).foldl (· ++ ·) #[]).size ≤ sizeLine
     rw [fold_app]
     simp
     exact Nat.le_trans (by rw [Nat.mul_comm]; exact hz) (by decide)
    ·show Value.str ⟨(List.replicate k l.toArray).foldl (· ++ ·) #[]⟩ _ = _
     rw [fold_app,Array.empty_append]
     rfl
end L2
end
section
namespace L2
open PySem PySem.Spec PyProof.Rows
def joinL (c : Nat) : List (List Nat) → List Nat
 | [] => []
 | [w] => w
 | w :: v :: r => w ++ (c :: joinL c (v :: r))
theorem join_S (c : Nat) : ∀ ws : List (List Nat),Str.join (S [c]) (ws.map S) = S (joinL c ws)
 | [] => rfl
 | [w] => rfl
 | w :: v :: r => by
  show S w ++ S [c] ++ Str.join (S [c]) ((v :: r).map S) = _
  rw [join_S c (v :: r),← S_app,← S_app]
  show S (w ++ [c] ++ joinL c (v :: r)) = S (w ++ (c :: joinL c (v :: r)))
  rw [List.append_assoc]
  rfl
theorem joinT_S (c : Nat) (ws : List (List Nat)) : Txt.join (S [c]) (ws.map S) = S (joinL c ws) := by
 unfold Txt.join
 rw [StrLaws.glued_eq_join]
 exact join_S c ws
theorem word_end {c : Nat} : ∀ {a b u v : List Nat},c ∉ a → c ∉ b → a ++ (c :: u) = b ++ (c :: v) → a = b ∧ u = v
 | [],[],u,v,_,_,h => ⟨rfl,(List.cons.inj h).2⟩
 | [],y :: b,u,v,_,hb,h => absurd (List.mem_cons.mpr (.inl (List.cons.inj h).1)) hb
 | x :: a,[],u,v,ha,_,h => absurd (List.mem_cons.mpr (.inl (List.cons.inj h).1.symm)) ha
 | x :: a,y :: b,u,v,ha,hb,h => by
  obtain ⟨h1,h2⟩ := List.cons.inj h
  obtain ⟨e1,e2⟩ := word_end (fun z => ha (List.mem_cons_of_mem _ z)) (fun z => hb (List.mem_cons_of_mem _ z)) h2
  exact ⟨by rw [h1,e1],e2⟩
theorem joinL_inj {c : Nat} : ∀ {ws vs : List (List Nat)},ws ≠ [] → vs ≠ [] → (∀ w ∈ ws,c ∉ w) → (∀ w ∈ vs,c ∉ w) → joinL c ws = joinL c vs → ws = vs
 | [],_,h,_,_,_,_ => absurd rfl h
 | _,[],_,h,_,_,_ => absurd rfl h
 | [w],[v],_,_,_,_,e => by rw [show w = v from e]
 | [w],v :: v2 :: vs,_,_,hw,hv,e => by
  have e : w = v ++ (c :: joinL c (v2 :: vs)) := e
  exact absurd (by rw [e]; simp) (hw w List.mem_cons_self)
 | w :: w2 :: ws,[v],_,_,hw,hv,e => by
  have e : w ++ (c :: joinL c (w2 :: ws)) = v := e
  exact absurd (by rw [← e]; simp) (hv v List.mem_cons_self)
 | w :: w2 :: ws,v :: v2 :: vs,_,_,hw,hv,e => by
  obtain ⟨e1,e2⟩ := word_end (hw w List.mem_cons_self) (hv v List.mem_cons_self) (show w ++ (c :: joinL c (w2 :: ws)) = v ++ (c :: joinL c (v2 :: vs)) from e)
  rw [e1,joinL_inj (List.cons_ne_nil _ _) (List.cons_ne_nil _ _) (fun u m => hw u (List.mem_cons_of_mem _ m)) (fun u m => hv u (List.mem_cons_of_mem _ m)) e2]
theorem joinL_le (c : Nat) : ∀ {ws : List (List Nat)} {w : List Nat},w ∈ ws → w.length ≤ (joinL c ws).length
 | [v],w,h => by rw [List.mem_singleton.mp h]; exact Nat.le_refl _
 | v :: v2 :: vs,w,h => by
  show w.length ≤ (v ++ (c :: joinL c (v2 :: vs))).length
  rw [List.length_append,List.length_cons]
  rcases List.mem_cons.mp h with rfl | h
  ·omega
  ·have := joinL_le c h
   omega
theorem joinL_many (c : Nat) : ∀ {ws : List (List Nat)},ws ≠ [] → ws.length ≤ (joinL c ws).length + 1
 | [],h => absurd rfl h
 | [v],_ => by show 1 ≤ v.length + 1; omega
 | v :: v2 :: vs,_ => by
  have := joinL_many c (List.cons_ne_nil v2 vs)
  show (v2 :: vs).length + 1 ≤ (v ++ (c :: joinL c (v2 :: vs))).length + 1
  rw [List.length_append,List.length_cons (a := c)]
  omega
theorem split_words (l : List Nat) (c : Nat) : ∃ ws : List (List Nat),Txt.split (S l) (S [c]) = ws.map S ∧ ws ≠ [] ∧ (∀ w ∈ ws,c ∉ w) ∧ joinL c ws = l := by
 have e : Txt.split (S l) (S [c]) = ((Txt.split (S l) (S [c])).map (·.cps.toList)).map S := by
  rw [List.map_map]
  have : (S ∘ fun z : Str => z.cps.toList) = id := funext fun z => (S_of z).symm
  rw [this,List.map_id]
 refine ⟨(Txt.split (S l) (S [c])).map (·.cps.toList),e,?_,?_,?_⟩
 ·intro z
  have z : Txt.split (S l) (S [c]) = [] := List.map_eq_nil_iff.mp z
  unfold Txt.split at z
  split at z
  ·cases z
  ·split at z
   ·cases z
   ·unfold Builtin.Str.partsBetween at z
    have z := List.map_eq_nil_iff.mp z
    rcases q : Builtin.Str.occurrences (S l) (S [c]) 0 (S l).length ((S l).length + 1) with _ | ⟨a,r⟩
    ·rw [q] at z; cases z
    ·rw [q] at z; cases z
 ·intro w hw
  obtain ⟨p,hp,rfl⟩ := List.mem_map.mp hw
  exact StrLaws.split_free (S l) c p hp
 ·have j := StrLaws.join_split (S l) (S [c])
  rw [e,join_S] at j
  exact S_inj j
theorem strs_vals : ∀ (ws : List Str) (n : Nat),Vals (ws.map V.str) (strsFrom n ws)
 | [],_ => .nil
 | w :: ws,n => .cons ⟨n,rfl⟩ (strs_vals ws (n + 1))
section
variable {X : Cx}
def rSplit : V → List V → Hp → VK → Prop := fun x vs H Q => ∃ (l : List Nat) (c : Nat),x = .str (S l) ∧ vs = [.str (S [c])] ∧ l.length ≤ 1000000 ∧ ∀ ws : List (List Nat),ws ≠ [] → (∀ w ∈ ws,c ∉ w) → joinL c ws = l → ∀ D,H D = none → Q (.ref D) (upd H D (.lst ((ws.map S).map V.str)))
theorem mt_split : MtR X "str.split" rSplit := by
 intro pins s σ H x vs v us Q I rx rv h
 obtain ⟨l,c,rfl,rfl,hl,q⟩ := h
 obtain ⟨t,rfl⟩ := rx
 obtain ⟨u,rfl,ru⟩ := rv.one
 obtain ⟨t2,rfl⟩ := ru
 obtain ⟨ws,e,w0,w1,w2⟩ := split_words l c
 have hn := I.hok.fresh (Nat.le_refl s.heap.objs.size)
 have len : ws.length ≤ sizeLine := by
  have := joinL_many c w0
  rw [w2] at this
  exact Nat.le_trans this (Nat.le_trans (Nat.succ_le_succ hl) (by decide))
 have fin : ∀ (vals : List Value) (tk : Nat),Vals ((Txt.split (S l) (S [c])).map V.str) vals → EP X pins σ Q (.ref s.heap.objs.size) { s with toks := tk,heap := s.heap.push { cls := .type "list",data := .seq vals.toArray } } := fun vals tk hv => by
  refine ⟨.ref s.heap.objs.size,_,I.laid (t' := tk) (o := .lst ((ws.map S).map V.str)) (fun _ _ q => Heap.get?_push_of_some _ q) (Nat.le_refl _) ⟨?_,?_⟩,rfl,q ws w0 w1 w2 _ hn⟩
  ·rw [List.length_map,List.length_map]; exact len
  ·rw [← e]
   exact ⟨vals,_,hv,Heap.get?_push_size _ rfl⟩
 have hsz : (S l).length ≤ sizeLine := by rw [S_len]; exact Nat.le_trans hl (by decide)
 have hy : ((S [c]).length == 0) = false := rfl
 cases h1 : (decide ((S l).length < (S [c]).length) || decide (Builtin.Str.strKind (S l) < Builtin.Str.strKind (S [c])))
 ·cases hf : (Builtin.Str.occurrences (S l) (S [c]) 0 (S l).length ((S l).length + 1)).isEmpty
  ·have es : Txt.split (S l) (S [c]) = Builtin.Str.partsBetween (S l) (Builtin.Str.occurrences (S l) (S [c]) 0 (S l).length ((S l).length + 1)) (S [c]).length := (if_neg (ne_true_of_eq_false h1)).trans (if_neg (ne_true_of_eq_false hf))
   refine call_meets F.slot_str_split (typeIs_str _ _ _) F.entry_str_split (F.args_str_split_2 _ _) (meets_str_split_sep (S l) (S [c]) t t2 h1 hy hf hsz ?_) ?_
   ·rw [← es,e,List.length_map]; exact len
   ·refine fin _ _ ?_
    rw [es]
    exact strs_vals _ _
  ·have es : Txt.split (S l) (S [c]) = [S l] := (if_neg (ne_true_of_eq_false h1)).trans (if_pos hf)
   refine call_meets F.slot_str_split (typeIs_str _ _ _) F.entry_str_split (F.args_str_split_2 _ _) (meets_str_split_not_found (S l) (S [c]) t t2 h1 hy hf) (fin [.str (S l) t] _ ?_)
   rw [es]
   exact .cons ⟨t,rfl⟩ .nil
 ·have es : Txt.split (S l) (S [c]) = [S l] := if_pos h1
  refine call_meets F.slot_str_split (typeIs_str _ _ _) F.entry_str_split (F.args_str_split_2 _ _) (meets_str_split_cannot_occur (S l) (S [c]) t t2 h1) (fin [.str (S l) t] _ ?_)
  rw [es]
  exact .cons ⟨t,rfl⟩ .nil
theorem call_str_any : CallR X (.type "str") (fun xs H Q => (∃ i : Int,xs = [.int i] ∧ i.natAbs.log2 < 1920 ∧ Q (.str (toString i)) H) ∨ ∃ z,xs = [.str z] ∧ Q (.str z) H) := by
 intro pins s σ H xs us Q I r h
 rcases h with ⟨i,rfl,hz,q⟩ | ⟨z,rfl,q⟩
 ·obtain ⟨u,rfl,t,rfl⟩ := vals1 r
  exact PySem.P.str_of_int hz ⟨.str _,H,I.tok _,⟨_,rfl⟩,q⟩
 ·obtain ⟨u,rfl,t,rfl⟩ := vals1 r
  exact PySem.P.str_of_str ⟨.str z,H,I,⟨t,rfl⟩,q⟩
end
end L2
end
section
namespace L2
open PySem PySem.Spec PyProof.Rows
def Iten (K : PySem.W.Frag) (a : Addr) : It :=
  ⟨fun i H => ∃ xs x,SqL K H a xs ∧ xs[i]? = some x,
   fun i H v H' => ∃ T x,v = .ref T ∧ H T = none ∧ H' = upd H T (.tup [.int (i : Int),x]) ∧ ∀ xs,SqL K H a xs → xs[i]? = some x,
   fun i H => ∃ xs,SqL K H a xs ∧ xs.length ≤ i⟩
structure EnAt (e it a : Addr) (i : Nat) (h : Heap) : Prop where
 ee : ∃ old,IsEnum h e it i old
 p1 : h.IsListIter it a i
theorem EnAt.obj {e it a : Addr} {i : Nat} {h : Heap} (Z : EnAt e it a i h) : ∀ c ∈ [e,it],∃ o,h.get? c = some o ∧ ∀ v,o.data ≠ .cell v := by
 obtain ⟨old,ee⟩ := Z.ee
 obtain ⟨o1,e1,c1,d1⟩ := Z.p1
 intro c hc
 simp only [List.mem_cons,List.not_mem_nil,or_false] at hc
 rcases hc with rfl | rfl
 ·exact ⟨_,ee,fun v z => by cases (show Data.fields _ = Data.cell v from z)⟩
 ·exact ⟨o1,e1,fun v z => by rw [d1] at z; cases z⟩
theorem turn_enum {P : Program} {w : World} {K : PySem.W.Frag} {es : List Expr} {k : Nat} {pt : Pos} (e it a : Addr) (ne : e ≠ it) : Turn P w K (.Tuple es k pt) (Iten K a) [e,it] e (EnAt e it a) where
 mem := List.mem_cons_self
 obj := fun i h st c hc => st.obj c hc
 keep := fun i h h' st k => by
  obtain ⟨old,ee⟩ := st.ee
  exact ⟨⟨old,k e (by simp) _ ee⟩,st.p1.at fun o q => k it (by simp) o q⟩
 item := by
  intro X hP hw hK hc i pins s σ H E I hf st hg
  subst hP hw hK
  obtain ⟨xs,x,qa,hx⟩ := hg
  obtain ⟨its,r1,p1,_⟩ := I.list qa
  obtain ⟨u,hu,ru⟩ := r1.get hx
  obtain ⟨old,ee⟩ := st.ee
  refine wpAny_pyNext_enum_item ee st.p1 p1.isList (x := u) (by simpa using hu) ne fun h' z1 z2 z3 z4 kk => ?_
  refine ⟨_,rfl,wpAny_letOwnedTupleGo_enum z1 fun h'' w1 sb => ?_⟩
  have far : ∀ c ∈ [e,it],c ≠ s.heap.objs.size := fun c hc => by
   obtain ⟨o,q,_⟩ := st.obj c hc
   exact Nat.ne_of_lt (Heap.lt_size q)
  have J1 : Inv X pins σ (upd H s.heap.objs.size (.tup [.int (i : Int),x])) { s with heap := s.heap.push { cls := .type "tuple",data := .seq #[.int i s.toks,u] },toks := s.toks + 1 } :=
   I.laid (fun b o q => Heap.get?_push_of_some _ q) (Nat.le_refl _) ⟨by show 2 ≤ sizeLine; decide,[.int i s.toks,u],.cons ⟨_,rfl⟩ (.cons ru .nil),⟨_,Heap.get?_push_size _ rfl,rfl,_,rfl⟩⟩
  have hf1 : ∀ c ∈ [e,it],FpOk X pins (upd H s.heap.objs.size (.tup [.int (i : Int),x])) c := fun c hc => by
   obtain ⟨f0,f1⟩ := hf c hc
   exact ⟨by rw [upd_ne (far c hc)]; exact f0,f1⟩
  have J2 : Inv X pins σ (upd H s.heap.objs.size (.tup [.int (i : Int),x])) { s with heap := h'',toks := s.toks + 1 } := by
   refine J1.turnedM (s := { s with heap := s.heap.push { cls := .type "tuple",data := .seq #[.int i s.toks,u] },toks := s.toks + 1 }) hf1 fun b o nb q => ?_
   simp only [List.mem_cons,List.not_mem_nil,or_false,not_or] at nb
   refine sb.extBut _ _ nb.1 ?_
   rcases Heap.get?_push_cases q with ⟨e1,e2⟩ | e1
   ·rw [e1,e2]; exact z3
   ·exact kk b o nb.1 nb.2 e1
  refine ⟨.ref s.heap.objs.size,_,J2,rfl,⟨_,x,rfl,I.hok.fresh (Nat.le_refl _),rfl,fun ys' hy' => ?_⟩,?_,fun c hc => (hf1 c hc).1⟩
  ·rw [I.list_inj hy' qa]; exact hx
  ·exact ⟨⟨_,by simpa using w1⟩,z2.at fun o q => sb.extBut _ _ (Ne.symm ne) q⟩
 done := by
  intro X hP hw hK hc i pins s σ H E I hf st hg
  subst hP hw hK
  obtain ⟨xs,qa,hi⟩ := hg
  obtain ⟨its,r1,p1,_⟩ := I.list qa
  obtain ⟨old,ee⟩ := st.ee
  have l1 := r1.length
  refine wpAny_pyNext_enum_end (I.ok.hd hc) ee st.p1 p1.isList (by simp; omega) fun h' kk => ⟨rfl,I.turnedM (t' := s.toks) hf fun b o nb q => ?_⟩
  simp only [List.mem_cons,List.not_mem_nil,or_false,not_or] at nb
  exact kk b o nb.2 q
 self := fun _ _ _ _ _ st h => by
  obtain ⟨old,ee⟩ := st.ee
  exact wpAny_pyIter_enum ee h
section
variable {X : Cx}
def iEnum (K : PySem.W.Frag) (ta : TA) : TI := fun σ H R => ta σ H fun vs H1 => ∃ a,vs = [.ref a] ∧ (∃ xs,SqL K H1 a xs) ∧ R (Iten K a) H1
theorem qi_enum {a : Expr} {ta : TA} {p pos pt : Pos} {es : List Expr} {k : Nat} (hg : Gl X "enumerate") (hm : X.mg "enumerate" = none) (ha : QA X [a] ta) (hs : starEach [a] X.env = [(false,eval a X.env)] := by rfl) :
  QI X (.Tuple es k pt) (.Call (.Name "enumerate" p) [a] [] pos) (iEnum X.K ta) := ⟨by
 intro pins s σ H R I h
 refine Call_ (ld_blt I hg hm boot_enumerate (PyProof.Rows.callWith_type1 (thn (ha.p pos pins s σ H _ I h) fun us s1 ⟨vs,H1,I1,r1,q1⟩ => ?_) hs rfl))
 obtain ⟨x,rfl,⟨xs,qx⟩,q⟩ := q1
 obtain ⟨u,rfl,ru⟩ := vals1 r1
 cases ru
 obtain ⟨its,_,p1,_⟩ := I1.list qx
 refine call_enumerate_list p1.isList fun h' z1 z2 z3 kk => wpAny_pyIter_enum z1 ?_
 have I2 : Inv X pins σ H1 { s1 with heap := h' } := I1.kept (t' := s1.toks) kk
 refine ⟨_,_,_,_,H1,rfl,I2,turn_enum _ _ x (Nat.ne_of_gt (Nat.lt_succ_self _)),⟨⟨_,z1⟩,z2⟩,fun c hc => ?_,q⟩
 have hb : s1.heap.objs.size ≤ c := by
  simp only [List.mem_cons,List.not_mem_nil,or_false] at hc
  rcases hc with q | q <;> rw [q] <;> first | exact Nat.le_add_right _ _ | exact Nat.le_refl _
 exact I1.fpOk hb (I1.hok.fresh hb)⟩
end
theorem for_enum {K : PySem.W.Frag} {a : Addr} {xs : List V} {g : TG} {tb : TS} {D : Ends} {σ : St} {H : Hp} (Pv : Nat → St → Hp → Prop) (h0 : Pv 0 σ H) (hl : ∀ i σ H,i ≤ xs.length → Pv i σ H → SqL K H a xs)
  (hs : ∀ i x T σ H,xs[i]? = some x → Pv i σ H → H T = none → g (.ref T) σ (upd H T (.tup [.int (i : Int),x])) fun σ2 H2 => tb { D with nx := Pv (i + 1),ct := Pv (i + 1),bk := D.nx } σ2 H2) (hd : ∀ σ H,Pv xs.length σ H → D.nx σ H) :
  ∃ W : Nat → Nat → St → Hp → Prop,(∃ m,W 0 m σ H) ∧ ∀ i m σ H,W i m σ H →
   ((Iten K a).stop i H ∧ D.nx σ H) ∨ ((Iten K a).go i H ∧ ∃ N : St → Hp → Prop,(∀ σ' H',N σ' H' → ∃ m',m' < m ∧ W (i + 1) m' σ' H') ∧ ∀ x H',(Iten K a).yld i H x H' → g x σ H' fun σ2 H2 => tb { D with nx := N,ct := N,bk := D.nx } σ2 H2) := by
 refine ⟨fun i m σ H => m = xs.length - i ∧ i ≤ xs.length ∧ Pv i σ H,⟨_,rfl,Nat.zero_le _,h0⟩,?_⟩
 rintro i m σ H ⟨rfl,hi,p⟩
 have qa := hl i σ H hi p
 rcases Nat.lt_or_ge i xs.length with lt | ge
 ·refine .inr ⟨⟨xs,_,qa,List.getElem?_eq_getElem lt⟩,Pv (i + 1),fun σ' H' p' => ⟨_,?_,rfl,lt,p'⟩,?_⟩
  ·omega
  ·rintro v H' ⟨T,x,rfl,hT,rfl,h1⟩
   exact hs i x T σ H (h1 xs qa) p hT
 ·obtain rfl : i = xs.length := Nat.le_antisymm hi ge
  exact .inl ⟨⟨xs,qa,Nat.le_refl _⟩,hd σ H p⟩
end L2
end
section
namespace L2
open PySem PySem.Spec PyProof.Rows PySem.SeqAt
section
variable {X : Cx} {tg l o e : Expr} {tl to : TE} {es : List Expr} {t : TA} {name : Str} {apos cpos : Pos} {T id : String} {r : V → List V → Hp → VK → Prop}
theorem mt_joinK (K : PySem.W.Frag) (h : X.K = K) : MtR X "str.join" (rJoin K) := by
 subst h
 exact mt_join
theorem qi_tupK (K : PySem.W.Frag) (h : X.K = K) (q : QE X l tl) : QI X tg l (iTup K tl) := by
 subst h
 exact qi_tup q
theorem qe_bmK (K : PySem.W.Frag) (hK : X.K = K) (pa : PlainAttrs T) (slot : Slot T name id) (hty : typeOf (.builtin id) = pure (.type "method_descriptor")) (hm : MtR X id r) (ho : QE X o to) (ha : QA X (e :: es) t)
  (hbase : attributeBase o name X.env (eval o X.env) = eval o X.env := by rfl)
  (hfew : ((backTo cpos (starEach (e :: es) X.env)).all (fun x => !x.1) && (backToKw cpos (keywordEach [] X.env)).all (fun x => x.1.isSome)
   && decide ((e :: es).length + ([] : List Keyword).length + (if ([] : List Keyword).isEmpty then 0 else 1) < 30)) = true := by rfl)
  (hline : (apos.endLine == cpos.line) = true := by rfl) (hs : starEach (e :: es) X.env = (false,eval e X.env) :: starEach es X.env := by rfl) (hplain : (backTo cpos (starEach es X.env)).any (·.1) = false := by rfl) :
  QE X (.Call (.Attribute o name apos) (e :: es) [] cpos) (tBM K T r to t) := by
 subst hK
 exact ⟨pe_bm pa slot hty hm ho.p ha.p hbase hfew hline hs hplain⟩
end
def retSn (st : Stmt) : List (Str × NameKind) :=
 match defBody st with
 | [.Return (some (.Call _ [.ListComp _ _ sc _] _ _)) _] => sc.names
 | _ => []
section
variable {X : Cx}
end
end L2
end
section
set_option maxHeartbeats 2000000
namespace L2
open PySem PySem.Spec PyProof.Rows
abbrev FnLook := Str × Str × Arguments × FuncBody × Scope × Addr × List (Str × Addr) × Value × Addr
def fnLook (K : PySem.W.Frag) : Option (Option Value) → Option FnLook
 | some (some (.ref f)) => (match K.lookup f with
   | some ⟨_,_,.func fd,_⟩ => some (fd.name,fd.qualname,fd.params,fd.body,fd.scope,fd.globals,fd.closure,fd.defaults,fd.builtins)
   | _ => none)
 | _ => none
def fnGood (K : PySem.W.Frag) (q : Str) : Option (Option Value) → Bool
 | some (some (.ref f)) => (match K.lookup f with
   | some ⟨_,_,.func fd,_⟩ => PySem.W.codeIn K fd.code q && PySem.W.keepIn K (.ref f)
   | _ => false)
 | _ => false
def fnWant (x q : Str) (st : Stmt) : Option FnLook := some (x,q,defArgs st,.stmts (defBody st),defScope st,mainGlobals,[],.none,builtinsNs)
theorem fun_of {K : PySem.W.Frag} {v : Option (Option Value)} {x q : Str} {st : Stmt} (e : fnLook K v = fnWant x q st) (g : fnGood K q v = true) :
  ∃ (f : Addr) (oc : Value) (od an : Option Addr) (osl : Array (Option Value)) (kV doc pm cdv ct : Value),v = some (some (.ref f)) ∧ K.lookup f = some ⟨oc,od,.func (PySem.W.fnOf x q (defArgs st) (defBody st) (defScope st) .none kV doc pm an cdv ct),osl⟩ ∧ PySem.W.codeIn K cdv q = true ∧ PySem.W.keepIn K (.ref f) = true := by
 unfold fnLook at e
 split at e
 ·rename_i f
  split at e
  ·rename_i oc od fd osl hl
   unfold fnWant at e
   simp only [Option.some.injEq,Prod.mk.injEq] at e
   obtain ⟨h1,h2,h3,h4,h5,h6,h7,h8,h9⟩ := e
   simp only [fnGood,hl,Bool.and_eq_true] at g
   refine ⟨f,oc,od,fd.annotations,osl,fd.kwdefaults,fd.doc,fd.pyModule,fd.code,fd.closureTuple,rfl,?_,g.1,g.2⟩
   rw [hl,← h1,← h2,← h3,← h5,← h8]
   cases fd
   simp only at h4 h6 h7 h9
   subst h4 h6 h7 h9
   rfl
  ·cases e
 ·cases e
def methAt (K : PySem.W.Frag) (C m : Str) : Option (Option Value) := match PySem.W.nsIn K mainGlobals C with
 | some (some (.ref c)) => PySem.W.findIn K (.ref c) m
 | _ => none
def fragOf (h : Heap) (as : List Addr) : PySem.W.Frag := as.filterMap fun a => (h.get? a).map (a,·)
theorem fragOf_in (h : Heap) : ∀ as : List Addr,(fragOf h as).In h
 | [],a,o,e => by cases e
 | b :: as,a,o,e => by
  unfold fragOf at e
  rw [List.filterMap_cons] at e
  cases q : h.get? b with
  | none =>
   rw [q] at e
   exact fragOf_in h as a o e
  | some u =>
   rw [q] at e
   simp only [Option.map_some,List.lookup_cons] at e
   by_cases z : (a == b) = true
   ·rw [z] at e
    have e1 : u = o := Option.some.inj e
    have e2 : a = b := beq_iff_eq.mp z
    rw [← e1,e2]
    exact q
   ·rw [Bool.not_eq_true] at z
    rw [z] at e
    exact fragOf_in h as a o e
end L2
end
section
set_option maxHeartbeats 2000000
namespace L2
open PySem PySem.Spec PyProof.Rows PySem.W
def topRunT (p : Program) (w : World) (n₀ : Nat) (ann : Option Value) : Nat → SharedT → Thread → Option SharedT
 | 0,_,_ => none
 | n + 1,s,t => match through t with
  | true => some s
  | false => match stepOk n₀ ann t with
   | false => none
   | true => match stepT (denote treeTable) p w s t with
    | some (s',t') => topRunT p w n₀ ann n s' t'
    | none => none
theorem topRunT_of {p : Program} {w : World} {n₀ : Nat} {ann : Option Value} {s' : SharedT} : ∀ {n : Nat} {s : SharedT} {t : Thread},topRunT p w n₀ ann n s t = some s' → topRun treeTable p w n₀ ann n s.abs t = some s'.abs := by
 intro n
 induction n with
 | zero => intro s t h; cases h
 | succ n ih =>
  intro s t h
  unfold topRunT at h
  unfold topRun
  split at h
  ·rename_i e
   rw [e]
   exact congrArg (fun x => some (SharedT.abs x)) (Option.some.inj h)
  ·rename_i e
   rw [e]
   split at h
   ·cases h
   ·rename_i e2
    rw [e2]
    split at h
    ·rename_i s2 t2 e3
     rw [stepT_spec e3]
     exact ih h
    ·cases h
def treeOf (l : List Obj) : BT := (l.foldl (fun (x : BT × Nat) o => (x.1.ins x.2 o,x.2 + 1)) (BT.nil,0)).1
noncomputable def bootS (w : World) (os : OsState) : SharedT := ⟨treeOf (boot_heap w.params).objs.toList,(boot_heap w.params).objs.size,(boot_heap w.params).life,Array.mk [],boot_drawn,boot_toks,os⟩
theorem bootS_abs (w : World) (os : OsState) : (bootS w os).abs = ⟨boot_heap w.params,Array.mk [],boot_drawn,boot_toks,os⟩ := by kernel_rfl
noncomputable def runT (p : Program) (N : Nat) (w : World) (os : OsState) : Option SharedT := topRunT p w (boot_heap w.params).objs.size ((boot_heap w.params).nsMap mainGlobals "__annotations__") N (bootS w os) (topStub p)
noncomputable def endOk (p : Program) (w : World) (s : Shared) : Bool := staticsOk (importedModules p.main.body) (boot_heap w.params) s.heap && namesBound p s.heap && gensDone s && laidKept (boot_heap w.params) s.heap
theorem boot_ns (w : World) : ((boot_heap w.params).isNs mainGlobals && (Array.mk ([] : List GenState)).size == 0) = true := by kernel_rfl
theorem left_of {p q : Program} {loose : List Str} {Xt : Shared → Bool} {α : Type} {Yf : Shared → α} {Ya : World → α} {N : Nat} (e : opening p = plainProg p.main.scope.names) (hN : Nat.ble 600 N = true) (f : ∀ s,fenceModules? p s = some s)
  (h : ∀ w os,∃ s : SharedT,runT p N w os = some s ∧ endOk p w s.abs = true ∧ openSeen q loose (importedModules p.main.body) Xt true s.abs = openGood q loose ∧ Yf s.abs = Ya w) : LeftO p q loose Xt Yf Ya N := fun w => by
 obtain ⟨⟨h0,g0,d0,k0,os⟩,hs,hv⟩ := Option.map_eq_some_iff.mp (boot_open e hN f w)
 simp only [Prod.mk.injEq] at hv
 obtain ⟨rfl,rfl,rfl,rfl⟩ := hv
 obtain ⟨s,hr,ho,hv,hy⟩ := h w os
 have run := topRunT_of hr
 rw [bootS_abs] at run
 unfold openEnds
 rw [hs]
 show (topFrom treeTable p w N ⟨boot_heap w.params,Array.mk [],boot_drawn,boot_toks,os⟩).map _ = _
 unfold topFrom
 dsimp only
 rw [boot_ns w]
 dsimp only
 rw [run]
 show ((match endOk p w s.abs with | true => some s.abs | false => none) : Option Shared).map _ = _
 rw [ho]
 show some (openSeen q loose (importedModules p.main.body) Xt true s.abs,Yf s.abs) = _
 rw [hv,hy]
end L2
end
section
set_option maxHeartbeats 2000000
namespace L2
open PySem PySem.Spec PyProof.Rows
def txtOf : Value → Option Str
 | .str x _ => some x
 | _ => none
def txtsOf : List Value → Option (List Str)
 | [] => some []
 | v :: r => match txtOf v,txtsOf r with
  | some x,some xs => some (x :: xs)
  | _,_ => none
def tupLook (K : PySem.W.Frag) : Value → Option (List Str)
 | .ref a => match K.lookup a with
  | some ⟨c,_,.seq its _,_⟩ => if c == .type "tuple" && Nat.ble its.size 1000 then txtsOf its.toList else none
  | _ => none
 | _ => none
abbrev EntLook := Str × Int × List Str
def entsLook (K : PySem.W.Frag) : List DictEntry → Option (List EntLook)
 | [] => some []
 | e :: r => match txtOf e.key,tupLook K e.val,entsLook K r with
  | some x,some ts,some l => some ((x,e.hash,ts) :: l)
  | _,_,_ => none
def dictLook (K : PySem.W.Frag) : Option (Option Value) → Option (List EntLook)
 | some (some (.ref d)) => match K.lookup d with
  | some ⟨c,od,.dict es _,sl⟩ => if c == .type "dict" && (od.isNone && (sl.size == 0 && !(d == sysModules))) then entsLook K es.toList else none
  | _ => none
 | _ => none
theorem txts_vals : ∀ {vs : List Value} {xs : List Str},txtsOf vs = some xs → Vals (xs.map V.str) vs
 | [],xs,h => by
  have : xs = [] := (Option.some.inj h).symm
  subst this
  exact .nil
 | v :: r,xs,h => by
  unfold txtsOf at h
  cases q : txtsOf r with
  | none => rw [q] at h; cases p : txtOf v <;> rw [p] at h <;> cases h
  | some ys =>
   rw [q] at h
   cases v with
   | str x t =>
    have : xs = x :: ys := (Option.some.inj h).symm
    subst this
    exact .cons ⟨t,rfl⟩ (txts_vals q)
   | _ => cases h
theorem tup_of {K : PySem.W.Frag} {v : Value} {xs : List Str} (h : tupLook K v = some xs) : ∃ a,v = .ref a ∧ ∀ H,SqT K H a (xs.map V.str) := by
 unfold tupLook at h
 split at h
 ·rename_i a
  split at h
  ·rename_i c od its n sl hl
   split at h
   ·rename_i hc
    rw [Bool.and_eq_true] at hc
    refine ⟨a,rfl,fun H => .inr ⟨_,its,n,hl,beq_iff_eq.mp hc.1,rfl,?_,txts_vals h⟩⟩
    exact Nat.le_trans (Nat.le_of_ble_eq_true hc.2) (by decide)
   ·cases h
  ·cases h
 ·cases h
theorem ents_of {K : PySem.W.Frag} {w : World} : ∀ {es : List DictEntry} {l : List EntLook},entsLook K es = some l → (∀ e ∈ l,e.2.1 = hashStr w e.1) → ∃ as : List Addr,as.length = l.length ∧ KDr w es ((l.map (·.1)).zip as) ∧ ∀ (i : Nat) (e : EntLook) (a : Addr),l[i]? = some e → as[i]? = some a → ∀ H,SqT K H a (e.2.2.map V.str)
 | [],l,h,_ => by
  have : l = [] := (Option.some.inj h).symm
  subst this
  exact ⟨[],rfl,.nil,fun i e a h => by simp at h⟩
 | e :: r,l,h,hw => by
  unfold entsLook at h
  split at h
  ·rename_i x ts l' h1 h2 h3
   have : l = (x,e.hash,ts) :: l' := (Option.some.inj h).symm
   subst this
   obtain ⟨as,e1,e2,e3⟩ := ents_of (w := w) h3 fun e he => hw e (List.mem_cons_of_mem _ he)
   obtain ⟨a,ea,sq⟩ := tup_of h2
   obtain ⟨t,ek⟩ : ∃ t,e.key = .str x t := by
    cases q : e.key with
    | str y t => rw [q] at h1; cases h1; exact ⟨t,rfl⟩
    | _ => rw [q] at h1; cases h1
   refine ⟨a :: as,by rw [List.length_cons,List.length_cons,e1],.cons ek (hw (x,e.hash,ts) List.mem_cons_self) ea e2,fun i e' a' h1' h2' => ?_⟩
   cases i with
   | zero => cases h1'; cases h2'; exact sq
   | succ i => exact e3 i e' a' h1' h2'
  ·cases h
theorem dict_of {K : PySem.W.Frag} {w : World} {v : Option (Option Value)} {l : List EntLook} (h : dictLook K v = some l) (hw : ∀ e ∈ l,e.2.1 = hashStr w e.1) :
  ∃ (d : Addr) (as : List Addr),v = some (some (.ref d)) ∧ as.length = l.length ∧ KD K w d ((l.map (·.1)).zip as) ∧ ∀ (i : Nat) (e : EntLook) (a : Addr),l[i]? = some e → as[i]? = some a → ∀ H,SqT K H a (e.2.2.map V.str) := by
 unfold dictLook at h
 split at h
 ·rename_i d
  split at h
  ·rename_i hl
   split at h
   ·rename_i hc
    simp only [Bool.and_eq_true,beq_iff_eq,Bool.not_eq_true'] at hc
    obtain ⟨c1,c2,c3,c4⟩ := hc
    obtain ⟨as,e1,e2,e3⟩ := ents_of (w := w) h hw
    refine ⟨d,as,rfl,e1,⟨⟨_,_,_,hl,⟨c1,?_,?_⟩,rfl,e2⟩,c4⟩,e3⟩
    ·exact Option.isNone_iff_eq_none.mp c2
    ·exact Array.eq_empty_of_size_eq_zero c3
   ·cases h
  ·cases h
 ·cases h
theorem walk_ofW {l : PySem.W.OpenLaw} {n k : Nat} {q : Program} {loose : List Str} {XP : (Str → Option Value) → Heap → Prop} {Fa : World → PySem.W.Frag → Prop} {d : DefRec} {CX : CXT} {sp : PySem.W.Frag → Sp} {x : Str}
  (hn : l.most = some n) (hn2 : n ≤ sizeLine) (hdf : d.params.defaults = []) (hr : Room k callerA)
  (F : ∀ (w : World) (K : PySem.W.Frag) (mg : Str → Option Value) (fa : Addr) (h : Heap),Fa w K → K.In h → h.Ns mainGlobals mg → mg d.name = some (.ref fa) →
   ∃ fd : FuncData,(∀ (s : Shared) (u : Value),BindsTo s fd ⟨[u],[]⟩ [(x,u)]) ∧ ∀ base : Heap,K.In base → base.Ns mainGlobals mg → FnOk l.prog w K mg base CX k fa fd [x] (sp K))
  (hsp : ∀ (K : PySem.W.Frag) (H : Hp) (a : Addr) (ns : List Int),ns.length ≤ n → Only H → SqL K H a (ns.map V.int) → sp K [.ref a] H (fun v _ => v = .bl true) fun _ _ _ => False)
  (hCX : ∀ (H : Hp) (s : Shared) (e : Value) (s' : Shared),CX [] H s (fun _ _ _ => False) e s' → False) :
  PySem.W.WalkO q loose XP (fun w h => ∃ K : PySem.W.Frag,Fa w K ∧ K.In h) l.row.toRowW d [] (fun f vs => PySem.call f vs) := by
 refine Att.attach_call hn hdf fun w s₀ s₁ mg mb fa o pm cd doc a vs ns G Y ho hd hcd hmg hobj hints hlen hg => ?_
 obtain ⟨K,hF0,KX⟩ := Y
 obtain ⟨fd,hb,hF⟩ := F w K mg fa _ hF0 KX G.T.g hmg
 exact law_call KX G.T.g G.T.b G.T.builtins G.T.nolimit hg hobj hints (Nat.le_trans hlen hn2) hr hF hb (fun H hO hS => hsp K H a ns hlen hO hS) fun H e s' => hCX H s₁ e s'
end L2
end
section
namespace K85
inductive Tx where
 | non
 | num (neg : Bool) (ds : List Nat)
 | nam (z : List Nat)
 | seq (b : Bool) (vs : List Tx)
def opn (b : Bool) : Nat := if b then 40 else 91
def cls (b : Bool) : Nat := if b then 41 else 93
mutual
def txt : Tx → List Nat
 | .non => [95]
 | .num neg ds => if neg then 45 :: ds else ds
 | .nam z => z
 | .seq b vs => opn b :: (txts vs ++ [cls b])
def txts : List Tx → List Nat
 | [] => []
 | v :: r => txt v ++ tails r
def tails : List Tx → List Nat
 | [] => []
 | v :: r => 44 :: (txt v ++ tails r)
end
inductive Res (α : Type) where
 | ok (v : α) (rest : List Nat)
 | bad (rest : List Nat)
def lead (a b : Nat) : Nat → List Nat → Nat
 | 0,_ => 0
 | _ + 1,[] => 0
 | m + 1,c :: r => if a ≤ c ∧ c ≤ b then lead a b m r + 1 else 0
def pfig (neg : Bool) (l : List Nat) : Res Tx := match l with
 | [] => .bad []
 | c :: r => if 49 ≤ c ∧ c ≤ 57 then .ok (.num neg ((c :: r).take (lead 48 57 300 (c :: r)))) ((c :: r).drop (lead 48 57 300 (c :: r))) else .bad (c :: r)
def pnum (l : List Nat) : Res Tx := match l with
 | [] => .bad []
 | c :: r => if c = 48 then .ok (.num false [48]) r else if c = 45 then pfig true r else pfig false (c :: r)
def pclose (b : Bool) (vs : List Tx) (l : List Nat) : Res Tx := match l with
 | [] => .bad []
 | c :: r => if c = cls b then .ok (.seq b vs) r else .bad (c :: r)
def ploop (f : List Nat → Res Tx) (b : Bool) : Nat → List Nat → List Tx → Res Tx
 | 0,l,vs => pclose b vs l
 | _ + 1,[],vs => pclose b vs []
 | n + 1,c :: r,vs => if c = 44 then (match f r with | .ok v r' => ploop f b n r' (vs ++ [v]) | .bad r' => .bad r') else pclose b vs (c :: r)
def pparts (f : List Nat → Res Tx) (b : Bool) (l : List Nat) : Res Tx :=
 if l.head? = some (cls b) then pclose b [] l else (match f l with | .ok v r => ploop f b l.length r [v] | .bad r => .bad r)
def pv : Nat → List Nat → Res Tx
 | _,[] => .bad []
 | 0,c :: r => if c = 95 then .ok .non r else if 97 ≤ c ∧ c ≤ 122 then .ok (.nam ((c :: r).take (lead 97 122 8 (c :: r)))) ((c :: r).drop (lead 97 122 8 (c :: r))) else pnum (c :: r)
 | room + 1,c :: r => if c = 95 then .ok .non r else if 97 ≤ c ∧ c ≤ 122 then .ok (.nam ((c :: r).take (lead 97 122 8 (c :: r)))) ((c :: r).drop (lead 97 122 8 (c :: r))) else
   if c = 40 then pparts (pv room) true r else if c = 91 then pparts (pv room) false r else pnum (c :: r)
theorem close_ok {b : Bool} {vs : List Tx} {l r : List Nat} {v : Tx} (h : pclose b vs l = .ok v r) : v = .seq b vs ∧ l = cls b :: r := by
 cases l with
 | nil => cases h
 | cons c l =>
  have h : (if c = cls b then Res.ok (.seq b vs) l else .bad (c :: l)) = .ok v r := h
  by_cases e : c = cls b
  ·rw [if_pos e] at h
   cases h
   exact ⟨rfl,by rw [e]⟩
  ·rw [if_neg e] at h
   cases h
theorem loop_ok {f : List Nat → Res Tx} (hf : ∀ l v r,f l = .ok v r → l = txt v ++ r) {b : Bool} : ∀ (n : Nat) (l : List Nat) (vs : List Tx) (v : Tx) (r : List Nat),ploop f b n l vs = .ok v r → ∃ ws,v = .seq b (vs ++ ws) ∧ l = tails ws ++ (cls b :: r)
 | 0,l,vs,v,r,h => by
  obtain ⟨h1,h2⟩ := close_ok (show pclose b vs l = .ok v r from h)
  exact ⟨[],by rw [List.append_nil]; exact h1,h2⟩
 | n + 1,[],vs,v,r,h => by
  obtain ⟨h1,h2⟩ := close_ok (show pclose b vs [] = .ok v r from h)
  cases h2
 | n + 1,c :: l,vs,v,r,h => by
  have h : (if c = 44 then (match f l with | .ok v r' => ploop f b n r' (vs ++ [v]) | .bad r' => .bad r') else pclose b vs (c :: l)) = .ok v r := h
  by_cases e : c = 44
  ·rw [if_pos e] at h
   cases q : f l with
   | bad r' => rw [q] at h; cases h
   | ok v1 r1 =>
    rw [q] at h
    obtain ⟨ws,h1,h2⟩ := loop_ok hf n r1 (vs ++ [v1]) v r h
    refine ⟨v1 :: ws,by rw [h1,List.append_assoc]; rfl,?_⟩
    show c :: l = 44 :: (txt v1 ++ tails ws) ++ (cls b :: r)
    rw [e,hf l v1 r1 q,h2]
    simp
  ·rw [if_neg e] at h
   obtain ⟨h1,h2⟩ := close_ok h
   exact ⟨[],by rw [List.append_nil]; exact h1,h2⟩
theorem parts_ok {f : List Nat → Res Tx} (hf : ∀ l v r,f l = .ok v r → l = txt v ++ r) {b : Bool} {l r : List Nat} {v : Tx} (h : pparts f b l = .ok v r) : opn b :: l = txt v ++ r := by
 unfold pparts at h
 by_cases e : l.head? = some (cls b)
 ·rw [if_pos e] at h
  obtain ⟨rfl,rfl⟩ := close_ok h
  show opn b :: cls b :: r = (opn b :: ([] ++ [cls b])) ++ r
  rfl
 ·rw [if_neg e] at h
  cases q : f l with
  | bad r' => rw [q] at h; cases h
  | ok v1 r1 =>
   rw [q] at h
   obtain ⟨ws,rfl,h2⟩ := loop_ok hf _ _ _ _ _ h
   show opn b :: l = (opn b :: ((txt v1 ++ tails ws) ++ [cls b])) ++ r
   rw [hf l v1 r1 q,h2]
   simp
theorem fig_ok {neg : Bool} {l r : List Nat} {v : Tx} (h : pfig neg l = .ok v r) : (if neg then 45 :: l else l) = txt v ++ r := by
 cases l with
 | nil => cases h
 | cons c l =>
  have h : (if 49 ≤ c ∧ c ≤ 57 then Res.ok (.num neg ((c :: l).take (lead 48 57 300 (c :: l)))) ((c :: l).drop (lead 48 57 300 (c :: l))) else .bad (c :: l)) = .ok v r := h
  by_cases e : 49 ≤ c ∧ c ≤ 57
  ·rw [if_pos e] at h
   cases h
   have td := List.take_append_drop (lead 48 57 300 (c :: l)) (c :: l)
   cases neg with
   | true => show 45 :: (c :: l) = (45 :: (c :: l).take _) ++ _; rw [List.cons_append,td]
   | false => exact td.symm
  ·rw [if_neg e] at h
   cases h
theorem num_ok {l r : List Nat} {v : Tx} (h : pnum l = .ok v r) : l = txt v ++ r := by
 cases l with
 | nil => cases h
 | cons c l =>
  have h : (if c = 48 then Res.ok (.num false [48]) l else if c = 45 then pfig true l else pfig false (c :: l)) = .ok v r := h
  by_cases e : c = 48
  ·rw [if_pos e] at h
   cases h
   rw [e]
   rfl
  ·rw [if_neg e] at h
   by_cases e2 : c = 45
   ·rw [if_pos e2] at h
    rw [e2]
    exact fig_ok h
   ·rw [if_neg e2] at h
    exact fig_ok h
theorem pv_ok : ∀ (room : Nat) (l : List Nat) (v : Tx) (r : List Nat),pv room l = .ok v r → l = txt v ++ r
 | 0,[],v,r,h => by cases h
 | _ + 1,[],v,r,h => by cases h
 | 0,c :: l,v,r,h => by
  have h : (if c = 95 then Res.ok .non l else if 97 ≤ c ∧ c ≤ 122 then .ok (.nam ((c :: l).take (lead 97 122 8 (c :: l)))) ((c :: l).drop (lead 97 122 8 (c :: l))) else pnum (c :: l)) = .ok v r := h
  by_cases e : c = 95
  ·rw [if_pos e] at h
   cases h
   rw [e]; rfl
  rw [if_neg e] at h
  by_cases e2 : 97 ≤ c ∧ c ≤ 122
  ·rw [if_pos e2] at h
   cases h
   exact (List.take_append_drop _ _).symm
  rw [if_neg e2] at h
  exact num_ok h
 | room + 1,c :: l,v,r,h => by
  have h : (if c = 95 then Res.ok .non l else if 97 ≤ c ∧ c ≤ 122 then .ok (.nam ((c :: l).take (lead 97 122 8 (c :: l)))) ((c :: l).drop (lead 97 122 8 (c :: l))) else
   if c = 40 then pparts (pv room) true l else if c = 91 then pparts (pv room) false l else pnum (c :: l)) = .ok v r := h
  by_cases e : c = 95
  ·rw [if_pos e] at h
   cases h
   rw [e]; rfl
  rw [if_neg e] at h
  by_cases e2 : 97 ≤ c ∧ c ≤ 122
  ·rw [if_pos e2] at h
   cases h
   exact (List.take_append_drop _ _).symm
  rw [if_neg e2] at h
  by_cases e3 : c = 40
  ·rw [if_pos e3] at h
   rw [e3]
   exact parts_ok (pv_ok room) h
  rw [if_neg e3] at h
  by_cases e4 : c = 91
  ·rw [if_pos e4] at h
   rw [e4]
   exact parts_ok (pv_ok room) h
  rw [if_neg e4] at h
  exact num_ok h
theorem pv_len {room : Nat} {l r : List Nat} {v : Tx} (h : pv room l = .ok v r) : r.length ≤ l.length := by
 rw [pv_ok room l v r h,List.length_append]
 omega
theorem pv_nil : ∀ room,pv room [] = .bad []
 | 0 => rfl
 | _ + 1 => rfl
def pread (l : List Nat) : Res Tx := match pv 30 l with
 | .ok v [] => .ok v []
 | .ok _ (c :: r) => .bad (c :: r)
 | .bad r => .bad r
end K85
end
section
set_option maxHeartbeats 8000000
namespace K85
open PySem L2 PyProof.Rows
def top (i : Nat) : Stmt := PySem.Challenge.pw_weirmark_k85_questions_refused.main.body.getD i (.Pass ⟨0,0,0,0⟩)
structure Txt (mg : Str → Option Value) : Prop where
 len : mg "len" = none
 abs : mg "abs" = none
 range : mg "range" = none
 isinstance : mg "isinstance" = none
 int : mg "int" = none
 bool : mg "bool" = none
 max : mg "max" = none
 min : mg "min" = none
 str : mg "str" = none
 list : mg "list" = none
 tuple : mg "tuple" = none
 all : mg "all" = none
 zip : mg "zip" = none
 enumerate : mg "enumerate" = none
 ValueError : mg "ValueError" = none
def But (p : Addr) (H H' : Hp) : Prop := ∀ b o,H b = some o → b ≠ p → H' b = some o
theorem But.refl (p : Addr) (H : Hp) : But p H H := fun _ _ h _ => h
theorem But.trans {p : Addr} {H H1 H2 : Hp} (a : But p H H1) (b : But p H1 H2) : But p H H2 := fun c o h n => b c o (a c o h n) n
theorem But.upd (p : Addr) (H : Hp) (o : HO) : But p H (upd H p o) := fun c u h n => by rw [upd_ne n]; exact h
theorem But.new {p D : Addr} {H : Hp} (o : HO) (h : H D = none) : But p H (L2.upd H D o) := fun c u e n => by rw [upd_ne (ne_of_none e h)]; exact e
theorem Same.new {D : Addr} {H : Hp} (o : HO) (h : H D = none) : Same H (upd H D o) := fun c u e => by rw [upd_ne (ne_of_none e h)]; exact e
theorem Same.but {p : Addr} {H H' : Hp} (h : Same H H') : But p H H' := fun c u e _ => h c u e
def Hand (H : Hp) (p c : Addr) : Prop := ∃ (d n : Int) (cs : List Int),H p = some (.lst [.int d,.int n,.ref c]) ∧ H c = some (.lst (cs.map V.int)) ∧ cs ≠ []
theorem Hand.ne {H : Hp} {p c : Addr} (h : Hand H p c) : c ≠ p := by
 obtain ⟨d,n,cs,hp,hc,h0⟩ := h
 refine ne_of hc hp fun z => ?_
 have z : cs.map V.int = [.int d,.int n,.ref c] := by injection z
 match cs,z with
 | [_,_,_],z => simp at z
theorem Hand.set {H : Hp} {p c : Addr} (h : Hand H p c) (d n : Int) : Hand (upd H p (.lst [.int d,.int n,.ref c])) p c := by
 obtain ⟨_,_,cs,hp,hc,h0⟩ := id h
 exact ⟨d,n,cs,upd_same,by rw [upd_ne h.ne]; exact hc,h0⟩
theorem Hand.same {H H' : Hp} {p c : Addr} (h : Hand H p c) (k : Same H H') : Hand H' p c := by
 obtain ⟨d,n,cs,hp,hc,h0⟩ := h
 exact ⟨d,n,cs,k _ _ hp,k _ _ hc,h0⟩
theorem Hand.at {H : Hp} {p c : Addr} (h : Hand H p c) : ∃ o,H p = some o := by
 obtain ⟨d,n,cs,hp,_⟩ := h
 exact ⟨_,hp⟩
theorem Hand.new {H : Hp} {p c D : Addr} (h : Hand H p c) (o : HO) (e : H D = none) : Hand (upd H D o) p c := h.same (Same.new o e)
theorem Hand.free {H H' : Hp} {p c b : Addr} (h : Hand H' p c) (k : But p H H') (e : H' b = none) : H b = none := by
 obtain ⟨o',hp⟩ := h.at
 cases q : H b with
 | none => rfl
 | some o =>
  have : b ≠ p := fun z => by rw [z,hp] at e; cases e
  rw [k b o q this] at e; cases e
theorem Hand.nef {H : Hp} {p c D : Addr} (h : Hand H p c) (e : H D = none) : D ≠ p := fun z => by
 obtain ⟨o,hp⟩ := h.at
 rw [z,hp] at e; cases e
def spDraw : Sp := fun vs H Q _ => ∃ (p c : Addr) (many : Int),vs = [.ref p,.int many] ∧ Hand H p c ∧ 0 < many ∧ many < 1073741824 ∧ ∀ (r : Int) (H' : Hp),0 ≤ r → r < many → Hand H' p c → But p H H' → Q (.int r) H'
def spOpen (K : PySem.W.Frag) : Sp := fun vs H Q _ => ∃ (a : Addr) (ns : List Int) (pl : Int),vs = [.ref a,.int pl] ∧ SqL K H a (ns.map V.int) ∧ ns.length ≤ 63 ∧ 0 ≤ pl ∧ pl ≤ 1000 ∧ ∀ (p c : Addr) (H' : Hp),H p = none → Hand H' p c → Same H H' → Q (.ref p) H'
def spFar : Sp := fun vs H Q _ => ∃ (p c : Addr) (bound : Int),vs = [.ref p,.int bound] ∧ Hand H p c ∧ 0 < bound ∧ ∀ (r : Int) (H' : Hp),0 ≤ r → r < bound → Hand H' p c → But p H H' → Q (.int r) H'
abbrev s_draw : Stmt := top 47
theorem sc_draw : FnScope ["_law_hand","_law_many","_law_got","_law_cell","_law_number_here"] ["_law_hand","_law_many"] (defScope s_draw) := ⟨rfl,rfl,rfl,by decide +kernel,rfl,by decide +kernel,by decide +kernel⟩
abbrev s_open : Stmt := top 46
theorem sc_open : FnScope ["_law_script","_law_place","_law_cells","_law_at","_law_digits"] ["_law_script","_law_place"] (defScope s_open) := ⟨rfl,rfl,rfl,by decide +kernel,rfl,by decide +kernel,by decide +kernel⟩
abbrev s_far : Stmt := top 48
theorem sc_far : FnScope ["_law_hand","_law_bound","_law_total","_law_k"] ["_law_hand","_law_bound"] (defScope s_far) := ⟨rfl,rfl,rfl,by decide +kernel,rfl,by decide +kernel,by decide +kernel⟩
theorem at_mod (cs : List Int) (h0 : cs ≠ []) (n : Int) : ∃ x : Int,atI (cs.map V.int) (n % ((cs.map V.int).length : Int)) = some (.int x) := by
 have hl := List.length_pos_iff.mpr h0
 have e : (cs.map V.int).length = cs.length := List.length_map ..
 have h1 := Int.emod_nonneg n (b := ((cs.map V.int).length : Int)) (by omega)
 have h2 := Int.emod_lt_of_pos n (b := ((cs.map V.int).length : Int)) (by omega)
 obtain ⟨j,hj⟩ := Int.eq_ofNat_of_zero_le h1
 rw [hj]
 have hlt : j < cs.length := by omega
 exact ⟨cs[j],atI_nat (by rw [List.getElem?_map,List.getElem?_eq_getElem hlt]; rfl)⟩
theorem mulR {i j : Int} (h1 : -(2 ^ 64) < j) (h2 : j < 2 ^ 64) : CMul i j := .inr ⟨h1,h2⟩
theorem mulM {i a m : Int} (h0 : 0 < m := by decide) (h1 : m ≤ 2147483647 := by decide) : CMul i (a % m) := by
 have b1 := Int.emod_nonneg a (b := m) (by omega)
 have b2 := Int.emod_lt_of_pos a h0
 exact .inr ⟨by omega,by omega⟩
theorem pos1 : (0 : Int) < 2147483647 := by decide
theorem pos2 : (0 : Int) < 998244353 := by decide
theorem pos3 : (0 : Int) < 1000000007 := by decide
theorem mulL {i j : Int} (h1 : -(2 ^ 64) < i) (h2 : i < 2 ^ 64) : CMul i j := .inl ⟨h1,h2⟩
section
variable {P : Program} {w : World} {K : PySem.W.Frag} {mg : Str → Option Value} {base : Heap}
theorem ok_draw {f : Addr} {fd : FuncData} (L : Lk K mg "_law_draw" s_draw ["_law_hand","_law_many"] f fd) (T : Txt mg) : Callee P w K mg base "_law_draw" ["_law_hand","_law_many"] 1 spDraw := by
 refine L.callee (L.F.ok sc_draw (fun vs H Q E h => ?_) (fun cdv A outer s H vs Q E hr h => ?_))
 ·obtain ⟨p,c,many,rfl,_⟩ := h
  rfl
 ·obtain ⟨p,c,many,rfl,hh,m0,m1,k⟩ := h
  obtain ⟨d,n,cs,hp,hc,h0⟩ := id hh
  refine ⟨_,(QB.p (qb_cn (qs_if (qt_cmpR op_gt (qe_ix ix_list (qv 0) qe_int (fun _ _ => rfl)) qe_int (nomark _)) (qb_cn (qs_set (i := 2) sc_draw.nd rfl (Or.inl rfl) (qe_op op_mod (qe_ix ix_list (qv 0) qe_int (fun _ _ => rfl)) (qv 1)))
   (qb_cn (qs_asg (qe_op op_fdiv (qe_ix ix_list (qv 0) qe_int (fun _ _ => rfl)) (qv 1)) (qg_sub (qv 0) qe_int set_list))
   (qb_one (qs_ret (qv 2))))) qb_nil)
   (qb_cn (qs_augS (qv 0) qe_int get_list qe_int ip_add set_list)
   (qb_cn (qs_set (i := 3) sc_draw.nd rfl (Or.inl rfl) (qe_op op_mod (qe_ix ix_list (qe_ix ix_list (qv 0) qe_int (fun _ _ => rfl)) (qe_op op_mod (qe_ix ix_list (qv 0) qe_int (fun _ _ => rfl)) (qe_callB call_len_seq (by rfl) T.len PySem.boot_len (qa_cn (qe_ix ix_list (qv 0) qe_int (fun _ _ => rfl)) qa_nil))) (fun _ _ => rfl)) qe_int))
   (qb_cn (qs_set (i := 4) sc_draw.nd rfl (Or.inl rfl) (qe_op op_mod (qe_op op_add (qe_op op_add (qe_op op_mul (qv 3) qe_int) (qe_op op_mul (qe_ix ix_list (qv 0) qe_int (fun _ _ => rfl)) qe_int)) qe_int) qe_int))
   (qb_cn (qs_set (i := 4) sc_draw.nd rfl (Or.inl rfl) (qe_op op_mod (qe_op op_add (qe_op op_mul (qv 4) (qv 4)) (qe_ix ix_list (qv 0) qe_int (fun _ _ => rfl))) qe_int))
   (qb_cn (qs_set (i := 4) sc_draw.nd rfl (Or.inl rfl) (qe_op op_mod (qe_op op_add (qe_op op_mul (qv 4) qe_int) qe_int) qe_int))
   (qb_one (qs_ret (qe_op op_mod (qe_op op_fdiv (qe_op op_mod (qe_op op_mul (qv 4) (qv 4)) qe_int) qe_int) (qv 1))))))))))),?_⟩
  refine ⟨_,rfl,p,_,_,_,rfl,rfl,SqL.of hp,rfl,_,_,rfl,rfl,_,rfl,?_⟩
  refine ite2 (fun _ => ?_) (fun _ => ?_)
  ·refine ⟨_,rfl,p,_,_,_,rfl,rfl,SqL.of hp,rfl,_,rfl,_,_,rfl,rfl,m0,?_⟩
   refine ⟨_,rfl,p,_,_,_,rfl,rfl,SqL.of hp,rfl,_,rfl,_,_,rfl,rfl,⟨m0,m1⟩,_,rfl,p,_,_,_,rfl,rfl,hp,rfl,_,rfl,?_⟩
   exact k _ _ (Int.emod_nonneg _ (by omega)) (Int.emod_lt_of_pos _ m0) (hh.set _ n) (But.upd p H _)
  ·refine ⟨_,rfl,p,_,1,_,rfl,rfl,SqL.of hp,rfl,_,_,rfl,rfl,p,_,_,_,rfl,rfl,hp,rfl,?_⟩
   have h1 : Hand (upd H p (.lst [.int d,.int (n + 1),.ref c])) p c := hh.set d (n + 1)
   have hp1 : (upd H p (.lst [.int d,.int (n + 1),.ref c])) p = some (.lst [.int d,.int (n + 1),.ref c]) := upd_same
   have hc1 : (upd H p (.lst [.int d,.int (n + 1),.ref c])) c = some (.lst (cs.map V.int)) := by rw [upd_ne hh.ne]; exact hc
   have hb : But p H (upd H p (.lst [.int d,.int (n + 1),.ref c])) := But.upd p H _
   obtain ⟨x,hx⟩ := at_mod cs h0 (n + 1)
   refine ⟨_,rfl,p,_,_,_,rfl,rfl,SqL.of hp1,rfl,_,rfl,p,_,_,_,rfl,rfl,SqL.of hp1,rfl,_,rfl,p,_,_,_,rfl,rfl,SqL.of hp1,rfl,c,_,rfl,.inl (SqL.of hc1),_,_,rfl,rfl,?_,c,_,_,_,rfl,rfl,SqL.of hc1,hx,_,_,rfl,rfl,pos1,?_⟩
   ·show (0 : Int) < ((cs.map V.int).length : Int)
    rw [List.length_map]
    have := List.length_pos_iff.mpr h0
    omega
   refine ⟨_,rfl,_,_,rfl,rfl,mulR (by decide) (by decide),_,rfl,p,_,_,_,rfl,rfl,SqL.of hp1,rfl,_,_,rfl,rfl,mulR (by decide) (by decide),_,_,rfl,rfl,_,_,rfl,rfl,_,_,rfl,rfl,pos2,?_⟩
   refine ⟨_,rfl,_,rfl,_,_,rfl,rfl,mulM,_,rfl,p,_,_,_,rfl,rfl,SqL.of hp1,rfl,_,_,rfl,rfl,_,_,rfl,rfl,pos2,?_⟩
   refine ⟨_,rfl,_,_,rfl,rfl,mulR (by decide) (by decide),_,_,rfl,rfl,_,_,rfl,rfl,pos1,?_⟩
   refine ⟨_,rfl,_,rfl,_,_,rfl,rfl,mulM,_,_,rfl,rfl,pos3,_,_,rfl,rfl,⟨by decide,by decide⟩,_,rfl,_,_,rfl,rfl,m0,?_⟩
   exact k _ _ (Int.emod_nonneg _ (by omega)) (Int.emod_lt_of_pos _ m0) h1 hb
end
theorem flat_ints (ns : List Int) : (ns.map V.int).all flatV = true := by
 rw [List.all_map]
 exact List.all_eq_true.mpr fun _ _ => rfl
theorem cut_ints (ns : List Int) (lo hi : Option Int) : ∃ ms : List Int,cutV (ns.map V.int) lo hi = ms.map V.int ∧ ms.length ≤ ns.length := by
 refine ⟨(ns.drop (HT.sIx (ns.map V.int).length 0 lo)).take (HT.sIx (ns.map V.int).length (ns.map V.int).length hi - HT.sIx (ns.map V.int).length 0 lo),?_,?_⟩
 ·unfold cutV
  rw [List.map_take,List.map_drop]
 ·rw [List.length_take,List.length_drop]
  omega
theorem cut_from (xs : List V) (j : Nat) (h : j ≤ xs.length) : cutV xs (some (j : Int)) none = xs.drop j := by
 unfold cutV
 rw [HT.sIx_nat,HT.sIx_none,Nat.min_eq_left h]
 exact List.take_of_length_le (by rw [List.length_drop]; omega)
theorem cut_to (xs : List V) (j : Nat) (h : j ≤ xs.length) : cutV xs none (some (j : Int)) = xs.take j := by
 unfold cutV
 rw [HT.sIx_nat,HT.sIx_none,Nat.min_eq_left h,List.drop_zero,Nat.sub_zero]
theorem int_at {ns : List Int} {i : Nat} {x : V} (h : (ns.map V.int)[i]? = some x) : ∃ v,x = .int v ∧ ns[i]? = some v := by
 rw [List.getElem?_map] at h
 cases e : ns[i]? with
 | none => rw [e] at h; cases h
 | some v => rw [e] at h; exact ⟨v,(Option.some.inj h).symm,rfl⟩
theorem at_ints {ms : List Int} {i : Int} (h0 : 0 ≤ i) (h1 : i < ms.length) : ∃ v : Int,atI (ms.map V.int) i = some (.int v) := by
 obtain ⟨j,rfl⟩ := Int.eq_ofNat_of_zero_le h0
 have hlt : j < ms.length := by omega
 exact ⟨ms[j],atI_nat (by rw [List.getElem?_map,List.getElem?_eq_getElem hlt]; rfl)⟩
section
variable {P : Program} {w : World} {K : PySem.W.Frag} {mg : Str → Option Value} {base : Heap}
theorem ok_open {f : Addr} {fd : FuncData} (L : Lk K mg "_law_open" s_open ["_law_script","_law_place"] f fd) (T : Txt mg) : Callee P w K mg base "_law_open" ["_law_script","_law_place"] 1 (spOpen K) := by
 refine L.callee (L.F.ok sc_open (fun vs H Q E h => ?_) (fun cdv A outer s H vs Q E hr h => ?_))
 ·obtain ⟨a,ns,pl,rfl,_⟩ := h
  rfl
 ·obtain ⟨a,ns,pl,rfl,hS,hn,p0,p1,k⟩ := h
  have R : ∃ u,PSs ((cxOf CX0 P w K mg base ["_law_script","_law_place","_law_cells","_law_at","_law_digits"] "_law_open" (defScope s_open) f cdv A outer s H E).nox) ((defBody s_open).drop 2) u ∧ ∀ (e : Addr) (H2 : Hp) (ms : List Int),H2 e = some (.lst (ms.map V.int)) → ms ≠ [] → ms.length ≤ 63 → Same H H2 →
    u { nx := fun _ H' => Q .non H',rt := Q } [some (.ref a),some (.int pl),some (.ref e),none,none] H2 := by
   refine ⟨_,(QB.p (qb_cn (qs_set (i := 3) sc_open.nd rfl (Or.inl rfl) (qe_op op_mod (qv 1) (qe_callB call_len_seq (by rfl) T.len PySem.boot_len (qa_cn (qv 2) qa_nil))))
   (qb_cn (qs_set (i := 4) sc_open.nd rfl (Or.inl rfl) qe_int)
   (qb_cn (qs_if (qw_pt (qw_and (qt_cmpR op_ge (qe_ix ix_list (qv 2) (qv 3) (fun _ _ => rfl)) (qe_op op_pow qe_int qe_int) (nomark _)) (qw_and1 (qt_cmpR op_lt (qv 1) (qe_callB call_len_seq (by rfl) T.len PySem.boot_len (qa_cn (qv 2) qa_nil)) (nomark _))))) (qb_one (qs_set (i := 4) sc_open.nd rfl (Or.inl rfl) (qe_ix ix_list (qv 2) (qv 3) (fun _ _ => rfl)))) qb_nil)
   (qb_one (qs_ret (qe_lst (qa_cn (qv 4) (qa_cn (qe_op op_add qe_int (qe_op op_mul qe_int (qv 1))) (qa_cn (qe_op op_cat (qe_slice sl_list (qv 2) (qo_some (qv 3)) qo_none) (qe_slice sl_list (qv 2) qo_none (qo_some (qv 3)))) qa_nil)))))))))),fun e H2 ms he m0 m1 s2 => ?_⟩
   have hl := List.length_pos_iff.mpr m0
   have el : (ms.map V.int).length = ms.length := List.length_map ..
   have b1 := Int.emod_nonneg pl (b := ((ms.map V.int).length : Int)) (by omega)
   have b2 := Int.emod_lt_of_pos pl (b := ((ms.map V.int).length : Int)) (by omega)
   refine ⟨_,rfl,_,rfl,e,_,rfl,.inl (SqL.of he),_,_,rfl,rfl,?_,?_⟩
   ·show (0 : Int) < ((ms.map V.int).length : Int)
    omega
   obtain ⟨v,hv⟩ := at_ints (ms := ms) b1 (by omega)
   have fin : ∀ (dg at' : Int),0 ≤ at' → at' < (ms.length : Int) → tRet (tLst (tCons (tVar 4) (tCons (tOp (rI0 fun i j => .int (i + j)) (tC (.int 1)) (tOp (rI CMul fun i j => .int (i * j)) (tC (.int 101)) (tVar 1))) (tCons (tOp rCat (tSl (rSlL K) (tVar 2) (tPart (tVar 3)) tNoPart) (tSl (rSlL K) (tVar 2) tNoPart (tPart (tVar 3)))) tNil)))) { nx := fun _ H' => Q .non H',rt := Q } [some (.ref a),some (.int pl),some (.ref e),some (.int at'),some (.int dg)] H2 := by
    intro dg at' a0 a1
    obtain ⟨ja,rfl⟩ := Int.eq_ofNat_of_zero_le a0
    have jl : ja < ms.length := by omega
    have e2 := cut_from (ms.map V.int) ja (by rw [List.length_map]; omega)
    have e3 := cut_to (ms.map V.int) ja (by rw [List.length_map]; omega)
    rw [← List.map_drop] at e2
    rw [← List.map_take] at e3
    have l2 : (ms.drop ja).length ≤ ms.length := by rw [List.length_drop]; omega
    have l3 : (ms.take ja).length ≤ ms.length := by rw [List.length_take]; omega
    refine ⟨_,rfl,_,rfl,_,_,rfl,rfl,mulL (by decide) (by decide),_,_,rfl,rfl,_,rfl,_,rfl,_,rfl,e,_,rfl,SqL.of he,fun q hq => ?_⟩
    have he' : (upd H2 q (.lst (cutV (ms.map V.int) (some (ja : Int)) none))) e = some (.lst (ms.map V.int)) := by rw [upd_ne (ne_of_none he hq)]; exact he
    refine ⟨_,rfl,_,rfl,_,rfl,e,_,rfl,SqL.of he',fun q2 hq2 => ?_⟩
    have nq : q ≠ q2 := fun z => by rw [← z,upd_same] at hq2; cases hq2
    have hq' : H2 q2 = none := by rw [upd_ne (Ne.symm nq)] at hq2; exact hq2
    refine ⟨q,q2,_,_,rfl,rfl,by rw [upd_ne nq,upd_same],upd_same,?_,fun q3 hq3 => ?_⟩
    ·rw [e2,e3,List.length_map,List.length_map]
     exact Nat.le_trans (Nat.add_le_add l2 l3) (Nat.le_trans (show ms.length + ms.length ≤ 126 by omega) (by decide))
    refine ⟨by show 3 ≤ sizeLine; decide,fun p hp => ?_⟩
    have s3 : Same H2 (upd (upd (upd H2 q (.lst (cutV (ms.map V.int) (some (ja : Int)) none))) q2 (.lst (cutV (ms.map V.int) none (some (ja : Int))))) q3 (.lst (cutV (ms.map V.int) (some (ja : Int)) none ++ cutV (ms.map V.int) none (some (ja : Int))))) :=
     ((Same.new _ hq).trans (Same.new _ hq2)).trans (Same.new _ hq3)
    have s4 := s3.trans (Same.new (.lst [.int dg,.int (1 + 101 * pl),.ref q3]) hp)
    refine k p q3 _ ((s2.trans s3).free hp) ⟨dg,1 + 101 * pl,ms.drop ja ++ ms.take ja,upd_same,?_,?_⟩ (s2.trans s4)
    ·rw [upd_ne (fun z => by rw [← z,upd_same] at hp; cases hp),upd_same,e2,e3,List.map_append]
    ·intro z
     have := congrArg List.length z
     rw [List.length_append,List.length_drop,List.length_take,List.length_nil] at this
     omega
   refine ⟨_,rfl,_,rfl,e,_,_,_,rfl,rfl,SqL.of he,hv,_,_,rfl,rfl,⟨by decide,by decide,by decide⟩,_,_,rfl,rfl,_,rfl,?_⟩
   refine ite2 (fun _ => ?_) (fun _ => ?_)
   ·refine ⟨_,rfl,_,rfl,e,_,rfl,.inl (SqL.of he),_,_,rfl,rfl,_,rfl,?_⟩
    refine ite2 (fun _ => ?_) (fun _ => ?_)
    ·exact ⟨_,rfl,_,rfl,e,_,_,_,rfl,rfl,SqL.of he,hv,fin _ _ b1 (by omega)⟩
    ·exact fin _ _ b1 (by omega)
   ·refine iteF ?_
    exact fin _ _ b1 (by omega)
  obtain ⟨u,hu,ku⟩ := R
  refine ⟨_,(QB.p (qb_cn (qs_comp (i := 2) ["_law_cell"] [] [] ["_law_script","_law_place","_law_cells","_law_at","_law_digits"] (defScope s_open).names rfl sc_open.nd rfl (Or.inl rfl) (qi_list (qe_slice sl_list (qv 0) qo_none (qo_some qe_int))) (fun _ _ _ _ _ => (qg_name (i := 0) (show (["_law_cell"] : List Str).Nodup by decide +kernel) rfl (Or.inl rfl))) (fun _ _ _ _ _ => qts_nil) (fun _ _ _ _ _ => (qe_callB call_abs (by rfl) T.abs boot_abs (qa_cn (qv 0) qa_nil))))
   (qb_cn (qs_if (qt_cmpR (op_eqL (hu0 hr)) (qv 2) (qe_lst qa_nil) (nomark _)) (qb_one (qs_set (i := 2) sc_open.nd rfl (Or.inl rfl) (qe_lst (qa_cn qe_int qa_nil)))) qb_nil)
   ⟨hu⟩))),?_⟩
  obtain ⟨cn,ec,lc⟩ := cut_ints ns none (some 63)
  refine ⟨_,rfl,_,rfl,a,_,rfl,hS,fun q hq => ⟨q,rfl,⟨_,SqL.of upd_same⟩,fun D hD => ?_⟩⟩
  refine comp_list (K := K) (a := q) (xs := cn.map V.int) (fun i ys H' => (∃ ms : List Int,ys = ms.map V.int ∧ ms.length = i) ∧ Same (upd H q (.lst (cutV (ns.map V.int) none (some 63)))) H') ⟨⟨[],rfl,rfl⟩,Same.new _ hD⟩ (fun i ys H' _ ⟨_,s'⟩ => SqL.of (s' _ _ (by rw [upd_same,ec])))
   (fun ys H' ⟨⟨ms,e1,l1⟩,s'⟩ hD' => ?_) (fun i x ys H' hx ⟨⟨ms,e1,l1⟩,s'⟩ hD' => ?_)
  ·subst e1
   have hlm : ms.length ≤ 63 := by rw [l1,List.length_map]; omega
   have s1 : Same H H' := (Same.new _ hq).trans s'
   refine ⟨_,rfl,Nat.zero_le _,fun e he => ⟨D,e,_,_,rfl,rfl,SqL.of (by rw [upd_ne (ne_of_none hD' he)]; exact hD'),SqL.of upd_same,flat_ints ms,rfl,_,rfl,?_⟩⟩
   have s2 : Same H (upd H' e (.lst [])) := s1.trans (Same.new _ he)
   refine ite2 (fun _ => ?_) (fun hne => ?_)
   ·refine ⟨by show 1 ≤ sizeLine; decide,fun d hd => ?_⟩
    exact ku d _ [0] upd_same (by simp) (by show 1 ≤ 63; decide) (s2.trans (Same.new _ hd))
   ·refine ku D _ ms (by rw [upd_ne (ne_of_none hD' he)]; exact hD') (fun z => hne ?_) hlm s2
    rw [z]
    rfl
  ·obtain ⟨v,rfl,_⟩ := int_at hx
   subst e1
   have hi : i < (cn.map V.int).length := (List.getElem?_eq_some_iff.mp hx).1
   rw [List.length_map] at hi
   refine ⟨rfl,_,rfl,v,rfl,hD',?_,nx (by rw [List.length_map]; exact hi) ⟨⟨ms ++ [if v < 0 then -v else v],by rw [List.map_append]; rfl,by rw [List.length_append,l1]; rfl⟩,?_⟩⟩
   ·rw [List.length_map,l1]
    exact Nat.lt_of_lt_of_le hi (Nat.le_trans lc (Nat.le_trans hn (by decide)))
   ·intro b o e
    rw [upd_ne (fun z => by rw [z,hD] at e; cases e)]
    exact s' b o e
theorem ok_far {f : Addr} {fd : FuncData} (L : Lk K mg "_law_far" s_far ["_law_hand","_law_bound"] f fd) (T : Txt mg) (C__law_draw : Callee P w K mg base "_law_draw" ["_law_hand","_law_many"] 1 spDraw) : Callee P w K mg base "_law_far" ["_law_hand","_law_bound"] 2 spFar := by
 refine L.callee (L.F.ok sc_far (fun vs H Q E h => ?_) (fun cdv A outer s H vs Q E hr h => ?_))
 ·obtain ⟨p,c,many,rfl,_⟩ := h
  rfl
 ·obtain ⟨p,c,bound,rfl,hh,m0,k⟩ := h
  refine ⟨_,(QB.p (qb_cn (qs_set (i := 2) sc_far.nd rfl (Or.inl rfl) qe_int)
   (qb_cn (qs_for PassesOwn.never rfl (qi_range1 rfl T.range (qa_cn qe_int qa_nil)) (qg_name (i := 3) sc_far.nd rfl (Or.inl rfl)) (qb_one (qs_set (i := 2) sc_far.nd rfl (Or.inl rfl) (qe_op op_add (qe_op op_mul (qv 2) qe_int) (qe_callee C__law_draw (hr.mono (by first | decide | omega)) (by rfl) (qa_cn (qv 0) (qa_cn qe_int qa_nil)))))))
   (qb_one (qs_ret (qe_op op_mod (qv 2) (qv 1))))))),?_⟩
  refine ⟨11,rfl,by decide,by decide,for_range (n := 11) (fun i σ H' => ∃ (t : Int) (v : Option V),σ = [some (.ref p),some (.int bound),some (.int t),v] ∧ Hand H' p c ∧ But p H H') ⟨0,none,rfl,hh,But.refl p H⟩ ?_ ?_⟩
  ·rintro i σ H' hi ⟨t,v,rfl,h1,b1⟩
   refine ⟨_,rfl,_,_,rfl,rfl,mulR (by decide) (by decide),_,rfl,p,c,1000003,rfl,h1,by decide,by decide,fun r H2 r0 r1 h2 b2 => ?_⟩
   exact ⟨_,_,rfl,rfl,_,_,rfl,h2,b1.trans b2⟩
  ·rintro σ H' ⟨t,v,rfl,h1,b1⟩
   refine ⟨_,rfl,_,rfl,_,_,rfl,rfl,m0,?_⟩
   exact k _ _ (Int.emod_nonneg _ (by omega)) (Int.emod_lt_of_pos _ m0) h1 b1
end
end K85
end
section
set_option maxHeartbeats 4000000
namespace K85
open PySem L2 PyProof.Rows
abbrev s_Reader___init__ : Stmt := inClass (top 15) 0
theorem sc_Reader___init__ : FnScope ["self","text"] ["self","text"] (defScope s_Reader___init__) := ⟨rfl,rfl,rfl,by decide +kernel,rfl,by decide +kernel,by decide +kernel⟩
abbrev s_Reader_sign : Stmt := inClass (top 15) 1
theorem sc_Reader_sign : FnScope ["self"] ["self"] (defScope s_Reader_sign) := ⟨rfl,rfl,rfl,by decide +kernel,rfl,by decide +kernel,by decide +kernel⟩
abbrev s_Reader_go_over : Stmt := inClass (top 15) 2
theorem sc_Reader_go_over : FnScope ["self","first","last","most","start"] ["self","first","last","most"] (defScope s_Reader_go_over) := ⟨rfl,rfl,rfl,by decide +kernel,rfl,by decide +kernel,by decide +kernel⟩
abbrev s_Reader_read_value : Stmt := inClass (top 15) 3
theorem sc_Reader_read_value : FnScope ["self","room","sign"] ["self","room"] (defScope s_Reader_read_value) := ⟨rfl,rfl,rfl,by decide +kernel,rfl,by decide +kernel,by decide +kernel⟩
abbrev s_Reader_read_number : Stmt := inClass (top 15) 4
theorem sc_Reader_read_number : FnScope ["self","minus"] ["self"] (defScope s_Reader_read_number) := ⟨rfl,rfl,rfl,by decide +kernel,rfl,by decide +kernel,by decide +kernel⟩
abbrev s_Reader_read_parts : Stmt := inClass (top 15) 5
theorem sc_Reader_read_parts : FnScope ["self","closing","room","parts"] ["self","closing","room"] (defScope s_Reader_read_parts) := ⟨rfl,rfl,rfl,by decide +kernel,rfl,by decide +kernel,by decide +kernel⟩
abbrev s_read : Stmt := top 14
theorem sc_read : FnScope ["text","reader","value"] ["text"] (defScope s_read) := ⟨rfl,rfl,rfl,by decide +kernel,rfl,by decide +kernel,by decide +kernel⟩
structure RC (K : PySem.W.Frag) (C : Addr) : Prop where
 cl : Cls K C
 nt : NoAttr K C "text"
 na : NoAttr K C "at"
abbrev rdr (C dx : Addr) (l : List Nat) (n : Nat) : HO := .ins C dx [("text",.str (S l)),("at",.int n)]
def spInit (C : Addr) : Sp := fun vs H Q _ => ∃ (r dx : Addr) (l : List Nat),vs = [.ref r,.str (S l)] ∧ H r = some (.ins C dx []) ∧ Q .non (upd H r (rdr C dx l 0))
def spSign (C : Addr) : Sp := fun vs H Q _ => ∃ (r dx : Addr) (l : List Nat) (n : Nat),vs = [.ref r] ∧ H r = some (rdr C dx l n) ∧ n ≤ l.length ∧ l.length ≤ 1000000 ∧ Q (.str (S ((l.drop n).take 1))) H
def inAB (a b c : Nat) : Prop := a ≤ c ∧ c ≤ b
def stops (a b : Nat) (rest : List Nat) : Prop := ∀ c r,rest = c :: r → ¬ inAB a b c
def spGo (C : Addr) : Sp := fun vs H Q _ => ∃ (r dx : Addr) (l : List Nat) (n a b m : Nat) (w rest : List Nat),vs = [.ref r,.str (S [a]),.str (S [b]),.int m] ∧ H r = some (rdr C dx l n) ∧ n ≤ l.length ∧ l.length ≤ 1000000 ∧ l.drop n = w ++ rest ∧ (∀ c ∈ w,inAB a b c) ∧ w.length ≤ m ∧ (w.length = m ∨ stops a b rest) ∧
 Q (.str (S w)) (upd H r (rdr C dx l (n + w.length)))
structure MLk (K : PySem.W.Frag) (C : Addr) (m q : Str) (st : Stmt) (ps : List Str) (f : Addr) (fd : FuncData) : Prop where
 F : Fun K m q st f fd
 M : Meth K C m f
 b : Binds K fd ps []
theorem MLk.callee {P : Program} {w : World} {K : PySem.W.Frag} {mg : Str → Option Value} {base : Heap} {C : Addr} {m q : Str} {st : Stmt} {ps : List Str} {f : Addr} {fd : FuncData} {k : Nat} {sp : Sp} (L : MLk K C m q st ps f fd) (h : FnOk P w K mg base CX0 k f fd ps sp) : MCallee P w K mg base C m ps k sp := ⟨f,fd,h,L.M,L.b⟩
section
variable {P : Program} {w : World} {K : PySem.W.Frag} {mg : Str → Option Value} {base : Heap} {C : Addr}
theorem ok_init {f : Addr} {fd : FuncData} (F : Fun K "__init__" "Reader.__init__" s_Reader___init__ f fd) (rc : RC K C) : FnOk P w K mg base CX0 1 f fd ["self","text"] (spInit C) := by
 refine F.ok sc_Reader___init__ (fun vs H Q E h => ?_) (fun cdv A outer s H vs Q E hr h => ?_)
 ·obtain ⟨r,dx,l,rfl,_⟩ := h
  rfl
 ·obtain ⟨r,dx,l,rfl,hr',k⟩ := h
  have hqq : QB ((cxOf CX0 P w K mg base ["self","text"] "Reader.__init__" (defScope s_Reader___init__) f cdv A outer s H E).nox) (defBody s_Reader___init__) _ := (qb_cn (qs_fld (qv 0) (qv 1) rfl)
   (qb_one (qs_fld (qv 0) qe_int rfl)))
  (with_reducible refine ⟨_,hqq.p,?_⟩)
  refine ⟨_,rfl,_,rfl,r,C,dx,_,rfl,hr',rc.cl,rc.nt,by show 0 < 1000; decide,?_⟩
  refine ⟨_,rfl,r,C,dx,_,rfl,upd_same,rc.cl,rc.na,by show 1 < 1000; decide,?_⟩
  rw [upd_upd]
  exact k
theorem ok_sign {f : Addr} {fd : FuncData} (L : MLk K C "sign" "Reader.sign" s_Reader_sign ["self"] f fd) (rc : RC K C) : MCallee P w K mg base C "sign" ["self"] 1 (spSign C) := by
 refine L.callee (L.F.ok sc_Reader_sign (fun vs H Q E h => ?_) (fun cdv A outer s H vs Q E hr h => ?_))
 ·obtain ⟨r,dx,l,n,rfl,_⟩ := h
  rfl
 ·obtain ⟨r,dx,l,n,rfl,hr',hn,hl,k⟩ := h
  have hqq : QB ((cxOf CX0 P w K mg base ["self"] "Reader.sign" (defScope s_Reader_sign) f cdv A outer s H E).nox) (defBody s_Reader_sign) _ := (qb_one (qs_ret (qe_slice sl_str (qe_fld (qv 0)) (qo_some (qe_fld (qv 0))) (qo_some (qe_op op_add (qe_fld (qv 0)) qe_int)))))
  (with_reducible refine ⟨_,hqq.p,?_⟩)
  refine ⟨_,rfl,r,C,dx,_,_,rfl,hr',rc.cl,rc.nt,rfl,?_⟩
  refine ⟨_,rfl,r,C,dx,_,_,rfl,hr',rc.cl,rc.na,rfl,_,rfl,?_⟩
  refine ⟨_,rfl,r,C,dx,_,_,rfl,hr',rc.cl,rc.na,rfl,_,_,rfl,rfl,_,rfl,S l,rfl,?_,?_⟩
  ·rw [S_len]
   exact Nat.le_trans hl (by decide)
  ·rw [slice_1 l hn]
   exact k
theorem lt1 (a c : Nat) : (decide ((S [a]).cps.toList < (S [c]).cps.toList)) = decide (a < c) := by
 show decide ([a] < [c]) = _
 by_cases h : a < c
 ·rw [decide_eq_true h,decide_eq_true (List.cons_lt_cons_iff.mpr (.inl h))]
 ·rw [decide_eq_false h,decide_eq_false]
  intro z
  rcases List.cons_lt_cons_iff.mp z with z | ⟨_,z⟩
  ·exact h z
  ·exact absurd z (List.not_lt_nil [])
theorem lt0 (a : Nat) : (decide ((S []).cps.toList < (S [a]).cps.toList)) = true := by
 show decide ([] < [a]) = true
 exact decide_eq_true (List.nil_lt_cons a [])
theorem ok_go {f : Addr} {fd : FuncData} (L : MLk K C "go_over" "Reader.go_over" s_Reader_go_over ["self","first","last","most"] f fd) (rc : RC K C) (M_sign : MCallee P w K mg base C "sign" ["self"] 1 (spSign C)) : MCallee P w K mg base C "go_over" ["self","first","last","most"] 2 (spGo C) := by
 have hCl := rc.cl
 refine L.callee (L.F.ok sc_Reader_go_over (fun vs H Q E h => ?_) (fun cdv A outer s H vs Q E hr h => ?_))
 ·obtain ⟨r,dx,l,n,a,b,m,w',rest,rfl,_⟩ := h
  rfl
 ·obtain ⟨r,dx,l,n,a,b,m,w',rest,rfl,hr',hn,hl,hd,hw,hm,hst,k⟩ := h
  have hqq : QB ((cxOf CX0 P w K mg base ["self","first","last","most","start"] "Reader.go_over" (defScope s_Reader_go_over) f cdv A outer s H E).nox) (defBody s_Reader_go_over) _ := (qb_cn (qs_set (i := 4) sc_Reader_go_over.nd rfl (Or.inl rfl) (qe_fld (qv 0)))
   (qb_cn (qs_while PassesOwn.never (qw_pt (qw_and (qt_cmpR op_lt (qe_fld (qv 0)) (qe_op op_add (qv 4) (qv 3)) (nomark _)) (qw_and1 (qt_chain op_le_str op_le_str (qv 1) (qe_meth0C (qv 0) hCl M_sign (hr.mono (by first | decide | omega))) (qv 2))))) (qb_one (qs_fldaug (qv 0) qe_int in_add)))
   (qb_one (qs_ret (qe_slice sl_str (qe_fld (qv 0)) (qo_some (qv 4)) (qo_some (qe_fld (qv 0))))))))
  (with_reducible refine ⟨_,hqq.p,?_⟩)
  have hlen : n + w'.length + rest.length = l.length := by
   have := congrArg List.length hd
   rw [List.length_drop,List.length_append] at this
   omega
  refine ⟨_,rfl,r,C,dx,_,_,rfl,hr',rc.cl,rc.na,rfl,?_⟩
  have h0 : upd H r (rdr C dx l n) = H := by
   funext y
   by_cases z : y = r
   ·rw [z,upd_same,hr']
   ·rw [upd_ne z]
  refine ⟨fun q σ H' => ∃ i,i ≤ w'.length ∧ q = w'.length - i ∧ σ = [some (.ref r),some (.str (S [a])),some (.str (S [b])),some (.int m),some (.int n)] ∧ H' = upd H r (rdr C dx l (n + i)),⟨_,0,Nat.zero_le _,rfl,rfl,by rw [Nat.add_zero,h0]⟩,?_⟩
  rintro q σ H' ⟨i,hi,rfl,rfl,rfl⟩
  have hr2 : (upd H r (rdr C dx l (n + i))) r = some (rdr C dx l (n + i)) := upd_same
  have fin : w'.length = i → Q (.str (S w')) (upd H r (rdr C dx l (n + i))) := fun e => by rw [← e]; exact k
  have hdi : l.drop (n + i) = w'.drop i ++ rest := by rw [← List.drop_drop,hd,List.drop_append_of_le_length hi]
  have out : w'.length = i → tRet (tSl rSlS (tFld K (tVar 0) "text") (tPart (tVar 4)) (tPart (tFld K (tVar 0) "at"))) { nx := fun _ H' => Q .non H',rt := Q } [some (.ref r),some (.str (S [a])),some (.str (S [b])),some (.int m),some (.int n)] (upd H r (rdr C dx l (n + i))) := fun e => by
   refine ⟨_,rfl,r,C,dx,_,_,rfl,hr2,rc.cl,rc.nt,rfl,_,rfl,_,rfl,?_⟩
   refine ⟨_,rfl,r,C,dx,_,_,rfl,hr2,rc.cl,rc.na,rfl,_,rfl,S l,rfl,?_,?_⟩
   ·rw [S_len]
    exact Nat.le_trans hl (by decide)
   ·have := slice_ab l (a := n) (b := n + i) (by omega) (by omega)
    rw [this,hd,show n + i - n = w'.length by omega,List.take_left' rfl]
    exact fin e
  refine ⟨_,rfl,r,C,dx,_,_,rfl,hr2,rc.cl,rc.na,rfl,_,rfl,_,rfl,_,_,rfl,rfl,_,_,rfl,rfl,_,rfl,ite2 (fun e => ?_) (fun e => ?_)⟩
  ·have e : ((n + i : Nat) : Int) < (n : Int) + (m : Int) := of_decide_eq_true e
   refine ⟨_,rfl,_,rfl,r,dx,_,rfl,hr2,rfl,r,dx,l,n + i,rfl,hr2,by omega,hl,?_⟩
   rw [hdi]
   by_cases q : i < w'.length
   ·have ew : w'.drop i = w'[i] :: w'.drop (i + 1) := List.drop_eq_getElem_cons q
    have hin := hw w'[i] (List.getElem_mem _)
    rw [ew]
    show ∃ i j,_ = _ ∧ _
    refine ⟨_,S [w'[i]],rfl,rfl,?_⟩
    rw [lt1,decide_eq_false (Nat.not_lt.mpr hin.1)]
    refine ⟨_,rfl,iteT ?_⟩
    refine ⟨_,rfl,S [w'[i]],_,rfl,rfl,?_⟩
    rw [lt1,decide_eq_false (Nat.not_lt.mpr hin.2)]
    refine ⟨_,rfl,iteT ⟨_,fun σ' H' h => h,?_⟩⟩
    refine ⟨_,rfl,r,C,dx,_,_,rfl,hr2,rc.cl,rc.na,rfl,_,_,rfl,rfl,dx,_,hr2,by show 2 < 1000; decide,?_⟩
    refine ⟨_,?_,i + 1,q,rfl,rfl,?_⟩
    ·omega
    ·rw [upd_upd]
     show upd H r (.ins C dx [("text",.str (S l)),("at",.int (((n + i : Nat) : Int) + 1))]) = _
     rw [show ((n + i : Nat) : Int) + 1 = ((n + (i + 1) : Nat) : Int) by omega]
   ·have ei : w'.length = i := by omega
    have hs : stops a b rest := hst.resolve_left (by omega)
    rw [List.drop_of_length_le (by omega),List.nil_append]
    cases rest with
    | nil =>
     refine ⟨_,S [],rfl,rfl,?_⟩
     rw [lt0]
     exact ⟨_,rfl,iteF ⟨_,rfl,iteF (out ei)⟩⟩
    | cons c r0 =>
     have hc := hs c r0 rfl
     refine ⟨_,S [c],rfl,rfl,?_⟩
     rw [lt1]
     by_cases z : c < a
     ·rw [decide_eq_true z]
      exact ⟨_,rfl,iteF ⟨_,rfl,iteF (out ei)⟩⟩
     ·have z2 : b < c := Nat.lt_of_not_le fun y => hc ⟨Nat.le_of_not_lt z,y⟩
      rw [decide_eq_false z]
      refine ⟨_,rfl,iteT ⟨_,rfl,S [c],_,rfl,rfl,?_⟩⟩
      rw [lt1,decide_eq_true z2]
      exact ⟨_,rfl,iteF (out ei)⟩
  ·have e : ¬ ((n + i : Nat) : Int) < (n : Int) + (m : Int) := fun z => e (decide_eq_true z)
   exact iteF (out (by omega))
end
end K85
end
section
set_option maxHeartbeats 4000000
namespace K85
open PySem L2 PyProof.Rows
abbrev s_NoText___init__ : Stmt := inClass (top 3) 0
theorem sc_NoText___init__ : FnScope ["self","at"] ["self","at"] (defScope s_NoText___init__) := ⟨rfl,rfl,rfl,by decide +kernel,rfl,by decide +kernel,by decide +kernel⟩
def numL (i : Int) : List Nat := (Str.ofString (toString i)).cps.toList
def digs (m : Nat) : List Nat := (Nat.toDigits 10 m).map Char.toNat
theorem num_pos (m : Nat) : numL (m : Int) = digs m := PySem.W.KIN.signs_num m
theorem num_neg (m : Nat) (h : 0 < m) : numL (-(m : Int)) = 45 :: digs m := by
 obtain ⟨k,rfl⟩ : ∃ k,m = k + 1 := ⟨m - 1,by omega⟩
 unfold numL
 rw [signs_ofString]
 show (("-" ++ Nat.repr (k + 1)).toList).map Char.toNat = _
 rw [String.toList_append,List.map_append,Nat.toList_repr]
 rfl
theorem dig_in (m : Nat) : ∀ c ∈ digs m,inAB 48 57 c := fun c hc => by
 obtain ⟨ch,hch,e⟩ := List.mem_map.mp hc
 have r := digit_range (Nat.isDigit_of_mem_toDigits (by decide) (by decide) hch)
 rw [← e]
 exact r
theorem dig_split {m : Nat} (h : ¬ m < 10) : digs m = digs (m / 10) ++ digs (m % 10) := by
 have t : Nat.toDigits 10 (m / 10) ++ Nat.toDigits 10 (m % 10) = Nat.toDigits 10 (10 * (m / 10) + m % 10) := Nat.toDigits_append_toDigits (by decide) (by omega) (Nat.mod_lt m (by decide))
 rw [Nat.div_add_mod] at t
 unfold digs
 rw [← t,List.map_append]
theorem dig_small : ∀ m : Nat,m < 10 → digs m = [48 + m] := by decide
theorem dig_head (m : Nat) (h : 0 < m) : ∃ c r,digs m = c :: r ∧ inAB 49 57 c := by
 induction m using Nat.strongRecOn with
 | _ m ih =>
  by_cases q : m < 10
  ·exact ⟨48 + m,[],dig_small m q,by omega,by omega⟩
  ·obtain ⟨c,r,e,hc⟩ := ih (m / 10) (by omega) (by omega)
   rw [dig_split q,e]
   exact ⟨c,r ++ digs (m % 10),rfl,hc⟩
theorem dig_len : ∀ (k m : Nat),m < 10 ^ (k + 1) → (digs m).length ≤ k + 1
 | 0,m,h => by rw [dig_small m (by omega)]; exact Nat.le_refl _
 | k + 1,m,h => by
  by_cases q : m < 10
  ·rw [dig_small m q]
   show 1 ≤ k + 1 + 1
   omega
  ·rw [dig_split q,List.length_append,dig_small (m % 10) (Nat.mod_lt _ (by decide))]
   have : m / 10 < 10 ^ (k + 1) := by
    rw [Nat.pow_succ] at h
    exact Nat.div_lt_of_lt_mul (by omega)
   have := dig_len k (m / 10) this
   show (digs (m / 10)).length + 1 ≤ k + 1 + 1
   omega
theorem S_list (l : List Nat) : (S l).cps.toList = l := by show l.toArray.toList = l; simp
theorem int_pos (m : Nat) (h : 0 < m) (hm : m < 10 ^ 300) : PySem.intText? (S (digs m)) = some (m : Int) := by
 obtain ⟨c,r,e,_⟩ := dig_head m h
 have e1 := intText_digits (x := S (digs m)) (by rw [S_list]; exact dig_in m) (by rw [S_list,e]; exact List.cons_ne_nil _ _) (by rw [S_len]; exact Nat.le_trans (dig_len 299 m hm) (by decide))
 rw [S_list] at e1
 rw [e1]
 unfold digs
 rw [PySem.W.KIN.val_back]
theorem int_neg (m : Nat) (h : 0 < m) (hm : m < 10 ^ 300) : PySem.intText? (S (45 :: digs m)) = some (-(m : Int)) := by
 obtain ⟨c,r,e,_⟩ := dig_head m h
 have e1 := intText_neg (x := S (45 :: digs m)) (cs := digs m) (S_list _) (dig_in m) (by rw [e]; exact List.cons_ne_nil _ _) (by rw [S_len,List.length_cons]; exact Nat.le_trans (Nat.succ_le_succ (dig_len 299 m hm)) (by decide))
 rw [e1]
 unfold digs
 rw [PySem.W.KIN.val_back]
theorem drop_app {α : Type} {l u v : List α} {n : Nat} (h : l.drop n = u ++ v) : l.drop (n + u.length) = v := by rw [← List.drop_drop,h,List.drop_left' rfl]
theorem drop_le {α : Type} {l u v : List α} {n : Nat} (h : l.drop n = u ++ v) (hn : n ≤ l.length) : n + u.length ≤ l.length := by
 have := congrArg List.length h
 rw [List.length_drop,List.length_append] at this
 omega
theorem digs_of : ∀ (k : Nat) (ds : List Nat),ds.length = k + 1 → (∀ c ∈ ds,inAB 48 57 c) → (∀ c r,ds = c :: r → 49 ≤ c) → ∃ m,0 < m ∧ digs m = ds ∧ m < 10 ^ (k + 1) := by
 intro k
 induction k with
 | zero =>
  intro ds hl hd hh
  obtain ⟨c,rfl⟩ := List.length_eq_one_iff.mp hl
  have h1 := hd c List.mem_cons_self
  have h2 := hh c [] rfl
  have h3 := h1.2
  refine ⟨c - 48,by omega,?_,by omega⟩
  rw [dig_small (c - 48) (by omega)]
  congr 1
  omega
 | succ k ih =>
  intro ds hl hd hh
  rcases List.eq_nil_or_concat ds with z | ⟨ds',c,z⟩
  ·rw [z] at hl; cases hl
  ·rw [List.concat_eq_append] at z
   subst z
   have l2 : ds'.length = k + 1 := by rw [List.length_append] at hl; simpa using hl
   obtain ⟨m,m0,m1,m2⟩ := ih ds' l2 (fun c h => hd c (List.mem_append_left _ h)) (fun c r e => hh c (r ++ [_]) (by rw [e]; rfl))
   have h1 := hd c (List.mem_append_right _ List.mem_cons_self)
   have h2 := h1.1
   have h3 := h1.2
   refine ⟨10 * m + (c - 48),by omega,?_,?_⟩
   ·rw [dig_split (by omega),show (10 * m + (c - 48)) / 10 = m by omega,show (10 * m + (c - 48)) % 10 = c - 48 by omega,m1,dig_small (c - 48) (by omega)]
    congr 2
    omega
   ·have : 10 ^ (k + 1 + 1) = 10 * 10 ^ (k + 1) := by rw [Nat.pow_succ,Nat.mul_comm]
    rw [this]
    omega
theorem lead_split (a b : Nat) : ∀ (m : Nat) (t : List Nat),(∀ c ∈ t.take (lead a b m t),inAB a b c) ∧ (t.take (lead a b m t)).length ≤ m ∧ ((t.take (lead a b m t)).length = m ∨ stops a b (t.drop (lead a b m t)))
 | 0,t => ⟨fun c h => by simp [lead] at h,by simp [lead],.inl (by simp [lead])⟩
 | m + 1,[] => ⟨fun c h => by simp at h,by simp,.inr fun c r e => by simp at e⟩
 | m + 1,c :: t => by
  show (∀ x ∈ (c :: t).take (if a ≤ c ∧ c ≤ b then lead a b m t + 1 else 0),inAB a b x) ∧ ((c :: t).take (if a ≤ c ∧ c ≤ b then lead a b m t + 1 else 0)).length ≤ m + 1 ∧ (((c :: t).take (if a ≤ c ∧ c ≤ b then lead a b m t + 1 else 0)).length = m + 1 ∨ stops a b ((c :: t).drop (if a ≤ c ∧ c ≤ b then lead a b m t + 1 else 0)))
  by_cases h : a ≤ c ∧ c ≤ b
  ·obtain ⟨h1,h2,h3⟩ := lead_split a b m t
   rw [if_pos h,List.take_succ_cons,List.drop_succ_cons,List.length_cons]
   refine ⟨fun x hx => ?_,by omega,h3.imp (fun z => by omega) id⟩
   rcases List.mem_cons.mp hx with rfl | hx
   ·exact h
   ·exact h1 x hx
  ·rw [if_neg h,List.take_zero,List.drop_zero]
   exact ⟨fun x hx => (nomatch hx),Nat.zero_le _,.inr fun x r e => by cases e; exact h⟩
structure RE (K : PySem.W.Frag) (mg : Str → Option Value) (NT W : Addr) : Prop where
 mN : mg "NoText" = some (.ref NT)
 mW : mg "WeirError" = some (.ref W)
 ok : XCls K NT
 kp : PySem.W.keepIn K (.ref NT) = true
 na : NoAttr K NT "at"
 val : PySem.W.kitOne K (.ref NT) (.type "ValueError") = some true
 exN : PySem.W.exmOne K (.ref NT) (.ref NT) = some true
 exW : PySem.W.exmOne K (.ref NT) (.ref W) = some true
 ini : ∃ f fd,excXIn K NT (some (.ref f)) = true ∧ PySem.W.isFn K (.ref f) = true ∧ Fun K "__init__" "NoText.__init__" s_NoText___init__ f fd ∧ Binds K fd ["self","at"] []
def ButX (r : Addr) (H H' : Hp) : Prop := ∀ b o,H b = some o → b ≠ r → (∀ φ,o ≠ .ext φ) → H' b = some o
def Bad (NT r : Addr) (l rest : List Nat) (H : Hp) (E : XK) : Prop := ∀ d H',H' d = some (.xd [("at",.int ((l.length - rest.length : Nat) : Int))]) → ButX r H H' → E (.ref NT) (some d) H'
def spRN (C NT : Addr) : Sp := fun vs H Q E => ∃ (r dx : Addr) (l : List Nat) (n : Nat),vs = [.ref r] ∧ H r = some (rdr C dx l n) ∧ n ≤ l.length ∧ l.length ≤ 1000000 ∧
 (∀ v rest i,pnum (l.drop n) = .ok v rest → numL i = txt v → i.natAbs < 10 ^ 300 → Q (.int i) (upd H r (rdr C dx l (l.length - rest.length)))) ∧ ∀ rest,pnum (l.drop n) = .bad rest → Bad NT r l rest H E
section
variable {P : Program} {w : World} {K : PySem.W.Frag} {mg : Str → Option Value} {base : Heap} {C NT W : Addr}
theorem ok_ini {f : Addr} {fd : FuncData} (F : Fun K "__init__" "NoText.__init__" s_NoText___init__ f fd) : FnOk P w K mg base CX0 1 f fd ["self","at"] (L2.spInit K "at") := by
 refine F.ok sc_NoText___init__ (fun vs H Q E h => ?_) (fun cdv A outer s H vs Q E hr h => ?_)
 ·obtain ⟨x,C,v,tb,rfl,_⟩ := h
  rfl
 ·obtain ⟨x,C,v,tb,rfl,hx,xc,na,k⟩ := h
  have hqq : QB ((cxOf CX0 P w K mg base ["self","at"] "NoText.__init__" (defScope s_NoText___init__) f cdv A outer s H E).nox) (defBody s_NoText___init__) _ := (qb_one (qs_fldX (qv 0) (qv 1)))
  (with_reducible refine ⟨_,hqq.p,?_⟩)
  exact ⟨v,rfl,_,rfl,x,C,tb,rfl,hx,xc,na,k⟩
end
end K85
end
section
set_option maxHeartbeats 4000000
namespace K85
open PySem L2 PyProof.Rows
theorem S_app (a b : List Nat) : S (a ++ b) = S a ++ S b := by
 show Str.mk (a ++ b).toArray = Str.mk (a.toArray ++ b.toArray)
 congr 1
 apply Array.toList_inj.mp
 simp
section
variable {P : Program} {w : World} {K : PySem.W.Frag} {mg : Str → Option Value} {base : Heap} {C NT W : Addr}
theorem ok_rnumber {f : Addr} {fd : FuncData} {tM : Tok} (L : MLk K C "read_number" "Reader.read_number" s_Reader_read_number ["self"] f fd) (T : Txt mg) (rc : RC K C) (N : RE K mg NT W) (hMOS : mg "MOST_FIGURES" = some (.int 300 tM)) (M_sign : MCallee P w K mg base C "sign" ["self"] 1 (spSign C)) (M_go_over : MCallee P w K mg base C "go_over" ["self","first","last","most"] 2 (spGo C)) : MCalleeX P w K mg base C "read_number" ["self"] 3 (spRN C NT) := by
 have hCl := rc.cl
 obtain ⟨f5,fd5,q5,h5,fn5,b5⟩ := N.ini
 have F5 := ok_ini (P := P) (w := w) (mg := mg) (base := base) fn5
 refine ⟨f,fd,L.F.okX sc_Reader_read_number (fun vs H Q E h => ?_) (fun cdv A outer s H vs Q E hr h => ?_),L.M,L.b⟩
 ·obtain ⟨r,dx,l,n,rfl,_⟩ := h
  rfl
 ·obtain ⟨r,dx,l,n,rfl,hr',hn,hl,kQ,kE⟩ := h
  obtain ⟨u2,hu2,k2⟩ : ∃ u,PSs ((cxOf (CXD P w) P w K mg base ["self","minus"] "Reader.read_number" (defScope s_Reader_read_number) f cdv A outer s H E)) ((defBody s_Reader_read_number).drop 2) u ∧ ∀ (neg : Bool) (n' : Nat),n' ≤ l.length → pfig neg (l.drop n') = pnum (l.drop n) →
    u { nx := fun _ H' => Q .non H',rt := Q } [some (.ref r),some (.str (S (if neg then [45] else [])))] (upd H r (rdr C dx l n')) := by
   have hb : QB ((cxOf (CXD P w) P w K mg base ["self","minus"] "Reader.read_number" (defScope s_Reader_read_number) f cdv A outer s H E)) ((defBody s_Reader_read_number).drop 2) _ := (qb_cn (qs_if (qt_not (qt_chain op_le_str op_le_str qe_str (qe_meth0C (qv 0) hCl M_sign (hr.mono (by first | decide | omega))) qe_str)) (qb_one (qs_raise raises_cx rfl (qe_excI q5 h5 F5 (hr.mono (by first | decide | omega)) b5 N.kp N.mN (qa_cn (qe_fld (qv 0)) qa_nil)))) qb_nil)
   (qb_one (qs_ret (qe_callTy call_int_text (by rfl) T.int boot_int (qa_cn (qe_op op_add_str (qv 1) (qe_methC (qv 0) hCl M_go_over (hr.mono (by first | decide | omega)) (qa_cn qe_str (qa_cn qe_str (qa_cn (qe_glob (v := .int 300) (by rfl) hMOS ⟨_,rfl⟩) qa_nil))))) qa_nil)))))
   (with_reducible refine ⟨_,hb.p,fun neg n' hn' hp => ?_⟩)
   have hr2 : (upd H r (rdr C dx l n')) r = some (rdr C dx l n') := upd_same
   refine ⟨_,rfl,r,dx,_,rfl,hr2,rfl,r,dx,l,n',rfl,hr2,hn',hl,?_⟩
   have ld : (l.drop n').length = l.length - n' := List.length_drop
   have hE : pfig neg (l.drop n') = .bad (l.drop n') → ∀ d H',H' d = some (.xd [("at",.int (n' : Int))]) → Same (upd H r (rdr C dx l n')) H' → E (.ref NT) (some d) H' := fun hb d H' hd sm => by
    refine kE (l.drop n') (hp.symm.trans hb) d H' ?_ (fun b o e nb _ => sm b o (by rw [upd_ne nb]; exact e))
    rw [ld,show l.length - (l.length - n') = n' by omega]
    exact hd
   have rz : ∀ D : Ends,pfig neg (l.drop n') = .bad (l.drop n') → tRaise K (tExcI NT (L2.spInit K "at") (tCons (tFld K (tVar 0) "at") tNil)) E D [some (V.ref r),some (.str (S (if neg then [45] else [])))] (upd H r (rdr C dx l n')) := fun D hb =>
    raiseI (K := K) (E := E) (C := NT) (fld := "at") (v := .int (n' : Int)) N.ok N.na (fun Q h => ⟨_,rfl,r,C,dx,_,_,rfl,hr2,rc.cl,rc.na,rfl,h⟩) (hE hb)
   cases et : l.drop n' with
   | nil =>
    refine ⟨S [49],S [],rfl,rfl,?_⟩
    rw [lt0]
    exact ⟨_,rfl,iteF ⟨_,rfl,iteT (rz _ (by rw [et]; rfl))⟩⟩
   | cons c r0 =>
    refine ⟨S [49],S [c],rfl,rfl,?_⟩
    rw [lt1]
    by_cases c1 : c < 49
    ·rw [decide_eq_true c1]
     refine ⟨_,rfl,iteF ⟨_,rfl,iteT (rz _ ?_)⟩⟩
     rw [et]
     show (if 49 ≤ c ∧ c ≤ 57 then _ else _) = _
     rw [if_neg (by omega)]
    rw [decide_eq_false c1]
    refine ⟨_,rfl,iteT ⟨S [c],S [57],rfl,rfl,?_⟩⟩
    rw [lt1]
    by_cases c2 : 57 < c
    ·rw [decide_eq_true c2]
     refine ⟨_,rfl,iteT (rz _ ?_)⟩
     rw [et]
     show (if 49 ≤ c ∧ c ≤ 57 then _ else _) = _
     rw [if_neg (by omega)]
    rw [decide_eq_false c2]
    refine ⟨_,rfl,iteF ?_⟩
    obtain ⟨w1,w2,w3⟩ := lead_split 48 57 300 (c :: r0)
    have td := List.take_append_drop (lead 48 57 300 (c :: r0)) (c :: r0)
    have pe : pnum (l.drop n) = .ok (.num neg ((c :: r0).take (lead 48 57 300 (c :: r0)))) ((c :: r0).drop (lead 48 57 300 (c :: r0))) := by
     rw [← hp,et]
     show (if 49 ≤ c ∧ c ≤ 57 then _ else _) = _
     rw [if_pos (by omega)]
    have wh : ∃ w',(c :: r0).take (lead 48 57 300 (c :: r0)) = c :: w' := by
     show ∃ w',(c :: r0).take (if 48 ≤ c ∧ c ≤ 57 then lead 48 57 299 r0 + 1 else 0) = c :: w'
     rw [if_pos (by omega)]
     exact ⟨_,List.take_succ_cons⟩
    generalize (c :: r0).take (lead 48 57 300 (c :: r0)) = ws at w1 w2 w3 td pe wh
    generalize (c :: r0).drop (lead 48 57 300 (c :: r0)) = rest at w3 td pe
    obtain ⟨w',ew⟩ := wh
    obtain ⟨m,m0,m1,m2⟩ := digs_of w'.length ws (by rw [ew]; rfl) w1 (fun c' r' e' => by rw [ew] at e'; cases e'; omega)
    have mm : m < 10 ^ 300 := Nat.lt_of_lt_of_le m2 (Nat.pow_le_pow_right (by decide) (by rw [ew] at w2; exact w2))
    have pos : n' + ws.length = l.length - rest.length := by
     have h1 : ws.length + rest.length = (l.drop n').length := by rw [← List.length_append,td,et]
     omega
    refine ⟨_,rfl,_,rfl,r,dx,_,rfl,hr2,rfl,r,dx,l,n',48,57,300,ws,rest,rfl,hr2,hn',hl,by rw [et,td],w1,w2,w3,?_⟩
    cases neg with
    | false =>
     refine ⟨S [],S ws,rfl,rfl,?_,S ws,m,?_,by rw [← m1]; exact int_pos m m0 mm,by rw [S_len]; exact Nat.le_trans w2 (by decide),?_⟩
     ·rw [S_len,S_len]
      exact Nat.le_trans (show _ ≤ 300 by simpa using w2) (by decide)
     ·rw [← S_app,List.nil_append]
     ·rw [upd_upd,pos]
      exact kQ _ rest m pe (by rw [num_pos,m1]; rfl) (by omega)
    | true =>
     refine ⟨S [45],S ws,rfl,rfl,?_,S (45 :: ws),-(m : Int),?_,by rw [← m1]; exact int_neg m m0 mm,by rw [S_len,List.length_cons]; exact Nat.le_trans (Nat.succ_le_succ w2) (by decide),?_⟩
     ·rw [S_len,S_len]
      exact Nat.le_trans (show _ ≤ 301 by show 1 + ws.length ≤ 301; omega) (by decide)
     ·rw [← S_app]
      rfl
     ·rw [upd_upd,pos]
      exact kQ _ rest (-(m : Int)) pe (by rw [num_neg m m0,m1]; rfl) (by omega)
  have hb : QB ((cxOf (CXD P w) P w K mg base ["self","minus"] "Reader.read_number" (defScope s_Reader_read_number) f cdv A outer s H E)) (defBody s_Reader_read_number) _ := (qb_cn (qs_if (qt_cmpR op_eq (qe_meth0C (qv 0) hCl M_sign (hr.mono (by first | decide | omega))) qe_str (nomark _)) (qb_cn (qs_fldaug (qv 0) qe_int in_add)
   (qb_one (qs_ret qe_int))) qb_nil)
   (qb_cn (qs_set (i := 1) sc_Reader_read_number.nd rfl (Or.inl rfl) (qe_methC (qv 0) hCl M_go_over (hr.mono (by first | decide | omega)) (qa_cn qe_str (qa_cn qe_str (qa_cn qe_int qa_nil)))))
   ⟨hu2⟩))
  (with_reducible refine ⟨_,hb.p,?_⟩)
  refine ⟨_,rfl,r,dx,_,rfl,hr',rfl,r,dx,l,n,rfl,hr',hn,hl,?_⟩
  have go0 : ∀ c r0,l.drop n = c :: r0 → c ≠ 45 → stops 45 45 (l.drop n) := fun c r0 e h c' r' e' z => by
   rw [e] at e'
   cases e'
   have := z.1
   have := z.2
   omega
  cases et : l.drop n with
  | nil =>
   refine ⟨rfl,_,rfl,iteF ?_⟩
   refine ⟨_,rfl,r,dx,_,rfl,hr',rfl,r,dx,l,n,45,45,1,[],[],rfl,hr',hn,hl,et,(fun c hc => by cases hc),Nat.zero_le _,.inr (fun c r e => by cases e),?_⟩
   exact k2 false n hn (by rw [et]; rfl)
  | cons c r0 =>
   have lt : r0.length + 1 = l.length - n := by rw [← List.length_drop,et]; rfl
   by_cases c48 : c = 48
   ·subst c48
    refine ⟨rfl,_,rfl,iteT ?_⟩
    refine ⟨_,rfl,r,C,dx,_,_,rfl,hr',rc.cl,rc.na,rfl,_,_,rfl,rfl,dx,_,hr',by show 2 < 1000; decide,?_⟩
    have q := kQ (.num false [48]) r0 0 (by rw [et]; rfl) (by decide) (by decide)
    rw [show l.length - r0.length = n + 1 by omega] at q
    exact q
   have nz : ¬ (decide (V.str (S ((c :: r0).take 1)) = V.str ("0")) = true) := fun z => by
    have z := of_decide_eq_true z
    injection z with z
    have : [c] = [48] := congrArg (fun x : Str => x.cps.toList) z
    injection this with this
    exact c48 this
   refine ⟨rfl,_,rfl,ite2 (fun z => absurd z nz) (fun _ => ?_)⟩
   by_cases c45 : c = 45
   ·subst c45
    have hd1 : l.drop n = [45] ++ r0 := et
    have hd2 : l.drop (n + 1) = r0 := drop_app hd1
    have hn2 : n + 1 ≤ l.length := drop_le hd1 hn
    refine ⟨_,rfl,r,dx,_,rfl,hr',rfl,r,dx,l,n,45,45,1,[45],r0,rfl,hr',hn,hl,hd1,(fun c hc => by rw [List.mem_singleton.mp hc]; exact ⟨Nat.le_refl _,Nat.le_refl _⟩),Nat.le_refl _,.inl rfl,?_⟩
    exact k2 true (n + 1) hn2 (by rw [hd2,et]; rfl)
   ·refine ⟨_,rfl,r,dx,_,rfl,hr',rfl,r,dx,l,n,45,45,1,[],c :: r0,rfl,hr',hn,hl,et,(fun c hc => by cases hc),Nat.zero_le _,.inr (by rw [← et]; exact go0 c r0 et c45),?_⟩
    refine k2 false n hn ?_
    rw [et]
    show _ = (if c = 48 then _ else if c = 45 then _ else _)
    rw [if_neg c48,if_neg c45]
end
end K85
end
section
set_option maxHeartbeats 4000000
namespace K85
open PySem L2 PyProof.Rows
mutual
def Rp (D : Addr → Prop) (H : Hp) : V → Tx → Prop
 | x,.non => x = .non
 | x,.num neg ds => ∃ i : Int,x = .int i ∧ numL i = txt (.num neg ds) ∧ i.natAbs < 10 ^ 300
 | x,.nam z => x = .str (S z)
 | x,.seq true vs => ∃ (a : Addr) (xs : List V),x = .ref a ∧ D a ∧ H a = some (.tup xs) ∧ Rps D H xs vs
 | x,.seq false vs => ∃ (a : Addr) (xs : List V),x = .ref a ∧ D a ∧ H a = some (.lst xs) ∧ Rps D H xs vs
def Rps (D : Addr → Prop) (H : Hp) : List V → List Tx → Prop
 | [],[] => True
 | x :: xs,v :: vs => Rp D H x v ∧ Rps D H xs vs
 | _,_ => False
end
mutual
theorem Rp.keep {D D' : Addr → Prop} {H H' : Hp} (k : ∀ a o,D a → H a = some o → D' a ∧ H' a = some o) : ∀ (v : Tx) {x : V},Rp D H x v → Rp D' H' x v
 | .non,x,h => h
 | .num _ _,x,h => h
 | .nam _,x,h => h
 | .seq true vs,x,h => by
  obtain ⟨a,xs,e,d,ha,hs⟩ := h
  exact ⟨a,xs,e,(k a _ d ha).1,(k a _ d ha).2,Rps.keep k vs hs⟩
 | .seq false vs,x,h => by
  obtain ⟨a,xs,e,d,ha,hs⟩ := h
  exact ⟨a,xs,e,(k a _ d ha).1,(k a _ d ha).2,Rps.keep k vs hs⟩
theorem Rps.keep {D D' : Addr → Prop} {H H' : Hp} (k : ∀ a o,D a → H a = some o → D' a ∧ H' a = some o) : ∀ (vs : List Tx) {xs : List V},Rps D H xs vs → Rps D' H' xs vs
 | [],[],h => trivial
 | v :: vs,x :: xs,h => ⟨Rp.keep k v h.1,Rps.keep k vs h.2⟩
 | [],_ :: _,h => h.elim
 | _ :: _,[],h => h.elim
end
theorem Rps.snoc {D : Addr → Prop} {H : Hp} {x : V} {v : Tx} (hx : Rp D H x v) : ∀ {xs : List V} {vs : List Tx},Rps D H xs vs → Rps D H (xs ++ [x]) (vs ++ [v])
 | [],[],_ => ⟨hx,trivial⟩
 | y :: xs,u :: vs,h => ⟨h.1,Rps.snoc hx h.2⟩
 | [],_ :: _,h => h.elim
 | _ :: _,[],h => h.elim
def ButR (r : Addr) (H H' : Hp) : Prop := ∀ b o,H b = some o → b ≠ r → H' b = some o
theorem Bad.back {NT r : Addr} {l rest : List Nat} {H H1 : Hp} {E : XK} (b : Bad NT r l rest H E) (s : ButR r H H1) : Bad NT r l rest H1 E := fun d H' hd k => b d H' hd fun c o e n x => k c o (s c o e n) n x
theorem Bad.up {NT r : Addr} {l rest : List Nat} {H : Hp} {E : XK} (b : Bad NT r l rest H E) : Bad NT r l rest H (Eup E) := fun d H1 hd k x T T2 H2 fl fn => by
 have nx : d ≠ x := fun z => by rw [z,fl.ex] at hd; cases hd
 refine b d H2 (fn.keep hd nx) fun c o e n ne => fn.keep (k c o e n ne) fun z => ?_
 have := k c o e n ne
 rw [z,fl.ex] at this
 cases this
 exact ne _ rfl
def spRV (C NT : Addr) (d : Nat) : Sp := fun vs H Q E => ∃ (r dx : Addr) (l : List Nat) (n : Nat),vs = [.ref r,.int (d : Int)] ∧ H r = some (rdr C dx l n) ∧ n ≤ l.length ∧ l.length ≤ 1000000 ∧
 (∀ v rest x H',pv d (l.drop n) = .ok v rest → Rp (fun a => H a = none) H' x v → H' r = some (rdr C dx l (l.length - rest.length)) → ButR r H H' → Q x H') ∧ ∀ rest,pv d (l.drop n) = .bad rest → Bad NT r l rest H E
def spRP (C NT : Addr) (d : Nat) : Sp := fun vs H Q E => ∃ (r dx : Addr) (l : List Nat) (n : Nat) (b : Bool),vs = [.ref r,.str (S [cls b]),.int (d : Int)] ∧ H r = some (rdr C dx l n) ∧ n + 1 ≤ l.length ∧ l.length ≤ 1000000 ∧
 (∀ ws rest la xs H',pparts (pv d) b (l.drop (n + 1)) = .ok (.seq b ws) rest → H la = none → H' la = some (.lst xs) → Rps (fun a => H a = none ∧ a ≠ la) H' xs ws → H' r = some (rdr C dx l (l.length - rest.length)) → ButR r H H' → Q (.ref la) H') ∧ ∀ rest,pparts (pv d) b (l.drop (n + 1)) = .bad rest → Bad NT r l rest H E
end K85
end
section
set_option maxHeartbeats 4000000
namespace K85
open PySem L2 PyProof.Rows
theorem sgn_eq {c k : Nat} (h : decide (V.str (S [c]) = V.str (S [k])) = true) : c = k := by
 have z := of_decide_eq_true h
 injection z with z
 have := congrArg (fun x : Str => x.cps.toList) z
 have : [c] = [k] := this
 injection this
theorem sgn_ne {c k : Nat} (h : c ≠ k) : ¬ (decide (V.str (S [c]) = V.str (S [k])) = true) := fun z => h (sgn_eq z)
theorem pv_us (r : List Nat) : ∀ d,pv d (95 :: r) = .ok .non r
 | 0 => rfl
 | _ + 1 => rfl
theorem pv_let {c : Nat} {r : List Nat} (h : 97 ≤ c ∧ c ≤ 122) : ∀ d,pv d (c :: r) = .ok (.nam ((c :: r).take (lead 97 122 8 (c :: r)))) ((c :: r).drop (lead 97 122 8 (c :: r)))
 | 0 => by
  show (if c = 95 then _ else if 97 ≤ c ∧ c ≤ 122 then _ else _) = _
  rw [if_neg (by omega),if_pos h]
 | _ + 1 => by
  show (if c = 95 then _ else if 97 ≤ c ∧ c ≤ 122 then _ else _) = _
  rw [if_neg (by omega),if_pos h]
theorem pv_num {c : Nat} {r : List Nat} (h1 : c ≠ 95) (h2 : ¬ (97 ≤ c ∧ c ≤ 122)) : ∀ d,(d = 0 ∨ (c ≠ 40 ∧ c ≠ 91)) → pv d (c :: r) = pnum (c :: r)
 | 0,_ => by
  show (if c = 95 then _ else if 97 ≤ c ∧ c ≤ 122 then _ else _) = _
  rw [if_neg h1,if_neg h2]
 | d + 1,h => by
  obtain ⟨h3,h4⟩ := h.resolve_left (by omega)
  show (if c = 95 then _ else if 97 ≤ c ∧ c ≤ 122 then _ else if c = 40 then _ else if c = 91 then _ else _) = _
  rw [if_neg h1,if_neg h2,if_neg h3,if_neg h4]
theorem pv_par (b : Bool) (q : Nat) (r : List Nat) : pv (q + 1) (opn b :: r) = pparts (pv q) b r := by
 cases b <;> rfl
theorem num_is {t rest : List Nat} {v : Tx} (h : pnum t = .ok v rest) : ∃ neg ds,v = .num neg ds := by
 have fig : ∀ neg t,pfig neg t = .ok v rest → ∃ neg ds,v = .num neg ds := fun neg t h => by
  cases t with
  | nil => cases h
  | cons c t =>
   have h : (if 49 ≤ c ∧ c ≤ 57 then Res.ok (.num neg ((c :: t).take (lead 48 57 300 (c :: t)))) ((c :: t).drop (lead 48 57 300 (c :: t))) else .bad (c :: t)) = .ok v rest := h
   split at h
   ·cases h; exact ⟨_,_,rfl⟩
   ·cases h
 cases t with
 | nil => cases h
 | cons c t =>
  have h : (if c = 48 then Res.ok (.num false [48]) t else if c = 45 then pfig true t else pfig false (c :: t)) = .ok v rest := h
  split at h
  ·cases h; exact ⟨_,_,rfl⟩
  ·split at h
   ·exact fig _ _ h
   ·exact fig _ _ h
section
variable {P : Program} {w : World} {K : PySem.W.Frag} {mg : Str → Option Value} {base : Heap} {C NT W : Addr}
theorem rv_step {f : Addr} {fd : FuncData} {tL : Tok} (L : MLk K C "read_value" "Reader.read_value" s_Reader_read_value ["self","room"] f fd) (T : Txt mg) (rc : RC K C) (hLON : mg "LONGEST_NAME" = some (.int 8 tL)) (M_sign : MCallee P w K mg base C "sign" ["self"] 1 (spSign C)) (M_go_over : MCallee P w K mg base C "go_over" ["self","first","last","most"] 2 (spGo C)) (MX_read_number : MCalleeX P w K mg base C "read_number" ["self"] 3 (spRN C NT))
  (d : Nat) (spR : Sp) (hR : ∀ q,d = q + 1 → spR = spRP C NT q) (MX_read_parts : MCalleeX P w K mg base C "read_parts" ["self","closing","room"] (2 * d + 3) spR) : MCalleeX P w K mg base C "read_value" ["self","room"] (2 * d + 4) (spRV C NT d) := by
 have hCl := rc.cl
 refine ⟨f,fd,L.F.okX sc_Reader_read_value (fun vs H Q E h => ?_) (fun cdv A outer s H vs Q E hr h => ?_),L.M,L.b⟩
 ·obtain ⟨r,dx,l,n,rfl,_⟩ := h
  rfl
 ·obtain ⟨r,dx,l,n,rfl,hr',hn,hl,kQ,kE⟩ := h
  have but : ∀ m,ButR r H (upd H r (rdr C dx l m)) := fun m b o e nb => by rw [upd_ne nb]; exact e
  obtain ⟨u3,hu3,k3⟩ : ∃ u,PSs ((cxOf (CXD P w) P w K mg base ["self","room","sign"] "Reader.read_value" (defScope s_Reader_read_value) f cdv A outer s H E)) ((defBody s_Reader_read_value).drop 3) u ∧ ((l.drop n = [] → u { nx := fun _ H' => Q .non H',rt := Q } [some (.ref r),some (.int (d : Int)),some (.str (S []))] H) ∧
    ∀ c r0,l.drop n = c :: r0 → c ≠ 95 → ¬ (97 ≤ c ∧ c ≤ 122) → u { nx := fun _ H' => Q .non H',rt := Q } [some (.ref r),some (.int (d : Int)),some (.str (S [c]))] H) := by
   have hb : QB ((cxOf (CXD P w) P w K mg base ["self","room","sign"] "Reader.read_value" (defScope s_Reader_read_value) f cdv A outer s H E)) ((defBody s_Reader_read_value).drop 3) _ := (qb_cn (qs_if (qw_pt (qw_and (qt_cmpR op_gt (qv 1) qe_int (nomark _)) (qw_and1 (qt_cmpR op_eq (qv 2) qe_str (nomark _))))) (qb_one (qs_ret (qe_callTy call_tuple_of (by rfl) T.tuple boot_tuple (qa_cn (qe_methX passes_up (qv 0) hCl MX_read_parts (hr.mono (by first | decide | omega)) (qa_cn qe_str (qa_cn (qe_op op_sub (qv 1) qe_int) qa_nil))) qa_nil)))) qb_nil)
   (qb_cn (qs_if (qw_pt (qw_and (qt_cmpR op_gt (qv 1) qe_int (nomark _)) (qw_and1 (qt_cmpR op_eq (qv 2) qe_str (nomark _))))) (qb_one (qs_ret (qe_methX passes_up (qv 0) hCl MX_read_parts (hr.mono (by first | decide | omega)) (qa_cn qe_str (qa_cn (qe_op op_sub (qv 1) qe_int) qa_nil))))) qb_nil)
   (qb_one (qs_ret (qe_meth0X passes_up (qv 0) hCl MX_read_number (hr.mono (by first | decide | omega)))))))
   (with_reducible refine ⟨_,hb.p,?_⟩)
   have last : ∀ sg : List Nat,pv d (l.drop n) = pnum (l.drop n) → tRet (tMeth C "read_number" (spRN C NT) [] (Eup E) (tVar 0) tNil) { nx := fun _ H' => Q .non H',rt := Q } [some (.ref r),some (.int (d : Int)),some (.str (S sg))] H := fun sg hp =>
    ⟨_,rfl,r,dx,_,rfl,hr',rfl,r,dx,l,n,rfl,hr',hn,hl,(fun v rest i e1 e2 e3 => by
     obtain ⟨neg,ds,rfl⟩ := num_is e1
     exact kQ _ rest (.int i) _ (hp.trans e1) ⟨i,rfl,e2,e3⟩ upd_same (but _)),fun rest e1 => (kE rest (hp.trans e1)).up⟩
   refine ⟨fun et => ?_,fun c r0 et c1 c2 => ?_⟩
   ·have la := last [] (by rw [et]; exact pv_nil d)
    refine ⟨_,rfl,_,_,rfl,rfl,_,rfl,ite2 (fun _ => ?_) (fun _ => ?_)⟩
    ·exact ⟨_,rfl,rfl,_,rfl,iteF ⟨_,rfl,_,_,rfl,rfl,_,rfl,ite2 (fun _ => ⟨_,rfl,rfl,_,rfl,iteF la⟩) (fun _ => iteF la)⟩⟩
    ·exact iteF ⟨_,rfl,_,_,rfl,rfl,_,rfl,ite2 (fun _ => ⟨_,rfl,rfl,_,rfl,iteF la⟩) (fun _ => iteF la)⟩
   cases d with
   | zero =>
    have la := last [c] (by rw [et]; exact pv_num c1 c2 0 (.inl rfl))
    exact ⟨_,rfl,_,_,rfl,rfl,_,rfl,iteF (iteF ⟨_,rfl,_,_,rfl,rfl,_,rfl,iteF (iteF la)⟩)⟩
   | succ q =>
    have hR := hR q rfl
    subst hR
    have e1 : ((q + 1 : Nat) : Int) - 1 = (q : Int) := by omega
    have dp : decide ((0 : Int) < ((q + 1 : Nat) : Int)) = true := decide_eq_true (by omega)
    have hd1 : ∀ b,c = opn b → l.drop n = [opn b] ++ r0 := fun b z => by rw [et,z]; rfl
    have par : ∀ b,c = opn b → n + 1 ≤ l.length ∧ pv (q + 1) (l.drop n) = pparts (pv q) b (l.drop (n + 1)) := fun b z => by
     have h2 := drop_app (hd1 b z)
     refine ⟨drop_le (hd1 b z) hn,?_⟩
     rw [hd1 b z]
     show pv (q + 1) (opn b :: r0) = _
     rw [pv_par]
     congr 1
     exact h2.symm
    have fresh : ∀ {H' : Hp} {x : Addr},H' r = some (rdr C dx l n) ∨ True → ButR r H H' → (∃ o,H' r = some o) → H' x = none → H x = none := fun {H' x} _ bb hx hn => by
     cases e : H x with
     | none => rfl
     | some o =>
      by_cases z : x = r
      ·obtain ⟨o',eo⟩ := hx
       rw [z,eo] at hn; cases hn
      ·rw [bb x o e z] at hn; cases hn
    refine ⟨_,rfl,_,_,rfl,rfl,_,rfl,?_⟩
    rw [dp]
    refine iteT ?_
    by_cases c40 : c = 40
    ·subst c40
     obtain ⟨h1,h2⟩ := par true rfl
     refine ⟨_,rfl,rfl,_,rfl,iteT ?_⟩
     refine ⟨_,rfl,r,dx,_,rfl,hr',rfl,_,rfl,_,_,rfl,rfl,r,dx,l,n,true,(by show [V.ref r,V.str ")",V.int (((q + 1 : Nat) : Int) - 1)] = [V.ref r,V.str (S [cls true]),V.int (q : Int)]; rw [e1]; rfl),hr',h1,hl,fun ws rest la xs H' hp hla hx hs hr2 bb => ?_,fun rest hp => (kE rest (h2.trans hp)).up⟩
     refine ⟨la,xs,rfl,.inl ⟨SqL.of hx,fun p hpn => ?_⟩⟩
     refine kQ _ rest (.ref p) _ (h2.trans hp) ⟨p,xs,rfl,fresh (.inr trivial) bb ⟨_,hr2⟩ hpn,upd_same,Rps.keep (fun a o da e => ⟨da.1,by rw [upd_ne (ne_of_none e hpn)]; exact e⟩) ws hs⟩ (by rw [upd_ne (ne_of_none hr2 hpn)]; exact hr2) fun b o e nb => by rw [upd_ne (ne_of_none (bb b o e nb) hpn)]; exact bb b o e nb
    ·refine ⟨_,rfl,rfl,_,rfl,ite2 (fun y => absurd y (sgn_ne (k := 40) c40)) (fun _ => ?_)⟩
     refine ⟨_,rfl,_,_,rfl,rfl,_,rfl,?_⟩
     rw [dp]
     refine iteT ?_
     by_cases c91 : c = 91
     ·subst c91
      obtain ⟨h1,h2⟩ := par false rfl
      refine ⟨_,rfl,rfl,_,rfl,iteT ?_⟩
      refine ⟨_,rfl,r,dx,_,rfl,hr',rfl,_,rfl,_,_,rfl,rfl,r,dx,l,n,false,(by show [V.ref r,V.str "]",V.int (((q + 1 : Nat) : Int) - 1)] = [V.ref r,V.str (S [cls false]),V.int (q : Int)]; rw [e1]; rfl),hr',h1,hl,fun ws rest la xs H' hp hla hx hs hr2 bb => ?_,fun rest hp => (kE rest (h2.trans hp)).up⟩
      exact kQ _ rest (.ref la) _ (h2.trans hp) ⟨la,xs,rfl,hla,hx,Rps.keep (fun a o da e => ⟨da.1,e⟩) ws hs⟩ hr2 bb
     ·exact ⟨_,rfl,rfl,_,rfl,ite2 (fun y => absurd y (sgn_ne (k := 91) c91)) (fun _ => last [c] (by rw [et]; exact pv_num c1 c2 _ (.inr ⟨c40,c91⟩)))⟩
  have hb : QB ((cxOf (CXD P w) P w K mg base ["self","room","sign"] "Reader.read_value" (defScope s_Reader_read_value) f cdv A outer s H E)) (defBody s_Reader_read_value) _ := (qb_cn (qs_set (i := 2) sc_Reader_read_value.nd rfl (Or.inl rfl) (qe_meth0C (qv 0) hCl M_sign (hr.mono (by first | decide | omega))))
   (qb_cn (qs_if (qt_cmpR op_eq (qv 2) qe_str (nomark _)) (qb_cn (qs_fldaug (qv 0) qe_int in_add)
   (qb_one (qs_ret qe_non))) qb_nil)
   (qb_cn (qs_if (qt_chain op_le_str op_le_str qe_str (qv 2) qe_str) (qb_one (qs_ret (qe_methC (qv 0) hCl M_go_over (hr.mono (by first | decide | omega)) (qa_cn qe_str (qa_cn qe_str (qa_cn (qe_glob (v := .int 8) (by rfl) hLON ⟨_,rfl⟩) qa_nil)))))) qb_nil)
   ⟨hu3⟩)))
  (with_reducible refine ⟨_,hb.p,?_⟩)
  refine ⟨_,rfl,r,dx,_,rfl,hr',rfl,r,dx,l,n,rfl,hr',hn,hl,?_⟩
  cases et : l.drop n with
  | nil =>
   refine ⟨_,rfl,rfl,_,rfl,iteF ?_⟩
   refine ⟨_,rfl,S [97],S [],rfl,rfl,?_⟩
   rw [lt0]
   exact ⟨_,rfl,iteF ⟨_,rfl,iteF (k3.1 et)⟩⟩
  | cons c r0 =>
   have lt : r0.length + 1 = l.length - n := by rw [← List.length_drop,et]; rfl
   by_cases c95 : c = 95
   ·subst c95
    refine ⟨_,rfl,rfl,_,rfl,iteT ?_⟩
    refine ⟨_,rfl,r,C,dx,_,_,rfl,hr',rc.cl,rc.na,rfl,_,_,rfl,rfl,dx,_,hr',by show 2 < 1000; decide,?_⟩
    exact kQ .non r0 .non _ (by rw [et]; exact pv_us r0 d) rfl (by rw [show l.length - r0.length = n + 1 by omega]; exact upd_same) (but (n + 1))
   refine ⟨_,rfl,rfl,_,rfl,ite2 (fun y => absurd y (sgn_ne (k := 95) c95)) (fun _ => ?_)⟩
   refine ⟨_,rfl,S [97],S [c],rfl,rfl,?_⟩
   rw [lt1]
   by_cases c1 : c < 97
   ·rw [decide_eq_true c1]
    exact ⟨_,rfl,iteF ⟨_,rfl,iteF (k3.2 c r0 et c95 (by omega))⟩⟩
   rw [decide_eq_false c1]
   refine ⟨_,rfl,iteT ⟨S [c],S [122],rfl,rfl,?_⟩⟩
   rw [lt1]
   by_cases c2 : 122 < c
   ·rw [decide_eq_true c2]
    exact ⟨_,rfl,iteF (k3.2 c r0 et c95 (by omega))⟩
   rw [decide_eq_false c2]
   refine ⟨_,rfl,iteT ?_⟩
   obtain ⟨w1,w2,w3⟩ := lead_split 97 122 8 (c :: r0)
   have td := List.take_append_drop (lead 97 122 8 (c :: r0)) (c :: r0)
   have pe := pv_let (c := c) (r := r0) ⟨by omega,by omega⟩ d
   generalize (c :: r0).take (lead 97 122 8 (c :: r0)) = ws at w1 w2 w3 td pe
   generalize (c :: r0).drop (lead 97 122 8 (c :: r0)) = rest at w3 td pe
   have pos : n + ws.length = l.length - rest.length := by
    have h1 : ws.length + rest.length = (l.drop n).length := by rw [← List.length_append,td,et]
    have h2 : (l.drop n).length = l.length - n := List.length_drop
    omega
   refine ⟨_,rfl,r,dx,_,rfl,hr',rfl,r,dx,l,n,97,122,8,ws,rest,rfl,hr',hn,hl,by rw [et,td],w1,w2,w3,?_⟩
   exact kQ (.nam ws) rest (.str (S ws)) _ (by rw [et]; exact pe) rfl (by rw [← pos]; exact upd_same) (but _)
end
end K85
end
section
set_option maxHeartbeats 4000000
namespace K85
open PySem L2 PyProof.Rows
theorem suffix_drop {l u v : List Nat} {m : Nat} (h : l.drop m = u ++ v) : l.drop (l.length - v.length) = v := by
 have e : l = (l.take m ++ u) ++ v := by rw [List.append_assoc,← h,List.take_append_drop]
 have : l.length = (l.take m ++ u).length + v.length := by
  have := congrArg List.length e
  rwa [List.length_append] at this
 rw [this,Nat.add_sub_cancel]
 have q : l.drop (l.take m ++ u).length = ((l.take m ++ u) ++ v).drop (l.take m ++ u).length := by rw [← e]
 rw [q,List.drop_left]
section
variable {P : Program} {w : World} {K : PySem.W.Frag} {mg : Str → Option Value} {base : Heap} {C NT W : Addr}
theorem rp_step {f : Addr} {fd : FuncData} (L : MLk K C "read_parts" "Reader.read_parts" s_Reader_read_parts ["self","closing","room"] f fd) (T : Txt mg) (rc : RC K C) (N : RE K mg NT W) (M_sign : MCallee P w K mg base C "sign" ["self"] 1 (spSign C)) (d : Nat) (MX_read_value : MCalleeX P w K mg base C "read_value" ["self","room"] (2 * d + 4) (spRV C NT d)) :
  MCalleeX P w K mg base C "read_parts" ["self","closing","room"] (2 * d + 5) (spRP C NT d) := by
 have hCl := rc.cl
 obtain ⟨f5,fd5,q5,h5,fn5,b5⟩ := N.ini
 have F5 := ok_ini (P := P) (w := w) (mg := mg) (base := base) fn5
 refine ⟨f,fd,L.F.okX sc_Reader_read_parts (fun vs H Q E h => ?_) (fun cdv A outer s H vs Q E hr h => ?_),L.M,L.b⟩
 ·obtain ⟨r,dx,l,n,b,rfl,_⟩ := h
  rfl
 ·obtain ⟨r,dx,l,n,b,rfl,hr',hn2,hl,kQ,kE⟩ := h
  obtain ⟨u3,hu3,k3⟩ : ∃ u,PSs ((cxOf (CXD P w) P w K mg base ["self","closing","room","parts"] "Reader.read_parts" (defScope s_Reader_read_parts) f cdv A outer s H E)) ((defBody s_Reader_read_parts).drop 3) u ∧ ∀ (a : Addr) (xs : List V) (ws : List Tx) (p0 : Nat) (H' : Hp),H a = none → H' a = some (.lst xs) → Rps (fun y => H y = none ∧ y ≠ a) H' xs ws → H' r = some (rdr C dx l p0) → p0 ≤ l.length → ButR r H H' → pclose b ws (l.drop p0) = pparts (pv d) b (l.drop (n + 1)) →
    u { nx := fun _ H' => Q .non H',rt := Q } [some (.ref r),some (.str (S [cls b])),some (.int (d : Int)),some (.ref a)] H' := by
   have hb : QB ((cxOf (CXD P w) P w K mg base ["self","closing","room","parts"] "Reader.read_parts" (defScope s_Reader_read_parts) f cdv A outer s H E)) ((defBody s_Reader_read_parts).drop 3) _ := (qb_cn (qs_if (qt_cmpR op_ne (qe_meth0C (qv 0) hCl M_sign (hr.mono (by first | decide | omega))) (qv 1) (nomark _)) (qb_one (qs_raise raises_cx rfl (qe_excI q5 h5 F5 (hr.mono (by first | decide | omega)) b5 N.kp N.mN (qa_cn (qe_fld (qv 0)) qa_nil)))) qb_nil)
   (qb_cn (qs_fldaug (qv 0) qe_int in_add)
   (qb_one (qs_ret (qv 3)))))
   (with_reducible refine ⟨_,hb.p,fun a xs ws p0 H' ha hx hs hr2 hp0 bb hc => ?_⟩)
   have nra : a ≠ r := fun z => by rw [z,hr'] at ha; cases ha
   have ld : (l.drop p0).length = l.length - p0 := List.length_drop
   have rz : ∀ D : Ends,pclose b ws (l.drop p0) = .bad (l.drop p0) → tRaise K (tExcI NT (L2.spInit K "at") (tCons (tFld K (tVar 0) "at") tNil)) E D [some (V.ref r),some (.str (S [cls b])),some (.int (d : Int)),some (.ref a)] H' := fun D hb =>
    raiseI (K := K) (E := E) (C := NT) (fld := "at") (v := .int (p0 : Int)) N.ok N.na (fun Q h => ⟨_,rfl,r,C,dx,_,_,rfl,hr2,rc.cl,rc.na,rfl,h⟩) (fun d' H2 hd sm => by
     refine kE (l.drop p0) (hc.symm.trans hb) d' H2 ?_ (fun y o e ny _ => sm y o (bb y o e ny))
     rw [ld,show l.length - (l.length - p0) = p0 by omega]
     exact hd)
   refine ⟨_,rfl,r,dx,_,rfl,hr2,rfl,r,dx,l,p0,rfl,hr2,hp0,hl,?_⟩
   cases et : l.drop p0 with
   | nil => exact ⟨_,rfl,rfl,_,rfl,ite2 (fun _ => rz _ (by rw [et]; rfl)) (fun y => absurd (by rw [decide_eq_false (fun z => by injection z with z; have : ([] : List Nat) = [cls b] := congrArg (fun x : Str => x.cps.toList) z; cases this)]; rfl) y)⟩
   | cons c r0 =>
    have lt : r0.length + 1 = l.length - p0 := by rw [← List.length_drop,et]; rfl
    by_cases e : c = cls b
    ·subst e
     refine ⟨_,rfl,rfl,_,rfl,iteNS rfl ?_⟩
     refine ⟨_,rfl,r,C,dx,_,_,rfl,hr2,rc.cl,rc.na,rfl,_,_,rfl,rfl,dx,_,hr2,by show 2 < 1000; decide,?_⟩
     refine ⟨_,rfl,kQ ws r0 a xs _ (hc.symm.trans ?_) ha (by rw [upd_ne nra]; exact hx) (Rps.keep (fun y o z e => ⟨z,by rw [upd_ne (fun q => by rw [q,hr'] at z; cases z.1)]; exact e⟩) ws hs) (by rw [show l.length - r0.length = p0 + 1 by omega]; exact upd_same) fun y o e ny => by rw [upd_ne ny]; exact bb y o e ny⟩
     rw [et]
     show (if cls b = cls b then _ else _) = _
     rw [if_pos rfl]
    ·refine ⟨_,rfl,rfl,_,rfl,ite2 (fun _ => rz _ ?_) (fun y => absurd (show (!decide (V.str (S [c]) = V.str (S [cls b]))) = true by rw [decide_eq_false (fun z => e (sgn_eq (decide_eq_true z)))]; rfl) y)⟩
     rw [et]
     show (if c = cls b then _ else _) = _
     rw [if_neg e]
  have hb : QB ((cxOf (CXD P w) P w K mg base ["self","closing","room","parts"] "Reader.read_parts" (defScope s_Reader_read_parts) f cdv A outer s H E)) (defBody s_Reader_read_parts) _ := (qb_cn (qs_fldaug (qv 0) qe_int in_add)
   (qb_cn (qs_set (i := 3) sc_Reader_read_parts.nd rfl (Or.inl rfl) (qe_lst qa_nil))
   (qb_cn (qs_if (qt_cmpR op_ne (qe_meth0C (qv 0) hCl M_sign (hr.mono (by first | decide | omega))) (qv 1) (nomark _)) (qb_cn (qs_expr (qe_bm PySem.F.plainAttrs_list PySem.F.slot_list_append PySem.F.type_list_append mt_append (qv 3) (qa_cn (qe_methX passes_up (qv 0) hCl MX_read_value (hr.mono (by first | decide | omega)) (qa_cn (qv 2) qa_nil)) qa_nil)))
   (qb_one (qs_while PassesOwn.leaving (qt_cmpR op_eq (qe_meth0C (qv 0) hCl M_sign (hr.mono (by first | decide | omega))) qe_str (nomark _)) (qb_cn (qs_fldaug (qv 0) qe_int in_add)
   (qb_one (qs_expr (qe_bm PySem.F.plainAttrs_list PySem.F.slot_list_append PySem.F.type_list_append mt_append (qv 3) (qa_cn (qe_methX passes_up (qv 0) hCl MX_read_value (hr.mono (by first | decide | omega)) (qa_cn (qv 2) qa_nil)) qa_nil)))))))) qb_nil)
   ⟨hu3⟩)))
  (with_reducible refine ⟨_,hb.p,?_⟩)
  refine ⟨_,rfl,r,C,dx,_,_,rfl,hr',rc.cl,rc.na,rfl,_,_,rfl,rfl,dx,_,hr',by show 2 < 1000; decide,?_⟩
  refine ⟨Nat.zero_le _,fun a ha1 => ?_⟩
  have nra : a ≠ r := fun z => by rw [z,upd_same] at ha1; cases ha1
  have ha : H a = none := by rw [upd_ne nra] at ha1; exact ha1
  have hr1 : (upd H r (rdr C dx l (n + 1))) r = some (rdr C dx l (n + 1)) := upd_same
  have hr2 : (upd (upd H r (rdr C dx l (n + 1))) a (.lst [])) r = some (rdr C dx l (n + 1)) := by rw [upd_ne (Ne.symm nra)]; exact hr1
  have bb2 : ButR r H (upd (upd H r (rdr C dx l (n + 1))) a (.lst [])) := fun y o e z => by rw [upd_ne (ne_of_none e ha),upd_ne z]; exact e
  refine ⟨_,rfl,r,dx,_,rfl,hr2,rfl,r,dx,l,n + 1,rfl,hr2,hn2,hl,?_⟩
  have fr : ∀ y,(upd (upd H r (rdr C dx l (n + 1))) a (.lst [])) y = none → H y = none ∧ y ≠ a := fun y z => by
   have n1 : y ≠ a := fun q => by rw [q,upd_same] at z; cases z
   have n2 : y ≠ r := fun q => by rw [q,hr2] at z; cases z
   rw [upd_ne n1,upd_ne n2] at z
   exact ⟨z,n1⟩
  by_cases hh : (l.drop (n + 1)).head? = some (cls b)
  ·obtain ⟨r0,et⟩ : ∃ r0,l.drop (n + 1) = cls b :: r0 := by
    cases e : l.drop (n + 1) with
    | nil => rw [e] at hh; cases hh
    | cons c r0 => rw [e] at hh; cases hh; exact ⟨r0,rfl⟩
   have pe : pparts (pv d) b (l.drop (n + 1)) = pclose b [] (l.drop (n + 1)) := by
    unfold pparts
    rw [if_pos hh]
   have fin := k3 a [] [] (n + 1) _ ha upd_same trivial hr2 hn2 bb2 pe.symm
   rw [et]
   exact ⟨_,rfl,rfl,_,rfl,iteNS rfl fin⟩
  ·have pe : pparts (pv d) b (l.drop (n + 1)) = (match pv d (l.drop (n + 1)) with | .ok v r => ploop (pv d) b (l.drop (n + 1)).length r [v] | .bad r => .bad r) := by
    unfold pparts
    rw [if_neg hh]
    first | done | (cases pv d (l.drop (n + 1)) <;> rfl)
   have ns : (!decide (V.str (S ((l.drop (n + 1)).take 1)) = V.str (S [cls b]))) = true := by
    rw [decide_eq_false fun z => hh ?_]
    ·rfl
    ·injection z with z
     have z : (l.drop (n + 1)).take 1 = [cls b] := by
      have := congrArg (fun x : Str => x.cps.toList) z
      simpa [S] using this
     cases e : l.drop (n + 1) with
     | nil => rw [e] at z; cases z
     | cons c r0 => rw [e] at z; cases z; rfl
   refine ⟨_,rfl,rfl,_,rfl,ite2 (fun _ => ?_) (fun y => absurd ns y)⟩
   refine ⟨_,rfl,.inl ⟨rfl,_,SqL.of upd_same⟩,_,rfl,r,dx,_,rfl,hr2,rfl,_,rfl,r,dx,l,n + 1,rfl,hr2,hn2,hl,(fun v rest x H3 hp rx hr3 b3 => ?_),(fun rest hp => ((kE rest (by rw [pe,hp])).back bb2).up)⟩
   rw [hp] at pe
   have ha3 := b3 _ _ (show (upd (upd H r (rdr C dx l (n + 1))) a (.lst [])) a = some (.lst []) from upd_same) nra
   refine ⟨a,[],x,rfl,rfl,ha3,by decide,?_⟩
   have sd := suffix_drop (pv_ok d _ _ _ hp)
   have ln := pv_len hp
   have l1 : (l.drop (n + 1)).length = l.length - (n + 1) := List.length_drop
   refine ⟨fun q σ H' => ∃ (xs : List V) (ws : List Tx) (p0 fuel : Nat),q = (l.drop p0).length ∧ σ = [some (.ref r),some (.str (S [cls b])),some (.int (d : Int)),some (.ref a)] ∧ H' r = some (rdr C dx l p0) ∧ p0 ≤ l.length ∧ H' a = some (.lst xs) ∧ Rps (fun y => H y = none ∧ y ≠ a) H' xs ws ∧ ButR r H H' ∧ xs.length ≤ p0 ∧ (l.drop p0).length ≤ fuel ∧
    ploop (pv d) b fuel (l.drop p0) ws = pparts (pv d) b (l.drop (n + 1)),⟨_,[x],[v],l.length - rest.length,(l.drop (n + 1)).length,rfl,rfl,by rw [upd_ne (Ne.symm nra)]; exact hr3,Nat.sub_le _ _,upd_same,⟨Rp.keep (fun y o z e => ⟨fr y z,by rw [upd_ne (fr y z).2]; exact e⟩) v rx,trivial⟩,?_,?_,by rw [sd]; exact ln,by rw [sd]; exact pe.symm⟩,?_⟩
   ·intro y o e z
    rw [upd_ne (ne_of_none e ha)]
    exact b3 y o (bb2 y o e z) z
   ·show 1 ≤ l.length - rest.length
    omega
   ·rintro q σ H' ⟨xs,ws,p0,fuel,rfl,rfl,hr4,hp0,hx,hs,bb,lx,lf,pl⟩
    refine ⟨_,rfl,r,dx,_,rfl,hr4,rfl,r,dx,l,p0,rfl,hr4,hp0,hl,?_⟩
    cases et : l.drop p0 with
    | nil =>
     refine ⟨rfl,_,rfl,iteF (k3 a xs ws p0 _ ha hx hs hr4 hp0 bb ?_)⟩
     rw [← pl,et]
     cases fuel <;> rfl
    | cons c r0 =>
     rw [et] at lf pl
     obtain ⟨fu,rfl⟩ : ∃ fu,fuel = fu + 1 := ⟨fuel - 1,by simp only [List.length_cons] at lf; omega⟩
     by_cases c44 : c = 44
     ·subst c44
      have hdq : l.drop p0 = [44] ++ r0 := et
      have hd5 : l.drop (p0 + 1) = r0 := drop_app hdq
      have hn5 : p0 + 1 ≤ l.length := drop_le hdq hp0
      have pl2 : (match pv d r0 with | .ok v r' => ploop (pv d) b fu r' (ws ++ [v]) | .bad r' => .bad r') = pparts (pv d) b (l.drop (n + 1)) := by
       rw [← pl]
       show _ = (if 44 = 44 then _ else _)
       rw [if_pos rfl]
       first | done | (cases pv d r0 <;> rfl)
      refine ⟨rfl,_,rfl,iteT ⟨_,fun σ' H' h => h,?_⟩⟩
      refine ⟨_,rfl,r,C,dx,_,_,rfl,hr4,rc.cl,rc.na,rfl,_,_,rfl,rfl,dx,_,hr4,by show 2 < 1000; decide,?_⟩
      have hr5 : (upd H' r (rdr C dx l (p0 + 1))) r = some (rdr C dx l (p0 + 1)) := upd_same
      have hx5 : (upd H' r (rdr C dx l (p0 + 1))) a = some (.lst xs) := by rw [upd_ne nra]; exact hx
      have bb5 : ButR r H (upd H' r (rdr C dx l (p0 + 1))) := fun y o e ny => by rw [upd_ne ny]; exact bb y o e ny
      refine ⟨_,rfl,.inl ⟨rfl,_,SqL.of hx5⟩,_,rfl,r,dx,_,rfl,hr5,rfl,_,rfl,r,dx,l,p0 + 1,rfl,hr5,hn5,hl,(fun v rest y H6 hp ry hr6 b6 => ?_),(fun rest hp => ((kE rest (by rw [← pl2,← hd5,hp])).back bb5).up)⟩
      have hx6 := b6 _ _ hx5 nra
      have sd := suffix_drop (pv_ok d _ _ _ hp)
      have ln := pv_len hp
      have nyr : ∀ z,(H z = none ∧ z ≠ a) → z ≠ r := fun z hz q => by rw [q,hr'] at hz; cases hz.1
      have fr6 : ∀ z,(upd H' r (rdr C dx l (p0 + 1))) z = none → H z = none ∧ z ≠ a := fun z hz => by
       have n2 : z ≠ r := fun q => by rw [q,upd_same] at hz; cases hz
       rw [upd_ne n2] at hz
       refine ⟨?_,fun q => by rw [q,hx] at hz; cases hz⟩
       cases e : H z with
       | none => rfl
       | some o => rw [bb z o e n2] at hz; cases hz
      refine ⟨a,xs,y,rfl,rfl,hx6,Nat.lt_of_le_of_lt (Nat.le_trans lx (Nat.le_trans hp0 hl)) (by decide),?_⟩
      have l5 : (l.drop (p0 + 1)).length = r0.length := by rw [hd5]
      have l6 : (l.drop (p0 + 1)).length = l.length - (p0 + 1) := List.length_drop
      refine ⟨rest.length,by rw [List.length_cons]; omega,xs ++ [y],ws ++ [v],l.length - rest.length,fu,by rw [sd],rfl,by rw [upd_ne (Ne.symm nra)]; exact hr6,Nat.sub_le _ _,upd_same,?_,?_,?_,?_,?_⟩
      ·refine Rps.snoc (Rp.keep (fun z o hz e => ⟨fr6 z hz,by rw [upd_ne (fr6 z hz).2]; exact e⟩) v ry) (Rps.keep (fun z o hz e => ⟨hz,?_⟩) ws hs)
       rw [upd_ne hz.2]
       exact b6 z o (by rw [upd_ne (nyr z hz)]; exact e) (nyr z hz)
      ·intro z o e nz
       rw [upd_ne (ne_of_none e ha)]
       exact b6 z o (bb5 z o e nz) nz
      ·rw [List.length_append]
       show xs.length + 1 ≤ l.length - rest.length
       omega
      ·rw [sd]
       simp only [List.length_cons] at lf
       omega
      ·rw [sd,← pl2,← hd5,hp]
     ·refine ⟨rfl,_,rfl,ite2 (fun y => absurd y (sgn_ne (k := 44) c44)) (fun _ => k3 a xs ws p0 _ ha hx hs hr4 hp0 bb ?_)⟩
      rw [← pl,et]
      show _ = (if c = 44 then _ else _)
      rw [if_neg c44]
end
end K85
end
section
set_option maxHeartbeats 4000000
namespace K85
open PySem L2 PyProof.Rows
def SameX (H H' : Hp) : Prop := ∀ b o,H b = some o → (∀ φ,o ≠ .ext φ) → H' b = some o
def spRead (NT : Addr) : Sp := fun vs H Q E => ∃ l : List Nat,vs = [.str (S l)] ∧ l.length ≤ 1000000 ∧ (∀ v x H',pread l = .ok v [] → Rp (fun a => H a = none) H' x v → Same H H' → Q x H') ∧
 ∀ rest,pread l = .bad rest → ∀ d H',H' d = some (.xd [("at",.int ((l.length - rest.length : Nat) : Int))]) → SameX H H' → E (.ref NT) (some d) H'
section
variable {P : Program} {w : World} {K : PySem.W.Frag} {mg : Str → Option Value} {base : Heap} {C NT W : Addr}
theorem ok_rv {f1 f2 : Addr} {fd1 fd2 : FuncData} {tL : Tok} (L1 : MLk K C "read_value" "Reader.read_value" s_Reader_read_value ["self","room"] f1 fd1) (L2 : MLk K C "read_parts" "Reader.read_parts" s_Reader_read_parts ["self","closing","room"] f2 fd2) (T : Txt mg) (rc : RC K C) (N : RE K mg NT W) (hLON : mg "LONGEST_NAME" = some (.int 8 tL)) (M_sign : MCallee P w K mg base C "sign" ["self"] 1 (spSign C)) (M_go_over : MCallee P w K mg base C "go_over" ["self","first","last","most"] 2 (spGo C)) (M_read_number : MCalleeX P w K mg base C "read_number" ["self"] 3 (spRN C NT)) :
  ∀ d,MCalleeX P w K mg base C "read_value" ["self","room"] (2 * d + 4) (spRV C NT d)
 | 0 => rv_step L1 T rc hLON M_sign M_go_over M_read_number 0 (fun _ _ _ _ => False) (fun q z => by cases z) ⟨f2,fd2,L2.F.okX sc_Reader_read_parts (fun _ _ _ _ h => h.elim) (fun _ _ _ _ _ _ _ _ _ h => h.elim),L2.M,L2.b⟩
 | d + 1 => rv_step L1 T rc hLON M_sign M_go_over M_read_number (d + 1) (spRP C NT d) (fun q z => by cases z; rfl) (rp_step L2 T rc N M_sign d (ok_rv L1 L2 T rc N hLON M_sign M_go_over M_read_number d))
theorem ok_read {f : Addr} {fd : FuncData} {tD : Tok} (L : Lk K mg "read" s_read ["text"] f fd) (T : Txt mg) (rc : RC K C) (N : RE K mg NT W) (hDEE : mg "DEEPEST_VALUE" = some (.int 30 tD)) (MK_Reader : MkC P w K mg base "Reader" C ["self","text"] 1 (spInit C)) (MX_read_value : MCalleeX P w K mg base C "read_value" ["self","room"] 64 (spRV C NT 30)) : CalleeX P w K mg base "read" ["text"] 65 (spRead NT) := by
 have hCl := rc.cl
 obtain ⟨f5,fd5,q5,h5,fn5,b5⟩ := N.ini
 have F5 := ok_ini (P := P) (w := w) (mg := mg) (base := base) fn5
 refine ⟨f,fd,L.F.okX sc_read (fun vs H Q E h => ?_) (fun cdv A outer s H vs Q E hr h => ?_),L.m,L.F.kp,L.b⟩
 ·obtain ⟨l,rfl,_⟩ := h
  rfl
 ·obtain ⟨l,rfl,tl,kQ,kE⟩ := h
  have hqq : QB ((cxOf (CXD P w) P w K mg base ["text","reader","value"] "read" (defScope s_read) f cdv A outer s H E)) (defBody s_read) _ := (qb_cn (qs_set (i := 1) sc_read.nd rfl (Or.inl rfl) (qe_makeC MK_Reader (hr.mono (by first | decide | omega)) (by rfl) (qa_cn (qv 0) qa_nil)))
   (qb_cn (qs_set (i := 2) sc_read.nd rfl (Or.inl rfl) (qe_methX passes_up (qv 1) hCl MX_read_value (hr.mono (by first | decide | omega)) (qa_cn (qe_glob (v := .int 30) (by rfl) hDEE ⟨_,rfl⟩) qa_nil)))
   (qb_cn (qs_if (qt_cmpR op_lt (qe_fld (qv 1)) (qe_callB call_len_str (by rfl) T.len PySem.boot_len (qa_cn (qv 0) qa_nil)) (nomark _)) (qb_one (qs_raise raises_cx rfl (qe_excI q5 h5 F5 (hr.mono (by first | decide | omega)) b5 N.kp N.mN (qa_cn (qe_fld (qv 1)) qa_nil)))) qb_nil)
   (qb_one (qs_ret (qv 2))))))
  (with_reducible refine ⟨_,hqq.p,?_⟩)
  refine ⟨_,rfl,fun r dx hr0 hdx ndx => ⟨r,dx,l,rfl,upd_same,rfl,?_⟩⟩
  have hr1 : (upd (upd (upd H dx (.own r)) r (.ins C dx [])) r (rdr C dx l 0)) r = some (rdr C dx l 0) := upd_same
  have s1 : Same H (upd (upd (upd H dx (.own r)) r (.ins C dx [])) r (rdr C dx l 0)) := fun y o e => by
   rw [upd_ne (ne_of_none e hr0),upd_ne (ne_of_none e hr0),upd_ne (ne_of_none e hdx)]
   exact e
  have fr : ∀ a,(upd (upd (upd H dx (.own r)) r (.ins C dx [])) r (rdr C dx l 0)) a = none → H a = none := fun a z => by
   cases e : H a with
   | none => rfl
   | some o => rw [s1 a o e] at z; cases z
  refine ⟨_,rfl,r,dx,_,rfl,hr1,rfl,r,dx,l,0,rfl,hr1,Nat.zero_le _,tl,fun v rest x H' hp rx hr2 bb => ?_,fun rest hp => ?_⟩
  ·rw [List.drop_zero] at hp
   have sH : Same H H' := fun y o e => bb y o (s1 y o e) (ne_of_none e hr0)
   refine ⟨_,rfl,r,C,dx,_,_,rfl,hr2,rc.cl,rc.na,rfl,_,rfl,S l,rfl,by rw [S_len]; exact Nat.le_trans tl (by decide),_,_,rfl,rfl,_,rfl,?_⟩
   cases rest with
   | nil =>
    rw [decide_eq_false (show ¬ (((l.length - ([] : List Nat).length : Nat) : Int) < ((S l).length : Int)) by rw [S_len]; show ¬ (((l.length - 0 : Nat) : Int) < (l.length : Int)); omega)]
    exact iteF ⟨_,rfl,kQ v x H' (by unfold pread; rw [hp]) (Rp.keep (fun a o z e => ⟨fr a z,e⟩) v rx) sH⟩
   | cons c r0 =>
    have pb : pread l = .bad (c :: r0) := by unfold pread; rw [hp]
    have ln := pv_len hp
    have l1 : (c :: r0).length = r0.length + 1 := rfl
    rw [decide_eq_true (show (((l.length - (c :: r0).length : Nat) : Int) < ((S l).length : Int)) by rw [S_len]; omega)]
    exact iteT (raiseI (K := K) (E := E) (C := NT) (fld := "at") (v := .int ((l.length - (c :: r0).length : Nat) : Int)) N.ok N.na (fun Q h => ⟨_,rfl,r,C,dx,_,_,rfl,hr2,rc.cl,rc.na,rfl,h⟩) (fun d' H3 hd3 sm => kE _ pb d' H3 hd3 fun b o e _ => sm b o (sH b o e)))
  ·rw [List.drop_zero] at hp
   have pb : pread l = .bad rest := by unfold pread; rw [hp]
   exact Bad.up (r := r) fun d' H3 hd3 kx3 => kE rest pb d' H3 hd3 fun b o e ne => kx3 b o (s1 b o e) (ne_of_none e hr0) ne
end
end K85
end
section
set_option maxHeartbeats 4000000
namespace K85
open PySem L2 PyProof.Rows
abbrev s_is_whole : Stmt := top 9
theorem sc_is_whole : FnScope ["thing"] ["thing"] (defScope s_is_whole) := ⟨rfl,rfl,rfl,by decide +kernel,rfl,by decide +kernel,by decide +kernel⟩
abbrev s_is_name : Stmt := top 10
theorem sc_is_name : FnScope ["thing"] ["thing"] (defScope s_is_name) := ⟨rfl,rfl,rfl,by decide +kernel,rfl,by decide +kernel,by decide +kernel⟩
abbrev s_number_in : Stmt := top 17
theorem sc_number_in : FnScope ["word","value"] ["word"] (defScope s_number_in) := ⟨rfl,rfl,rfl,by decide +kernel,rfl,by decide +kernel,by decide +kernel⟩
theorem lead_all (a b : Nat) : ∀ (m : Nat) (l : List Nat),(∀ c ∈ l,a ≤ c ∧ c ≤ b) → l.length ≤ m → lead a b m l = l.length
 | 0,[],_,_ => rfl
 | 0,_ :: _,_,h => by simp at h
 | _ + 1,[],_,_ => rfl
 | m + 1,c :: r,h,hl => by
  show (if a ≤ c ∧ c ≤ b then lead a b m r + 1 else 0) = r.length + 1
  rw [if_pos (h c List.mem_cons_self),lead_all a b m r (fun x hx => h x (List.mem_cons_of_mem _ hx)) (by simp at hl; omega)]
theorem fig_back {m : Nat} (neg : Bool) (h : 0 < m) (hm : m < 10 ^ 300) : pfig neg (digs m) = .ok (.num neg (digs m)) [] := by
 obtain ⟨c,r,e,hc⟩ := dig_head m h
 have la := lead_all 48 57 300 (digs m) (dig_in m) (dig_len 299 m hm)
 rw [e] at la ⊢
 show (if 49 ≤ c ∧ c ≤ 57 then Res.ok (Tx.num neg ((c :: r).take (lead 48 57 300 (c :: r)))) ((c :: r).drop (lead 48 57 300 (c :: r))) else .bad (c :: r)) = _
 rw [if_pos (show 49 ≤ c ∧ c ≤ 57 from hc),la,List.take_of_length_le (Nat.le_refl _),List.drop_of_length_le (Nat.le_refl _)]
theorem num_head (i : Int) : ∃ c r,numL i = c :: r ∧ (c = 45 ∨ (48 ≤ c ∧ c ≤ 57)) := by
 by_cases h0 : 0 ≤ i
 ·obtain ⟨m,rfl⟩ := Int.eq_ofNat_of_zero_le h0
  by_cases m0 : m = 0
  ·subst m0
   exact ⟨48,[],by rw [num_pos]; rfl,.inr (by decide)⟩
  ·obtain ⟨c,r,e,hc⟩ := dig_head m (by omega)
   exact ⟨c,r,by rw [num_pos,e],.inr ⟨by have := hc.1; omega,hc.2⟩⟩
 ·obtain ⟨m,rfl⟩ : ∃ m : Nat,i = -(m : Int) := ⟨i.natAbs,by omega⟩
  exact ⟨45,digs m,num_neg m (by omega),.inl rfl⟩
theorem num_read {i : Int} (h : i.natAbs < 10 ^ 300) : ∃ neg ds,pread (numL i) = .ok (.num neg ds) [] := by
 have fromP : ∀ {l : List Nat} {neg : Bool} {ds : List Nat},(∃ c r,l = c :: r ∧ (c = 45 ∨ (48 ≤ c ∧ c ≤ 57))) → pnum l = .ok (.num neg ds) [] → ∃ neg ds,pread l = .ok (.num neg ds) [] := by
  rintro _ neg ds ⟨c,r,rfl,hc⟩ hp
  have hv : pv 30 (c :: r) = pnum (c :: r) := by
   show (if c = 95 then Res.ok Tx.non r else if 97 ≤ c ∧ c ≤ 122 then .ok (.nam ((c :: r).take (lead 97 122 8 (c :: r)))) ((c :: r).drop (lead 97 122 8 (c :: r))) else
    if c = 40 then pparts (pv 29) true r else if c = 91 then pparts (pv 29) false r else pnum (c :: r)) = _
   rw [if_neg (by omega),if_neg (by omega),if_neg (by omega),if_neg (by omega)]
  refine ⟨neg,ds,?_⟩
  unfold pread
  rw [hv,hp]
 by_cases h0 : 0 ≤ i
 ·obtain ⟨m,rfl⟩ := Int.eq_ofNat_of_zero_le h0
  have hm : m < 10 ^ 300 := by simpa using h
  by_cases m0 : m = 0
  ·subst m0
   exact fromP (num_head 0) (show pnum (numL 0) = .ok (.num false [48]) [] from rfl)
  ·refine fromP (neg := false) (ds := digs m) (num_head _) ?_
   rw [num_pos]
   have fb := fig_back false (by omega) hm
   obtain ⟨c,r,e,hc⟩ := dig_head m (by omega)
   have h1 := hc.1
   have h2 := hc.2
   rw [e] at fb ⊢
   show (if c = 48 then Res.ok (Tx.num false [48]) r else if c = 45 then pfig true r else pfig false (c :: r)) = _
   rw [if_neg (by omega),if_neg (by omega),fb]
 ·obtain ⟨m,rfl⟩ : ∃ m : Nat,i = -(m : Int) := ⟨i.natAbs,by omega⟩
  have hm : m < 10 ^ 300 := by omega
  refine fromP (neg := true) (ds := digs m) (num_head _) ?_
  rw [num_neg m (by omega)]
  exact fig_back true (by omega) hm
theorem pv_other {d : Nat} {l r : List Nat} {v : Tx} (h : pv d l = .ok v r) : (∃ neg ds,v = .num neg ds) ∨ ∃ c u,txt v = c :: u ∧ ¬ (c = 45 ∨ (48 ≤ c ∧ c ≤ 57)) := by
 have hn : ∀ {l : List Nat},pnum l = .ok v r → ∃ neg ds,v = .num neg ds := by
  intro l h
  have hf : ∀ {neg : Bool} {l : List Nat},pfig neg l = .ok v r → ∃ neg ds,v = .num neg ds := by
   intro neg l h
   cases l with
   | nil => cases h
   | cons c l =>
    have h : (if 49 ≤ c ∧ c ≤ 57 then Res.ok (Tx.num neg ((c :: l).take (lead 48 57 300 (c :: l)))) ((c :: l).drop (lead 48 57 300 (c :: l))) else .bad (c :: l)) = .ok v r := h
    split at h
    ·cases h; exact ⟨_,_,rfl⟩
    ·cases h
  cases l with
  | nil => cases h
  | cons c l =>
   have h : (if c = 48 then Res.ok (Tx.num false [48]) l else if c = 45 then pfig true l else pfig false (c :: l)) = .ok v r := h
   split at h
   ·cases h; exact ⟨_,_,rfl⟩
   ·split at h
    ·exact hf h
    ·exact hf h
 have hc : ∀ {b : Bool} {vs : List Tx} {l : List Nat},pclose b vs l = .ok v r → ∃ ws,v = .seq b ws := fun h => ⟨_,(close_ok h).1⟩
 have hl : ∀ {f : List Nat → Res Tx} {b : Bool} (n : Nat) (l : List Nat) (vs : List Tx),ploop f b n l vs = .ok v r → ∃ ws,v = .seq b ws := by
  intro f b n
  induction n with
  | zero => intro l vs h; exact hc (show pclose b vs l = .ok v r from h)
  | succ n ih =>
   intro l vs h
   cases l with
   | nil => exact hc (show pclose b vs [] = .ok v r from h)
   | cons c l =>
    have h : (if c = 44 then (match f l with | .ok v r' => ploop f b n r' (vs ++ [v]) | .bad r' => .bad r') else pclose b vs (c :: l)) = .ok v r := h
    split at h
    ·cases q : f l with
     | bad r' => rw [q] at h; cases h
     | ok v1 r1 => rw [q] at h; exact ih _ _ h
    ·exact hc h
 have hp : ∀ {f : List Nat → Res Tx} {b : Bool} {l : List Nat},pparts f b l = .ok v r → ∃ c u,txt v = c :: u ∧ ¬ (c = 45 ∨ (48 ≤ c ∧ c ≤ 57)) := by
  intro f b l h
  obtain ⟨ws,rfl⟩ : ∃ ws,v = .seq b ws := by
   unfold pparts at h
   split at h
   ·exact hc h
   ·cases q : f l with
    | bad r' => rw [q] at h; cases h
    | ok v1 r1 => rw [q] at h; exact hl _ _ _ h
  exact ⟨opn b,txts ws ++ [cls b],rfl,by cases b <;> decide⟩
 have hnam : ∀ {c : Nat} {l : List Nat},97 ≤ c ∧ c ≤ 122 → ∃ u,(c :: l).take (lead 97 122 8 (c :: l)) = c :: u := fun {c l} h => by
  show ∃ u,(c :: l).take (if 97 ≤ c ∧ c ≤ 122 then lead 97 122 7 l + 1 else 0) = c :: u
  rw [if_pos h]
  exact ⟨_,List.take_succ_cons⟩
 cases l with
 | nil => rw [pv_nil] at h; cases h
 | cons c l =>
  cases d with
  | zero =>
   have h : (if c = 95 then Res.ok Tx.non l else if 97 ≤ c ∧ c ≤ 122 then .ok (.nam ((c :: l).take (lead 97 122 8 (c :: l)))) ((c :: l).drop (lead 97 122 8 (c :: l))) else pnum (c :: l)) = .ok v r := h
   split at h
   ·cases h; exact .inr ⟨95,[],rfl,by decide⟩
   split at h
   ·rename_i q
    obtain ⟨u,eu⟩ := hnam (l := l) q
    cases h; exact .inr ⟨c,u,eu,by omega⟩
   exact .inl (hn h)
  | succ room =>
   have h : (if c = 95 then Res.ok Tx.non l else if 97 ≤ c ∧ c ≤ 122 then .ok (.nam ((c :: l).take (lead 97 122 8 (c :: l)))) ((c :: l).drop (lead 97 122 8 (c :: l))) else
    if c = 40 then pparts (pv room) true l else if c = 91 then pparts (pv room) false l else pnum (c :: l)) = .ok v r := h
   split at h
   ·cases h; exact .inr ⟨95,[],rfl,by decide⟩
   split at h
   ·rename_i q
    obtain ⟨u,eu⟩ := hnam (l := l) q
    cases h; exact .inr ⟨c,u,eu,by omega⟩
   split at h
   ·exact .inr (hp h)
   split at h
   ·exact .inr (hp h)
   exact .inl (hn h)
end K85
end
section
set_option maxHeartbeats 4000000
namespace K85
open PySem L2 PyProof.Rows
def spWhole (K : PySem.W.Frag) : Sp := fun vs H Q _ => ∃ (x : V) (t : Value) (a b : Bool),vs = [x] ∧ TyOf K H x t ∧ PySem.W.kitOne K t (.type "int") = some a ∧ PySem.W.kitOne K t (.type "bool") = some b ∧ Q (.bl (a && !b)) H
def isName (z : List Nat) : Prop := 1 ≤ z.length ∧ z.length ≤ 8 ∧ ∀ c ∈ z,97 ≤ c ∧ c ≤ 122
instance (z : List Nat) : Decidable (isName z) := by unfold isName; exact inferInstance
def spName : Sp := fun vs H Q _ => ∃ z : List Nat,vs = [.str (S z)] ∧ z.length ≤ 1000000 ∧ ∀ H',Same H H' → Q (.bl (decide (isName z))) H'
def spNum : Sp := fun vs H Q _ => ∃ l : List Nat,vs = [.str (S l)] ∧ l.length ≤ 1000000 ∧ (∀ i : Int,i.natAbs < 10 ^ 300 → l = numL i → ∀ H',SameX H H' → Q (.int i) H') ∧ ((∀ i : Int,i.natAbs < 10 ^ 300 → l ≠ numL i) → ∀ H',SameX H H' → Q .non H')
theorem SameX.trans {H H1 H2 : Hp} (a : SameX H H1) (b : SameX H1 H2) : SameX H H2 := fun c o e n => b c o (a c o e n) n
theorem SameX.of {H H' : Hp} (s : Same H H') : SameX H H' := fun b o e _ => s b o e
theorem SameX.flown {H H' : Hp} {x C : Addr} {dx : Option Addr} {T : Addr} {tb : Option Addr} (fl : H x = some (hE x (.ref C) dx tb)) (f : Flown H H' x (.ref C) dx T) : SameX H H' := fun b o e n => f.keep e (fun z => by
 rw [z,fl] at e
 cases e
 exact n _ rfl)
abbrev LET : Str := "abcdefghijklmnopqrstuvwxyz"
theorem inLET (c : Nat) : (!(Builtin.Str.occurrences LET (⟨#[c]⟩ : Str) 0 LET.length 1).isEmpty) = decide (97 ≤ c ∧ c ≤ 122) := by
 by_cases h : 97 ≤ c ∧ c ≤ 122
 ·have : c = 97 ∨ c = 98 ∨ c = 99 ∨ c = 100 ∨ c = 101 ∨ c = 102 ∨ c = 103 ∨ c = 104 ∨ c = 105 ∨ c = 106 ∨ c = 107 ∨ c = 108 ∨ c = 109 ∨ c = 110 ∨ c = 111 ∨ c = 112 ∨ c = 113 ∨ c = 114 ∨ c = 115 ∨ c = 116 ∨ c = 117 ∨ c = 118 ∨ c = 119 ∨ c = 120 ∨ c = 121 ∨ c = 122 := by omega
  rcases this with rfl | rfl | rfl | rfl | rfl | rfl | rfl | rfl | rfl | rfl | rfl | rfl | rfl | rfl | rfl | rfl | rfl | rfl | rfl | rfl | rfl | rfl | rfl | rfl | rfl | rfl <;> decide +kernel
 ·rw [decide_eq_false h,PySem.W.occ_nil_of_no LET (⟨#[c]⟩ : Str) 1 fun i hi => ?_]
  ·rfl
  ·unfold Builtin.Str.subAt
   refine beq_eq_false_iff_ne.mpr fun z => h ?_
   have z := congrArg Array.toList z
   have z : (LET.cps.extract i (i + 1)).toList = [c] := z
   have m : c ∈ LET.cps.toList := by
    have : c ∈ (LET.cps.extract i (i + 1)).toList := by rw [z]; exact List.mem_cons_self
    rw [Array.toList_extract] at this
    simp only [List.extract_eq_drop_take] at this
    exact List.mem_of_mem_drop (List.mem_of_mem_take this)
   have ma : ∀ c ∈ LET.cps.toList,97 ≤ c ∧ c ≤ 122 := by decide +kernel
   exact ma c m
section
variable {P : Program} {w : World} {K : PySem.W.Frag} {mg : Str → Option Value} {base : Heap} {f : Addr} {fd : FuncData} {C NT W : Addr}
theorem ok_whole (L : Lk K mg "is_whole" s_is_whole ["thing"] f fd) (T : Txt mg) : Callee P w K mg base "is_whole" ["thing"] 1 (spWhole K) := by
 refine L.callee (L.F.ok sc_is_whole (fun vs H Q E h => ?_) (fun cdv A outer s H vs Q E hr h => ?_))
 ·obtain ⟨x,t,a,b,rfl,_⟩ := h
  rfl
 ·obtain ⟨x,t,a,b,rfl,ty,k1,k2,k⟩ := h
  have hqq : QB ((cxOf CX0 P w K mg base ["thing"] "is_whole" (defScope s_is_whole) f cdv A outer s H E).nox) (defBody s_is_whole) _ := (qb_one (qs_ret (qe_and (qe_callB call_isinst (by rfl) T.isinstance boot_isinstance (qa_cn (qv 0) (qa_cn (qe_bltn (v := .ty "int") (by rfl) T.int boot_int rfl) qa_nil))) (qe_one (qe_not (qe_callB call_isinst (by rfl) T.isinstance boot_isinstance (qa_cn (qv 0) (qa_cn (qe_bltn (v := .ty "bool") (by rfl) T.bool boot_bool rfl) qa_nil))))))))
  (with_reducible refine ⟨_,hqq.p,?_⟩)
  refine ⟨_,rfl,x,_,t,_,rfl,ty,k1,_,rfl,?_⟩
  cases a with
  | false => exact iteF k
  | true => exact iteT ⟨_,rfl,x,_,t,_,rfl,ty,k2,_,rfl,k⟩
theorem ok_name {tL tN : Tok} (L : Lk K mg "is_name" s_is_name ["thing"] f fd) (T : Txt mg) (hLET : mg "LETTERS" = some (.str LET tL)) (hLON : mg "LONGEST_NAME" = some (.int 8 tN)) : Callee P w K mg base "is_name" ["thing"] 1 spName := by
 refine L.callee (L.F.ok sc_is_name (fun vs H Q E h => ?_) (fun cdv A outer s H vs Q E hr h => ?_))
 ·obtain ⟨x,rfl,_⟩ := h
  rfl
 ·obtain ⟨z,rfl,hz,k⟩ := h
  have lz : (S z).length ≤ sizeLine := by rw [S_len]; exact Nat.le_trans hz (by decide)
  have hqq : QB ((cxOf CX0 P w K mg base ["thing"] "is_name" (defScope s_is_name) f cdv A outer s H E).nox) (defBody s_is_name) _ := (qb_cn (qs_if (qw_pt (qw_or (qt_not (qt_val (qe_callB call_isinst (by rfl) T.isinstance boot_isinstance (qa_cn (qv 0) (qa_cn (qe_bltn (v := .ty "str") (by rfl) T.str boot_str rfl) qa_nil))))) (qw_or1 (qt_not (qt_chain op_le op_le qe_int (qe_callB call_len_str (by rfl) T.len PySem.boot_len (qa_cn (qv 0) qa_nil)) (qe_glob (v := .int 8) (by rfl) hLON ⟨_,rfl⟩)))))) (qb_one (qs_ret qe_bl)) qb_nil)
   (qb_one (qs_ret (qe_callB (call_all_list hr.hd) (by rfl) T.all boot_all (qa_cn (qe_comp ["sign"] [] [] ["thing"] (defScope s_is_name).names rfl (qi_str (qv 0)) (fun _ _ _ _ _ => (qg_name (i := 0) (show (["sign"] : List Str).Nodup by decide +kernel) rfl (Or.inl rfl))) (fun _ _ _ _ _ => qts_nil) (fun _ _ _ _ _ => (qe_cmpR op_in_str (qv 0) (qe_glob (v := .str LET) (by rfl) hLET ⟨_,rfl⟩) rfl))) qa_nil)))))
  (with_reducible refine ⟨_,hqq.p,?_⟩)
  refine ⟨_,rfl,_,_,_,_,rfl,.str _,rfl,_,rfl,iteF ?_⟩
  refine ⟨_,rfl,S z,rfl,lz,_,_,rfl,rfl,_,rfl,?_⟩
  have no : ¬ isName z → tRet (tC (.bl false)) { nx := fun _ H' => Q .non H',rt := Q } (start ["thing"] [.str (S z)]) H := fun n => by
   rw [decide_eq_false n] at k
   exact k H (Same.refl H)
  by_cases e1 : 1 ≤ z.length
  ·rw [decide_eq_true (show (1 : Int) ≤ ((S z).length : Int) by rw [S_len]; omega)]
   refine iteT ⟨_,_,rfl,rfl,_,rfl,?_⟩
   by_cases e2 : z.length ≤ 8
   ·rw [decide_eq_true (show ((S z).length : Int) ≤ 8 by rw [S_len]; omega)]
    refine iteF ⟨_,rfl,S z,rfl,fun D hD => ?_⟩
    refine comp_str (fun i ys H' => ys = ((z.take i).map fun c => V.bl (decide (97 ≤ c ∧ c ≤ 122))) ∧ Same H H') ⟨rfl,Same.new _ hD⟩ ?_ ?_
    ·rintro ys H' ⟨rfl,s'⟩ hD'
     have e : z.take (S z).cps.size = z := List.take_of_length_le (by show z.length ≤ z.toArray.size; simp)
     rw [e] at hD'
     refine ⟨D,z.map fun c => decide (97 ≤ c ∧ c ≤ 122),rfl,SqL.of (by rw [hD',List.map_map]; rfl),?_⟩
     have en : (z.map fun c => decide (97 ≤ c ∧ c ≤ 122)).all id = decide (isName z) := by
      rw [Bool.eq_iff_iff,List.all_eq_true,decide_eq_true_iff]
      unfold isName
      constructor
      ·intro q
       exact ⟨e1,e2,fun c hc => of_decide_eq_true (q _ (List.mem_map.mpr ⟨c,hc,rfl⟩))⟩
      ·rintro ⟨_,_,q⟩ b hb
       obtain ⟨c,hc,rfl⟩ := List.mem_map.mp hb
       exact decide_eq_true (q c hc)
     rw [en]
     exact k H' s'
    ·rintro i c ys H' hc ⟨rfl,s'⟩ hD'
     have hi : i < (S z).cps.size := (Array.getElem?_eq_some_iff.mp hc).1
     have hc' : z[i]? = some c := by
      have : (S z).cps.toList[i]? = some c := by simpa using hc
      rwa [S_list] at this
     refine ⟨rfl,_,rfl,_,_,rfl,rfl,?_⟩
     rw [inLET]
     refine ⟨hD',?_,nx hi ⟨?_,?_⟩⟩
     ·rw [List.length_map,List.length_take]
      exact Nat.lt_of_le_of_lt (show _ ≤ 8 by omega) (by decide)
     ·rw [List.take_add_one,hc',List.map_append]
      rfl
     ·intro b o e
      rw [upd_ne (ne_of_none e hD)]
      exact s' b o e
   ·rw [decide_eq_false (show ¬ ((S z).length : Int) ≤ 8 by rw [S_len]; omega)]
    exact iteT (no fun q => e2 q.2.1)
  ·rw [decide_eq_false (show ¬ (1 : Int) ≤ ((S z).length : Int) by rw [S_len]; omega)]
   exact iteF ⟨_,rfl,iteT (no fun q => e1 q.1)⟩
theorem ok_num (L : Lk K mg "number_in" s_number_in ["word"] f fd) (T : Txt mg) (N : RE K mg NT W) (C_read : CalleeX P w K mg base "read" ["text"] 65 (spRead NT)) (C_is_whole : Callee P w K mg base "is_whole" ["thing"] 1 (spWhole K)) : Callee P w K mg base "number_in" ["word"] 66 spNum := by
 refine L.callee (L.F.ok sc_number_in (fun vs H Q E h => ?_) (fun cdv A outer s H vs Q E hr h => ?_))
 ·obtain ⟨x,rfl,_⟩ := h
  rfl
 ·obtain ⟨l,rfl,hl,kQ,kN⟩ := h
  have hqq : QB ((cxOf CX0 P w K mg base ["word","value"] "number_in" (defScope s_number_in) f cdv A outer s H E).nox) (defBody s_number_in) _ := (qb_cn (qs_try rfl rfl (qx_set (i := 1) sc_number_in.nd rfl (Or.inl rfl) (qxe_callee C_read (hr.mono (by first | decide | omega)) (by rfl) (qa_cn (qv 0) qa_nil))) (qh_no (N.mN) (fun _ => (qb_one (qs_ret qe_non))) qh_nil))
   (qb_one (qs_ret (qe_ifExp (qt_val (qe_callee C_is_whole (hr.mono (by first | decide | omega)) (by rfl) (qa_cn (qv 1) qa_nil))) (qv 1) qe_non))))
  (with_reducible refine ⟨_,hqq.p,?_⟩)
  refine ⟨_,rfl,l,rfl,hl,fun v x H' hp rx sH => ?_,fun rest hp d H1 hd1 s1 => ⟨NT,rfl,fun x T' fl T2 H2 fn => ⟨true,N.exN,?_⟩⟩⟩
  ·have hpv : pv 30 l = .ok v [] := by
    unfold pread at hp
    split at hp
    ·cases hp; assumption
    ·cases hp
    ·cases hp
   have rj : l = txt v := by
    have := pv_ok 30 l v [] hpv
    rw [List.append_nil] at this
    exact this
   rcases pv_other hpv with ⟨neg,ds,rfl⟩ | ⟨c,u,e1,e2⟩
   ·obtain ⟨i,rfl,e,hi⟩ := rx
    refine ⟨_,rfl,.int i,_,true,false,rfl,.int i,rfl,rfl,_,rfl,iteT ⟨_,rfl,kQ i hi (by rw [rj,e]) H' (SameX.of sH)⟩⟩
   ·have no : ∀ i : Int,i.natAbs < 10 ^ 300 → l ≠ numL i := fun i _ z => by
     obtain ⟨c',r',e',h'⟩ := num_head i
     rw [rj,e1,e'] at z
     exact e2 ((List.cons.inj z).1 ▸ h')
    have fin : Q .non H' := kN no H' (SameX.of sH)
    have ty : ∃ t,TyOf K H' x t ∧ ∃ b,PySem.W.kitOne K t (.type "int") = some false ∧ PySem.W.kitOne K t (.type "bool") = some b := by
     cases v with
     | non => cases (show x = .non from rx); exact ⟨_,.non,_,rfl,rfl⟩
     | num neg ds =>
      obtain ⟨i,rfl,e,hi⟩ := rx
      exact absurd (by rw [rj,e]) (no i hi)
     | nam z => cases (show x = .str (S z) from rx); exact ⟨_,.str _,_,rfl,rfl⟩
     | seq b vs =>
      cases b with
      | true => obtain ⟨a,xs,rfl,_,ha,_⟩ := rx; exact ⟨_,.tup ha,_,rfl,rfl⟩
      | false => obtain ⟨a,xs,rfl,_,ha,_⟩ := rx; exact ⟨_,.lst ha,_,rfl,rfl⟩
    obtain ⟨t,ht,b,h1,h2⟩ := ty
    exact ⟨_,rfl,x,t,false,b,rfl,ht,h1,h2,_,rfl,iteF fin⟩
  ·rw [if_pos rfl]
   refine kN (fun i hi z => ?_) H2 (s1.trans (SameX.flown fl.ex fn))
   obtain ⟨neg,ds,e⟩ := num_read hi
   rw [z,e] at hp
   cases hp
end
end K85
end
section
set_option maxHeartbeats 4000000
namespace K85
open PySem L2 PyProof.Rows
theorem num_text {i : Int} (h : i.natAbs < 10 ^ 300) : PySem.intText? (S (numL i)) = some i := by
 by_cases h0 : 0 ≤ i
 ·obtain ⟨m,rfl⟩ := Int.eq_ofNat_of_zero_le h0
  rw [num_pos]
  by_cases m0 : m = 0
  ·subst m0; decide +kernel
  ·exact int_pos m (by omega) (by simpa using h)
 ·obtain ⟨m,rfl⟩ : ∃ m : Nat,i = -(m : Int) := ⟨i.natAbs,by omega⟩
  rw [num_neg m (by omega)]
  exact int_neg m (by omega) (by omega)
theorem num_inj {i j : Int} (hi : i.natAbs < 10 ^ 300) (hj : j.natAbs < 10 ^ 300) (h : numL i = numL j) : i = j := by
 have := num_text hi
 rw [h,num_text hj] at this
 exact (Option.some.inj this).symm
theorem small60 {n : Nat} (h : n < 10 ^ 60) : n < 10 ^ 300 := Nat.lt_of_lt_of_le h (Nat.pow_le_pow_right (by decide) (by decide))
theorem small7 {n : Nat} (h : n < 10 ^ 7) : n < 10 ^ 60 := Nat.lt_of_lt_of_le h (Nat.pow_le_pow_right (by decide) (by decide))
open Classical in
noncomputable def numOf (l : List Nat) : Option Int := if h : ∃ i : Int,i.natAbs < 10 ^ 300 ∧ l = numL i then some h.choose else none
theorem numOf_some {l : List Nat} {i : Int} (h : numOf l = some i) : i.natAbs < 10 ^ 300 ∧ l = numL i := by
 unfold numOf at h
 split at h
 ·rename_i q
  cases h
  exact q.choose_spec
 ·cases h
theorem numOf_num {i : Int} (h : i.natAbs < 10 ^ 300) : numOf (numL i) = some i := by
 have q : ∃ j : Int,j.natAbs < 10 ^ 300 ∧ numL i = numL j := ⟨i,h,rfl⟩
 unfold numOf
 rw [dif_pos q]
 exact congrArg some (num_inj q.choose_spec.1 h q.choose_spec.2.symm)
theorem numOf_no {l : List Nat} (h : ∀ i : Int,i.natAbs < 10 ^ 300 → l ≠ numL i) : numOf l = none := by
 cases e : numOf l with
 | none => rfl
 | some i => exact absurd (numOf_some e).2 (h i (numOf_some e).1)
inductive Kd where
 | frm | val | fac | len | sum | dis | many | how
deriving DecidableEq
inductive Pt where
 | num (i : Int)
 | nam (z : List Nat)
def word : Pt → List Nat
 | .num i => numL i
 | .nam z => z
def valP : Pt → V
 | .num i => .int i
 | .nam z => .str (S z)
def kindS : Kd → Str
 | .frm => "from" | .val => "value" | .fac => "factor" | .len => "length" | .sum => "sum" | .dis => "distance" | .many => "many" | .how => "how"
def within : Kd → Int → Prop
 | .val,i => i.natAbs < 10 ^ 60
 | .fac,i => i.natAbs ≤ 1000000
 | .many,i => 2 ≤ i ∧ i ≤ 60
 | .len,i => 1 ≤ i ∧ i ≤ 1000000
 | _,i => 0 ≤ i ∧ i ≤ 1000000
instance (k : Kd) (i : Int) : Decidable (within k i) := by cases k <;> (unfold within; exact inferInstance)
theorem within_small {k : Kd} {i : Int} (h : within k i) : i.natAbs < 10 ^ 60 := by
 cases k
 case val => exact h
 case fac => have h : i.natAbs ≤ 1000000 := h; exact small7 (by omega)
 case many => have h : 2 ≤ i ∧ i ≤ 60 := h; exact small7 (by omega)
 case len => have h : 1 ≤ i ∧ i ≤ 1000000 := h; exact small7 (by omega)
 all_goals (have h : 0 ≤ i ∧ i ≤ 1000000 := h; exact small7 (by omega))
def sumAt : Nat → List Nat
 | 0 => [99,111,117,110,116] | 1 => [116,111,116,97,108] | 2 => [108,101,97,115,116] | 3 => [103,114,101,97,116,101,115,116] | 4 => [108,97,115,116] | _ => [117,110,108,105,107,101]
def howAt : Nat → List Nat
 | 0 => [108,101,102,116] | 1 => [114,105,103,104,116] | 2 => [115,117,109] | _ => [108,101,115,115]
def sumW : List (List Nat) := [sumAt 0,sumAt 1,sumAt 2,sumAt 3,sumAt 4,sumAt 5]
def howW : List (List Nat) := [howAt 0,howAt 1,howAt 2,howAt 3]
noncomputable def rdNum (k : Kd) (l : List Nat) : Option Pt :=
 match numOf l with
 | some i => if within k i then some (.num i) else none
 | none => none
def rdNam (ws : List (List Nat)) (l : List Nat) : Option Pt := if l ∈ ws then some (.nam l) else none
noncomputable def rdPart (kn : List (List Nat)) : Kd → List Nat → Option Pt
 | .frm,l => rdNam kn l
 | .how,l => rdNam howW l
 | .sum,l => rdNam sumW l
 | .val,l => rdNum .val l
 | .fac,l => rdNum .fac l
 | .len,l => rdNum .len l
 | .dis,l => rdNum .dis l
 | .many,l => rdNum .many l
theorem rdNum_of {k : Kd} {i : Int} (h : within k i) : rdNum k (numL i) = some (.num i) := by
 unfold rdNum
 rw [numOf_num (small60 (within_small h))]
 exact if_pos h
theorem rdNam_of {ws : List (List Nat)} {l : List Nat} (h : l ∈ ws) : rdNam ws l = some (.nam l) := if_pos h
theorem rdPart_word {kn : List (List Nat)} {k : Kd} {l : List Nat} {p : Pt} (h : rdPart kn k l = some p) : l = word p := by
 have n : ∀ {ws : List (List Nat)},rdNam ws l = some p → l = word p := by
  intro ws h
  unfold rdNam at h
  split at h
  ·cases h; rfl
  ·cases h
 have m : ∀ {k : Kd},rdNum k l = some p → l = word p := by
  intro k h
  unfold rdNum at h
  split at h
  ·rename_i i e
   split at h
   ·cases h; exact (numOf_some e).2
   ·cases h
  ·cases h
 cases k
 case frm => exact n h
 case how => exact n h
 case sum => exact n h
 all_goals exact m h
noncomputable def rdParts (kn : List (List Nat)) : List Kd → List (List Nat) → Option (List Pt)
 | [],[] => some []
 | k :: ks,l :: ls =>
  match rdPart kn k l with
  | some p => match rdParts kn ks ls with
   | some ps => some (p :: ps)
   | none => none
  | none => none
 | _,_ => none
def formW : Nat → List Nat
 | 0 => [112,105,99,107] | 1 => [116,117,114,110] | 2 => [98,111,116,104] | 3 => [98,121,116,105,109,101] | 4 => [115,105,108,101,110,99,101] | 5 => [99,111,117,110,116] | 6 => [115,111,102,97,114] | 7 => [112,97,105,114,115] | _ => [108,111,110,101]
def formK : Nat → List Kd
 | 0 => [.frm,.val,.val] | 1 => [.frm,.fac,.fac] | 2 => [.frm,.frm] | 3 => [.frm,.len,.len,.sum] | 4 => [.frm,.dis,.sum] | 5 => [.frm,.many,.sum] | 6 => [.frm,.sum] | 7 => [.frm,.frm,.dis,.how] | _ => [.frm,.frm,.dis]
theorem form_inj {n m : Nat} (hn : n < 9) (hm : m < 9) (h : formW n = formW m) : n = m := by
 have : ∀ n,n < 9 → ∀ m,m < 9 → formW n = formW m → n = m := by decide
 exact this n hn m hm h
def formOf (z : List Nat) : Option Nat := (List.range 9).find? fun n => decide (formW n = z)
theorem formOf_some {z : List Nat} {n : Nat} (h : formOf z = some n) : n < 9 ∧ formW n = z := by
 have a := List.mem_of_find?_eq_some h
 have b := List.find?_some h
 exact ⟨List.mem_range.mp a,of_decide_eq_true b⟩
theorem formOf_form {n : Nat} (h : n < 9) : formOf (formW n) = some n := by
 have : ∀ n,n < 9 → formOf (formW n) = some n := by decide
 exact this n h
theorem formOf_none {z : List Nat} (h : formOf z = none) {n : Nat} (hn : n < 9) : z ≠ formW n := fun e => by
 rw [e,formOf_form hn] at h
 cases h
theorem form_len {n : Nat} (h : n < 9) : (formK n).length ≤ 4 := by
 have : ∀ n,n < 9 → (formK n).length ≤ 4 := by decide
 exact this n h
def goes : Nat → List Pt → Bool
 | 0,[_,.num a,.num b] => decide (a ≤ b)
 | 3,[_,.num a,.num b,_] => decide (a ≤ 60 * b)
 | _,_ => true
structure Row where
 z : List Nat
 n : Nat
 ps : List Pt
def rowW (r : Row) : List (List Nat) := r.z :: formW r.n :: r.ps.map word
def rowV (r : Row) : List V := .str (S r.z) :: .str (S (formW r.n)) :: r.ps.map valP
noncomputable def rdIn (kn : List (List Nat)) (z : List Nat) (n : Nat) (ls : List (List Nat)) : Option Row :=
 if isName z ∧ z ∉ kn then
  match rdParts kn (formK n) ls with
  | some ps => if goes n ps then some ⟨z,n,ps⟩ else none
  | none => none
 else none
noncomputable def rdRest (kn : List (List Nat)) (z : List Nat) (ls : List (List Nat)) : Option Nat → Option Row
 | none => none
 | some n => rdIn kn z n ls
noncomputable def rdRow (kn : List (List Nat)) : List (List Nat) → Option Row
 | z :: f :: ls => rdRest kn z ls (formOf f)
 | _ => none
theorem rdParts_len {kn : List (List Nat)} : ∀ {ks : List Kd} {ls : List (List Nat)} {ps : List Pt},rdParts kn ks ls = some ps → ks.length = ps.length ∧ ls = ps.map word
 | [],[],ps,h => by cases h; exact ⟨rfl,rfl⟩
 | [],_ :: _,ps,h => by cases h
 | _ :: _,[],ps,h => by cases h
 | k :: ks,l :: ls,ps,h => by
  unfold rdParts at h
  split at h
  ·rename_i p ep
   split at h
   ·rename_i qs eq
    cases h
    obtain ⟨a,b⟩ := rdParts_len eq
    exact ⟨by rw [List.length_cons,List.length_cons,a],by rw [List.map_cons,← b,rdPart_word ep]⟩
   ·cases h
  ·cases h
theorem rdRow_some {kn : List (List Nat)} {ws : List (List Nat)} {r : Row} (h : rdRow kn ws = some r) : ws = rowW r ∧ r.n < 9 ∧ isName r.z ∧ r.z ∉ kn ∧ r.ps.length = (formK r.n).length := by
 match ws,h with
 | [],h => cases h
 | [_],h => cases h
 | z :: f :: ls,h =>
  have h2 : rdRest kn z ls (formOf f) = some r := h
  clear h
  cases e : formOf f with
  | none => rw [e] at h2; cases h2
  | some n =>
   rw [e] at h2
   have h2 : rdIn kn z n ls = some r := h2
   unfold rdIn at h2
   obtain ⟨hn,ef⟩ := formOf_some e
   split at h2
   ·rename_i q
    split at h2
    ·rename_i ps ep
     split at h2
     ·cases h2
      obtain ⟨a,b⟩ := rdParts_len ep
      exact ⟨by rw [b,← ef]; rfl,hn,q.1,q.2,a.symm⟩
     ·cases h2
    ·cases h2
   ·cases h2
noncomputable def cutL (c : Nat) (l : List Nat) : List (List Nat) := (split_words l c).choose
theorem cutL_ne (c : Nat) (l : List Nat) : cutL c l ≠ [] := (split_words l c).choose_spec.2.1
theorem cutL_free (c : Nat) (l : List Nat) : ∀ w ∈ cutL c l,c ∉ w := (split_words l c).choose_spec.2.2.1
theorem cutL_join (c : Nat) (l : List Nat) : joinL c (cutL c l) = l := (split_words l c).choose_spec.2.2.2
theorem cutL_eq {c : Nat} {l : List Nat} {ws : List (List Nat)} (h0 : ws ≠ []) (h1 : ∀ w ∈ ws,c ∉ w) (h2 : joinL c ws = l) : ws = cutL c l := joinL_inj h0 (cutL_ne c l) h1 (cutL_free c l) (h2.trans (cutL_join c l).symm)
def pairsOf (rs : List Row) : Nat := (rs.filter fun r => decide (r.n = 7)).length
noncomputable def rdQ : List (List Nat) → List Row → List (List Nat) → Nat ⊕ List Row
 | _,rs,[] => .inr rs
 | kn,rs,l :: ls =>
  match rdRow kn (cutL 32 l) with
  | none => .inl rs.length
  | some r => if rs.length = 8 ∨ 2 < pairsOf (rs ++ [r]) then .inl rs.length else rdQ (kn ++ [r.z]) (rs ++ [r]) ls
noncomputable def rdText (kn : List (List Nat)) (l : List Nat) : Nat ⊕ List Row := rdQ kn [] (cutL 10 l)
def TupsAt (H : Hp) : List V → List Row → Prop
 | [],[] => True
 | v :: vs,r :: rs => (∃ t,v = .ref t ∧ H t = some (.tup (rowV r))) ∧ TupsAt H vs rs
 | _,_ => False
theorem SameX.tup {H H' : Hp} (s : SameX H H') {t : Addr} {vs : List V} (h : H t = some (.tup vs)) : H' t = some (.tup vs) := s _ _ h fun _ z => by cases z
theorem SameX.lst {H H' : Hp} (s : SameX H H') {t : Addr} {vs : List V} (h : H t = some (.lst vs)) : H' t = some (.lst vs) := s _ _ h fun _ z => by cases z
def TupX (H H' : Hp) : Prop := ∀ t vs,H t = some (.tup vs) → H' t = some (.tup vs)
theorem TupX.trans {H H1 H2 : Hp} (a : TupX H H1) (b : TupX H1 H2) : TupX H H2 := fun t vs h => b t vs (a t vs h)
theorem SameX.tx {H H' : Hp} (s : SameX H H') : TupX H H' := fun t vs h => s.tup h
theorem TupX.upd {H : Hp} {a : Addr} {o : HO} (h : ∀ vs,H a ≠ some (.tup vs)) : TupX H (upd H a o) := fun t vs e => by
 rw [upd_ne (fun z => h vs (by rw [← z]; exact e))]
 exact e
theorem TupsAt.mono {H H' : Hp} (s : TupX H H') : ∀ {vs : List V} {rs : List Row},TupsAt H vs rs → TupsAt H' vs rs
 | [],[],_ => trivial
 | v :: vs,r :: rs,⟨⟨t,e,h⟩,k⟩ => ⟨⟨t,e,s _ _ h⟩,k.mono s⟩
 | [],_ :: _,h => h.elim
 | _ :: _,[],h => h.elim
theorem TupsAt.length {H : Hp} : ∀ {vs : List V} {rs : List Row},TupsAt H vs rs → vs.length = rs.length
 | [],[],_ => rfl
 | _ :: _,_ :: _,h => by rw [List.length_cons,List.length_cons,h.2.length]
 | [],_ :: _,h => h.elim
 | _ :: _,[],h => h.elim
theorem TupsAt.snoc {H : Hp} {t : Addr} {r : Row} (ht : H t = some (.tup (rowV r))) : ∀ {vs : List V} {rs : List Row},TupsAt H vs rs → TupsAt H (vs ++ [.ref t]) (rs ++ [r])
 | [],[],_ => ⟨⟨t,rfl,ht⟩,trivial⟩
 | _ :: _,_ :: _,h => ⟨h.1,h.2.snoc ht⟩
 | [],_ :: _,h => h.elim
 | _ :: _,[],h => h.elim
theorem TupsAt.get {H : Hp} : ∀ {vs : List V} {rs : List Row},TupsAt H vs rs → ∀ {i : Nat} {v : V},vs[i]? = some v → ∃ t r,v = .ref t ∧ rs[i]? = some r ∧ H t = some (.tup (rowV r))
 | [],[],_,i,v,h => by simp at h
 | v :: vs,r :: rs,⟨⟨t,e,k⟩,_⟩,0,v',h => by cases h; exact ⟨t,r,e,rfl,k⟩
 | v :: vs,r :: rs,⟨_,k⟩,i + 1,v',h => k.get (i := i) h
 | [],_ :: _,h,_,_,_ => h.elim
 | _ :: _,[],h,_,_,_ => h.elim
def namV (kn : List (List Nat)) : List V := kn.map fun z => V.str (S z)
theorem namV_flat (kn : List (List Nat)) : (namV kn).all flatV = true := by
 unfold namV
 rw [List.all_map]
 exact List.all_eq_true.mpr fun _ _ => rfl
theorem inV_str (z : List Nat) : ∀ kn : List (List Nat),inV (.str (S z)) (namV kn) = decide (z ∈ kn)
 | [] => rfl
 | w :: ws => by
  show (eqV (.str (S w)) (.str (S z)) || inV (.str (S z)) (namV ws)) = _
  rw [inV_str z ws]
  have e : eqV (.str (S w)) (.str (S z)) = decide (z = w) := by
   show (S w == S z) = _
   rw [Bool.eq_iff_iff]
   simp only [beq_iff_eq,decide_eq_true_eq]
   exact ⟨fun h => (S_inj h).symm,fun h => by rw [h]⟩
  rw [e,Bool.eq_iff_iff]
  simp
end K85
end
section
set_option maxHeartbeats 4000000
namespace K85
open PySem L2 PyProof.Rows
abbrev s_Count_word : Stmt := inClass (top 21) 0
theorem sc_Count_word : FnScope ["self"] ["self"] (defScope s_Count_word) := ⟨rfl,rfl,rfl,by decide +kernel,rfl,by decide +kernel,by decide +kernel⟩
abbrev s_Total_word : Stmt := inClass (top 22) 0
theorem sc_Total_word : FnScope ["self"] ["self"] (defScope s_Total_word) := ⟨rfl,rfl,rfl,by decide +kernel,rfl,by decide +kernel,by decide +kernel⟩
abbrev s_Least_word : Stmt := inClass (top 27) 0
theorem sc_Least_word : FnScope ["self"] ["self"] (defScope s_Least_word) := ⟨rfl,rfl,rfl,by decide +kernel,rfl,by decide +kernel,by decide +kernel⟩
abbrev s_Greatest_word : Stmt := inClass (top 28) 0
theorem sc_Greatest_word : FnScope ["self"] ["self"] (defScope s_Greatest_word) := ⟨rfl,rfl,rfl,by decide +kernel,rfl,by decide +kernel,by decide +kernel⟩
abbrev s_Last_word : Stmt := inClass (top 23) 0
theorem sc_Last_word : FnScope ["self"] ["self"] (defScope s_Last_word) := ⟨rfl,rfl,rfl,by decide +kernel,rfl,by decide +kernel,by decide +kernel⟩
abbrev s_Unlike_word : Stmt := inClass (top 29) 0
theorem sc_Unlike_word : FnScope ["self"] ["self"] (defScope s_Unlike_word) := ⟨rfl,rfl,rfl,by decide +kernel,rfl,by decide +kernel,by decide +kernel⟩
abbrev s_sum_of : Stmt := top 31
theorem sc_sum_of : FnScope ["word","total"] ["word"] (defScope s_sum_of) := ⟨rfl,rfl,rfl,by decide +kernel,rfl,by decide +kernel,by decide +kernel⟩
abbrev s_is_sum : Stmt := top 42
theorem sc_is_sum : FnScope ["word"] ["word"] (defScope s_is_sum) := ⟨rfl,rfl,rfl,by decide +kernel,rfl,by decide +kernel,by decide +kernel⟩
abbrev s_NoName___init__ : Stmt := inClass (top 4) 0
theorem sc_NoName___init__ : FnScope ["self","name"] ["self","name"] (defScope s_NoName___init__) := ⟨rfl,rfl,rfl,by decide +kernel,rfl,by decide +kernel,by decide +kernel⟩
structure RX (K : PySem.W.Frag) (mg : Str → Option Value) (c : Nat → Addr) : Prop where
 m0 : MkN K mg "Count" (c 0)
 m1 : MkN K mg "Total" (c 1)
 m2 : MkN K mg "Least" (c 2)
 m3 : MkN K mg "Greatest" (c 3)
 m4 : MkN K mg "Last" (c 4)
 m5 : MkN K mg "Unlike" (c 5)
 cl : ∀ i,i < 6 → Cls K (c i)
structure RM (K : PySem.W.Frag) (mg : Str → Option Value) (NN : Addr) : Prop where
 mM : mg "NoName" = some (.ref NN)
 ok : XCls K NN
 kp : PySem.W.keepIn K (.ref NN) = true
 na : NoAttr K NN "name"
 ex : PySem.W.exmOne K (.ref NN) (.ref NN) = some true
 ini : ∃ f fd,excXIn K NN (some (.ref f)) = true ∧ PySem.W.isFn K (.ref f) = true ∧ Fun K "__init__" "NoName.__init__" s_NoName___init__ f fd ∧ Binds K fd ["self","name"] []
def spWord (i : Nat) : Sp := fun vs H Q _ => ∃ a : Addr,vs = [.ref a] ∧ Q (.str (S (sumAt i))) H
def spSumOf (NN : Addr) : Sp := fun vs H Q E => ∃ z : List Nat,vs = [.str (S z)] ∧ (z ∈ sumW → ∀ x H',Same H H' → Q (.ref x) H') ∧
 (z ∉ sumW → ∀ d H',H' d = some (.xd [("name",.str (S z))]) → Same H H' → E (.ref NN) (some d) H')
def spIsSum : Sp := fun vs H Q _ => ∃ z : List Nat,vs = [.str (S z)] ∧ ∀ H',SameX H H' → Q (.bl (decide (z ∈ sumW))) H'
theorem made {H : Hp} {x dx C : Addr} (hx : H x = none) (hd : H dx = none) : Same H (upd (upd H dx (.own x)) x (.ins C dx [])) ∧ (upd (upd H dx (.own x)) x (.ins C dx [])) x = some (.ins C dx []) :=
 ⟨fun b o e => by rw [upd_ne (ne_of_none e hx),upd_ne (ne_of_none e hd)]; exact e,upd_same⟩
theorem six {c : Nat → Addr} {H H1 H2 H3 H4 H5 H6 HQ : Hp} {x0 x1 x2 x3 x4 x5 d0 d1 d2 d3 d4 d5 : Addr} (m0 : Same H H1 ∧ H1 x0 = some (.ins (c 0) d0 [])) (m1 : Same H1 H2 ∧ H2 x1 = some (.ins (c 1) d1 [])) (m2 : Same H2 H3 ∧ H3 x2 = some (.ins (c 2) d2 [])) (m3 : Same H3 H4 ∧ H4 x3 = some (.ins (c 3) d3 [])) (m4 : Same H4 H5 ∧ H5 x4 = some (.ins (c 4) d4 [])) (m5 : Same H5 H6 ∧ H6 x5 = some (.ins (c 5) d5 []))
  (e5 : Same H6 HQ) (m : Nat) (y : V) (hy : [V.ref x0,.ref x1,.ref x2,.ref x3,.ref x4,.ref x5][m]? = some y) : ∃ x dx,y = .ref x ∧ m < 6 ∧ HQ x = some (.ins (c m) dx []) := by
 have e4 := m5.1.trans e5
 have e3 := m4.1.trans e4
 have e2 := m3.1.trans e3
 have e1 := m2.1.trans e2
 have e0 := m1.1.trans e1
 match m,hy with
 | 0,hy => exact ⟨x0,d0,(Option.some.inj hy).symm,by decide,e0 _ _ m0.2⟩
 | 1,hy => exact ⟨x1,d1,(Option.some.inj hy).symm,by decide,e1 _ _ m1.2⟩
 | 2,hy => exact ⟨x2,d2,(Option.some.inj hy).symm,by decide,e2 _ _ m2.2⟩
 | 3,hy => exact ⟨x3,d3,(Option.some.inj hy).symm,by decide,e3 _ _ m3.2⟩
 | 4,hy => exact ⟨x4,d4,(Option.some.inj hy).symm,by decide,e4 _ _ m4.2⟩
 | 5,hy => exact ⟨x5,d5,(Option.some.inj hy).symm,by decide,e5 _ _ m5.2⟩
 | m + 6,hy => cases hy
theorem sum_at {m : Nat} (h : m < 6) : sumAt m ∈ sumW := by
 have : ∀ m,m < 6 → sumAt m ∈ sumW := by decide
 exact this m h
theorem sum_in {z : List Nat} (h : z ∈ sumW) : ∃ m,m < 6 ∧ z = sumAt m := by
 rcases List.mem_cons.mp h with h | h
 ·exact ⟨0,by decide,h⟩
 rcases List.mem_cons.mp h with h | h
 ·exact ⟨1,by decide,h⟩
 rcases List.mem_cons.mp h with h | h
 ·exact ⟨2,by decide,h⟩
 rcases List.mem_cons.mp h with h | h
 ·exact ⟨3,by decide,h⟩
 rcases List.mem_cons.mp h with h | h
 ·exact ⟨4,by decide,h⟩
 rcases List.mem_cons.mp h with h | h
 ·exact ⟨5,by decide,h⟩
 cases h
section
variable {P : Program} {w : World} {K : PySem.W.Frag} {mg : Str → Option Value} {base : Heap} {C : Addr} {f : Addr} {fd : FuncData} {c : Nat → Addr} {NN : Addr}
theorem ok_w0 (L : MLk K C "word" "Count.word" s_Count_word ["self"] f fd) : MCallee P w K mg base C "word" ["self"] 1 (spWord 0) := by
 refine L.callee (L.F.ok sc_Count_word (fun vs H Q E h => ?_) (fun cdv A outer s H vs Q E hr h => ?_))
 ·obtain ⟨l,rfl,_⟩ := h
  rfl
 ·obtain ⟨l,rfl,k⟩ := h
  have hqq : QB ((cxOf CX0 P w K mg base ["self"] "Count.word" (defScope s_Count_word) f cdv A outer s H E).nox) (defBody s_Count_word) _ := (qb_one (qs_ret qe_str))
  (with_reducible refine ⟨_,hqq.p,?_⟩)
  exact k
theorem ok_w1 (L : MLk K C "word" "Total.word" s_Total_word ["self"] f fd) : MCallee P w K mg base C "word" ["self"] 1 (spWord 1) := by
 refine L.callee (L.F.ok sc_Total_word (fun vs H Q E h => ?_) (fun cdv A outer s H vs Q E hr h => ?_))
 ·obtain ⟨l,rfl,_⟩ := h
  rfl
 ·obtain ⟨l,rfl,k⟩ := h
  have hqq : QB ((cxOf CX0 P w K mg base ["self"] "Total.word" (defScope s_Total_word) f cdv A outer s H E).nox) (defBody s_Total_word) _ := (qb_one (qs_ret qe_str))
  (with_reducible refine ⟨_,hqq.p,?_⟩)
  exact k
theorem ok_w2 (L : MLk K C "word" "Least.word" s_Least_word ["self"] f fd) : MCallee P w K mg base C "word" ["self"] 1 (spWord 2) := by
 refine L.callee (L.F.ok sc_Least_word (fun vs H Q E h => ?_) (fun cdv A outer s H vs Q E hr h => ?_))
 ·obtain ⟨l,rfl,_⟩ := h
  rfl
 ·obtain ⟨l,rfl,k⟩ := h
  have hqq : QB ((cxOf CX0 P w K mg base ["self"] "Least.word" (defScope s_Least_word) f cdv A outer s H E).nox) (defBody s_Least_word) _ := (qb_one (qs_ret qe_str))
  (with_reducible refine ⟨_,hqq.p,?_⟩)
  exact k
theorem ok_w3 (L : MLk K C "word" "Greatest.word" s_Greatest_word ["self"] f fd) : MCallee P w K mg base C "word" ["self"] 1 (spWord 3) := by
 refine L.callee (L.F.ok sc_Greatest_word (fun vs H Q E h => ?_) (fun cdv A outer s H vs Q E hr h => ?_))
 ·obtain ⟨l,rfl,_⟩ := h
  rfl
 ·obtain ⟨l,rfl,k⟩ := h
  have hqq : QB ((cxOf CX0 P w K mg base ["self"] "Greatest.word" (defScope s_Greatest_word) f cdv A outer s H E).nox) (defBody s_Greatest_word) _ := (qb_one (qs_ret qe_str))
  (with_reducible refine ⟨_,hqq.p,?_⟩)
  exact k
theorem ok_w4 (L : MLk K C "word" "Last.word" s_Last_word ["self"] f fd) : MCallee P w K mg base C "word" ["self"] 1 (spWord 4) := by
 refine L.callee (L.F.ok sc_Last_word (fun vs H Q E h => ?_) (fun cdv A outer s H vs Q E hr h => ?_))
 ·obtain ⟨l,rfl,_⟩ := h
  rfl
 ·obtain ⟨l,rfl,k⟩ := h
  have hqq : QB ((cxOf CX0 P w K mg base ["self"] "Last.word" (defScope s_Last_word) f cdv A outer s H E).nox) (defBody s_Last_word) _ := (qb_one (qs_ret qe_str))
  (with_reducible refine ⟨_,hqq.p,?_⟩)
  exact k
theorem ok_w5 (L : MLk K C "word" "Unlike.word" s_Unlike_word ["self"] f fd) : MCallee P w K mg base C "word" ["self"] 1 (spWord 5) := by
 refine L.callee (L.F.ok sc_Unlike_word (fun vs H Q E h => ?_) (fun cdv A outer s H vs Q E hr h => ?_))
 ·obtain ⟨l,rfl,_⟩ := h
  rfl
 ·obtain ⟨l,rfl,k⟩ := h
  have hqq : QB ((cxOf CX0 P w K mg base ["self"] "Unlike.word" (defScope s_Unlike_word) f cdv A outer s H E).nox) (defBody s_Unlike_word) _ := (qb_one (qs_ret qe_str))
  (with_reducible refine ⟨_,hqq.p,?_⟩)
  exact k
theorem ok_iniN (F : Fun K "__init__" "NoName.__init__" s_NoName___init__ f fd) : FnOk P w K mg base CX0 1 f fd ["self","name"] (L2.spInit K "name") := by
 refine F.ok sc_NoName___init__ (fun vs H Q E h => ?_) (fun cdv A outer s H vs Q E hr h => ?_)
 ·obtain ⟨x,C,v,tb,rfl,_⟩ := h
  rfl
 ·obtain ⟨x,C,v,tb,rfl,hx,xc,na,k⟩ := h
  have hqq : QB ((cxOf CX0 P w K mg base ["self","name"] "NoName.__init__" (defScope s_NoName___init__) f cdv A outer s H E).nox) (defBody s_NoName___init__) _ := (qb_one (qs_fldX (qv 0) (qv 1)))
  (with_reducible refine ⟨_,hqq.p,?_⟩)
  exact ⟨v,rfl,_,rfl,x,C,tb,rfl,hx,xc,na,k⟩
theorem ok_sum_of (L : Lk K mg "sum_of" s_sum_of ["word"] f fd) (T : Txt mg) (R : RX K mg c) (M : RM K mg NN) (FW : Fam P w K mg base c 6 "word" ["self"] 1 spWord) : CalleeX P w K mg base "sum_of" ["word"] 3 (spSumOf NN) := by
 obtain ⟨f5,fd5,q5,h5,fn5,b5⟩ := M.ini
 have F5 := ok_iniN (P := P) (w := w) (mg := mg) (base := base) fn5
 refine ⟨f,fd,L.F.okX sc_sum_of (fun vs H Q E h => ?_) (fun cdv A outer s H vs Q E hr h => ?_),L.m,L.F.kp,L.b⟩
 ·obtain ⟨z,rfl,_⟩ := h
  rfl
 ·obtain ⟨z,rfl,kQ,kE⟩ := h
  have hqq : QB ((cxOf (CXD P w) P w K mg base ["word","total"] "sum_of" (defScope s_sum_of) f cdv A outer s H E)) (defBody s_sum_of) _ := (qb_cn (qs_for PassesOwn.leaving rfl (qi_list (qe_lst (qa_cn (qe_makeN R.m0 (by rfl)) (qa_cn (qe_makeN R.m1 (by rfl)) (qa_cn (qe_makeN R.m2 (by rfl)) (qa_cn (qe_makeN R.m3 (by rfl)) (qa_cn (qe_makeN R.m4 (by rfl)) (qa_cn (qe_makeN R.m5 (by rfl)) qa_nil)))))))) (qg_name (i := 1) sc_sum_of.nd rfl (Or.inl rfl)) (qb_one (qs_if (qt_cmpR op_eq (qe_fam0 (qv 1) FW (hr.mono (by first | decide | omega))) (qv 0) (nomark _)) (qb_one (qs_ret (qv 1))) qb_nil)))
   (qb_one (qs_raise raises_cx rfl (qe_excI q5 h5 F5 (hr.mono (by decide)) b5 M.kp M.mM (qa_cn (qv 0) qa_nil)))))
  (with_reducible refine ⟨_,hqq.p,?_⟩)
  intro x0 d0 hx0 hd0 _ x1 d1 hx1 hd1 _ x2 d2 hx2 hd2 _ x3 d3 hx3 hd3 _ x4 d4 hx4 hd4 _ x5 d5 hx5 hd5 _
  have m0 := made (C := c 0) hx0 hd0
  have m1 := made (C := c 1) hx1 hd1
  have m2 := made (C := c 2) hx2 hd2
  have m3 := made (C := c 3) hx3 hd3
  have m4 := made (C := c 4) hx4 hd4
  have m5 := made (C := c 5) hx5 hd5
  refine ⟨by show 6 ≤ sizeLine; decide,fun q hq => ⟨q,rfl,⟨_,SqL.of upd_same⟩,?_⟩⟩
  have e5 := Same.new (.lst [.ref x0,.ref x1,.ref x2,.ref x3,.ref x4,.ref x5]) hq
  have eH := m0.1.trans (m1.1.trans (m2.1.trans (m3.1.trans (m4.1.trans (m5.1.trans e5)))))
  have all := six m0 m1 m2 m3 m4 m5 e5
  refine for_list (K := K) (a := q) (xs := [.ref x0,.ref x1,.ref x2,.ref x3,.ref x4,.ref x5]) (fun m σ H' => ∃ o,σ = [some (.str (S z)),o] ∧ Same _ H' ∧ ∀ j,j < m → z ≠ sumAt j) ⟨none,rfl,(fun _ _ e => e),fun j hj => absurd hj (Nat.not_lt_zero _)⟩ (fun m σ H' _ ⟨_,_,s',_⟩ => SqL.of (s' _ _ upd_same)) ?_ ?_
  ·rintro m y σ H' hy ⟨o,rfl,s',hz⟩
   obtain ⟨x,dx,rfl,m6,hX⟩ := all m y hy
   refine ⟨_,rfl,m,x,dx,[],m6,rfl,s' _ _ hX,rfl,x,rfl,_,rfl,rfl,_,rfl,?_⟩
   show (if (decide (V.str (S (sumAt m)) = V.str (S z))) = true then _ else _)
   by_cases e : z = sumAt m
   ·subst e
    rw [decide_eq_true rfl]
    exact iteT ⟨_,rfl,kQ (sum_at m6) x H' (eH.trans s')⟩
   ·rw [decide_eq_false (fun q => e (S_inj (V.str.inj q)).symm)]
    refine iteF ⟨_,rfl,s',fun j hj => ?_⟩
    by_cases ej : j = m
    ·rw [ej]; exact e
    ·exact hz j (by omega)
  ·rintro σ H' ⟨o,rfl,s',hz⟩
   have no : z ∉ sumW := fun h => by
    obtain ⟨m,hm,e⟩ := sum_in h
    exact hz m hm e
   have q := raiseI (K := K) (E := E) (D := { nx := fun _ H' => Q .non H',rt := Q }) (σ := [some (.str (S z)),o]) (H := H') (C := NN) (fld := "name") (t := tCons (tVar 0) tNil) (v := .str (S z)) M.ok M.na (fun Q h => ⟨_,rfl,h⟩) (fun d H2 hd sm => kE no d H2 hd ((eH.trans s').trans sm))
   exact q
theorem ok_is_sum (L : Lk K mg "is_sum" s_is_sum ["word"] f fd) (T : Txt mg) (M : RM K mg NN) (C_sum_of : CalleeX P w K mg base "sum_of" ["word"] 3 (spSumOf NN)) : Callee P w K mg base "is_sum" ["word"] 4 spIsSum := by
 refine L.callee (L.F.ok sc_is_sum (fun vs H Q E h => ?_) (fun cdv A outer s H vs Q E hr h => ?_))
 ·obtain ⟨z,rfl,_⟩ := h
  rfl
 ·obtain ⟨z,rfl,k⟩ := h
  have hqq : QB ((cxOf CX0 P w K mg base ["word"] "is_sum" (defScope s_is_sum) f cdv A outer s H E).nox) (defBody s_is_sum) _ := (qb_cn (qs_try rfl rfl (qx_expr (qxe_callee C_sum_of (hr.mono (by first | decide | omega)) (by rfl) (qa_cn (qv 0) qa_nil))) (qh_no (M.mM) (fun _ => (qb_one (qs_ret qe_bl))) qh_nil))
   (qb_one (qs_ret qe_bl)))
  (with_reducible refine ⟨_,hqq.p,?_⟩)
  refine ⟨_,rfl,z,rfl,fun hz x H1 s1 => ?_,fun hz d H1 hd1 s1 => ⟨NN,rfl,fun x T' fl T2 H2 fn => ⟨true,M.ex,?_⟩⟩⟩
  ·rw [decide_eq_true hz] at k
   exact k H1 (SameX.of s1)
  ·rw [if_pos rfl]
   rw [decide_eq_false hz] at k
   exact k H2 ((SameX.of s1).trans (SameX.flown fl.ex fn))
end
end K85
end
section
set_option maxHeartbeats 4000000
namespace K85
open PySem L2 PyProof.Rows
abbrev s_is_within : Stmt := top 43
theorem sc_is_within : FnScope ["kind","number"] ["kind","number"] (defScope s_is_within) := ⟨rfl,rfl,rfl,by decide +kernel,rfl,by decide +kernel,by decide +kernel⟩
abbrev s_goes_together : Stmt := top 44
theorem sc_goes_together : FnScope ["word","parts"] ["word","parts"] (defScope s_goes_together) := ⟨rfl,rfl,rfl,by decide +kernel,rfl,by decide +kernel,by decide +kernel⟩
abbrev s_pairs_in : Stmt := top 39
theorem sc_pairs_in : FnScope ["rows"] ["rows"] (defScope s_pairs_in) := ⟨rfl,rfl,rfl,by decide +kernel,rfl,by decide +kernel,by decide +kernel⟩
abbrev s_read_part : Stmt := top 41
theorem sc_read_part : FnScope ["kind","word","known","number"] ["kind","word","known"] (defScope s_read_part) := ⟨rfl,rfl,rfl,by decide +kernel,rfl,by decide +kernel,by decide +kernel⟩
def optV : Option Pt → V
 | none => .non
 | some p => valP p
structure FM (K : PySem.W.Frag) (w : World) (mg : Str → Option Value) (da ha : Addr) (fa : Nat → Addr) : Prop where
 mF : mg "FORMS" = some (.ref da)
 kd : KD K w da [("pick",fa 0),("turn",fa 1),("both",fa 2),("bytime",fa 3),("silence",fa 4),("count",fa 5),("sofar",fa 6),("pairs",fa 7),("lone",fa 8)]
 tu : ∀ n,n < 9 → ∀ H,SqT K H (fa n) ((formK n).map fun k => V.str (kindS k))
 mH : mg "HOWS" = some (.ref ha)
 hw : ∀ H,SqT K H ha (namV howW)
def isNumK : Kd → Bool
 | .frm => false | .how => false | .sum => false | _ => true
def spWithin : Sp := fun vs H Q _ => ∃ (k : Kd) (i : Int),isNumK k = true ∧ vs = [.str (kindS k),.int i] ∧ Q (.bl (decide (within k i))) H
def spGoes : Sp := fun vs H Q _ => ∃ (kn ls : List (List Nat)) (n : Nat) (ps : List Pt) (a : Addr),n < 9 ∧ rdParts kn (formK n) ls = some ps ∧ vs = [.str (S (formW n)),.ref a] ∧ H a = some (.lst (ps.map valP)) ∧ Q (.bl (goes n ps)) H
def spPairs : Sp := fun vs H Q _ => ∃ (a : Addr) (us : List V) (rs : List Row),vs = [.ref a] ∧ H a = some (.lst us) ∧ TupsAt H us rs ∧ rs.length ≤ 1000 ∧ (∀ r ∈ rs,r.n < 9) ∧ ∀ H',Same H H' → Q (.int (pairsOf rs)) H'
def spPart : Sp := fun vs H Q _ => ∃ (kn : List (List Nat)) (k : Kd) (l : List Nat) (a : Addr),vs = [.str (kindS k),.str (S l),.ref a] ∧ H a = some (.lst (namV kn)) ∧ l.length ≤ 1000000 ∧ ∀ H',SameX H H' → Q (optV (rdPart kn k l)) H'
theorem parts_cons {kn : List (List Nat)} {k : Kd} {ks : List Kd} {ls : List (List Nat)} {ps : List Pt} (h : rdParts kn (k :: ks) ls = some ps) : ∃ l ls' p ps',ls = l :: ls' ∧ ps = p :: ps' ∧ rdPart kn k l = some p ∧ rdParts kn ks ls' = some ps' := by
 cases ls with
 | nil => cases h
 | cons l ls =>
  unfold rdParts at h
  split at h
  ·rename_i p ep
   split at h
   ·rename_i qs eq
    exact ⟨l,ls,p,qs,rfl,(Option.some.inj h).symm,ep,eq⟩
   ·cases h
  ·cases h
theorem parts_nil {kn : List (List Nat)} {ls : List (List Nat)} {ps : List Pt} (h : rdParts kn [] ls = some ps) : ps = [] := by
 cases ls with
 | nil => cases h; rfl
 | cons l ls => cases h
theorem rdNum_some {k : Kd} {l : List Nat} {i : Int} (h : numOf l = some i) : rdNum k l = if within k i then some (.num i) else none := by
 unfold rdNum
 rw [h]
theorem rdNum_none {k : Kd} {l : List Nat} (h : numOf l = none) : rdNum k l = none := by
 unfold rdNum
 rw [h]
theorem num_part {kn : List (List Nat)} {k : Kd} {l : List Nat} {p : Pt} (hk : isNumK k = true) (h : rdPart kn k l = some p) : ∃ i,p = .num i := by
 have m : ∀ {k : Kd},rdNum k l = some p → ∃ i,p = .num i := by
  intro k h
  unfold rdNum at h
  split at h
  ·split at h
   ·cases h; exact ⟨_,rfl⟩
   ·cases h
  ·cases h
 cases k
 case frm => cases hk
 case how => cases hk
 case sum => cases hk
 all_goals exact m h
section
variable {P : Program} {w : World} {K : PySem.W.Frag} {mg : Str → Option Value} {base : Heap} {C : Addr} {f : Addr} {fd : FuncData} {NT W da ha : Addr} {fa : Nat → Addr}
theorem ok_within (L : Lk K mg "is_within" s_is_within ["kind","number"] f fd) (T : Txt mg) : Callee P w K mg base "is_within" ["kind","number"] 1 spWithin := by
 refine L.callee (L.F.ok sc_is_within (fun vs H Q E h => ?_) (fun cdv A outer s H vs Q E hr h => ?_))
 ·obtain ⟨k,i,_,rfl,_⟩ := h
  rfl
 ·obtain ⟨k,i,hk,rfl,kQ⟩ := h
  have hqq : QB ((cxOf CX0 P w K mg base ["kind","number"] "is_within" (defScope s_is_within) f cdv A outer s H E).nox) (defBody s_is_within) _ := (qb_cn (qs_if (qt_cmpR op_eq (qv 0) qe_str (nomark _)) (qb_one (qs_ret (qe_cmpR op_lt (qe_callB call_abs (by rfl) T.abs boot_abs (qa_cn (qv 1) qa_nil)) (qe_op op_pow qe_int qe_int) (nomark _)))) qb_nil)
   (qb_cn (qs_if (qt_cmpR op_eq (qv 0) qe_str (nomark _)) (qb_one (qs_ret (qe_cmpR op_le (qe_callB call_abs (by rfl) T.abs boot_abs (qa_cn (qv 1) qa_nil)) (qe_op op_pow qe_int qe_int) (nomark _)))) qb_nil)
   (qb_cn (qs_if (qt_cmpR op_eq (qv 0) qe_str (nomark _)) (qb_one (qs_ret (qe_chain op_le op_le qe_int (qv 1) qe_int))) qb_nil)
   (qb_one (qs_ret (qe_chain op_le op_le (qe_ifExp (qt_cmpR op_eq (qv 0) qe_str (nomark _)) qe_int qe_int) (qv 1) (qe_op op_pow qe_int qe_int)))))))
  (with_reducible refine ⟨_,hqq.p,?_⟩)
  have ten60 : ((10 : Int) ^ (60 : Int).toNat) = 1000000000000000000000000000000000000000000000000000000000000 := by decide +kernel
  have ten60n : (10 : Nat) ^ 60 = 1000000000000000000000000000000000000000000000000000000000000 := by decide +kernel
  have ten6 : ((10 : Int) ^ (6 : Int).toNat) = 1000000 := by decide +kernel
  cases k with
  | frm => cases hk
  | how => cases hk
  | sum => cases hk
  | val =>
   refine ⟨_,rfl,rfl,_,rfl,iteT ⟨_,rfl,_,rfl,_,_,rfl,rfl,⟨by decide,by decide,by decide⟩,_,_,rfl,rfl,?_⟩⟩
   have e : decide ((if i < 0 then -i else i) < (10 : Int) ^ (60 : Int).toNat) = decide (within .val i) := by
    rw [ten60,Bool.eq_iff_iff,decide_eq_true_iff,decide_eq_true_iff]
    show _ ↔ i.natAbs < 10 ^ 60
    rw [ten60n]
    omega
   rw [← e] at kQ
   exact kQ
  | fac =>
   refine ⟨_,rfl,rfl,_,rfl,iteF ⟨_,rfl,rfl,_,rfl,iteT ⟨_,rfl,_,rfl,_,_,rfl,rfl,⟨by decide,by decide,by decide⟩,_,_,rfl,rfl,?_⟩⟩⟩
   have e : decide ((if i < 0 then -i else i) ≤ (10 : Int) ^ (6 : Int).toNat) = decide (within .fac i) := by
    rw [ten6,Bool.eq_iff_iff,decide_eq_true_iff,decide_eq_true_iff]
    show _ ↔ i.natAbs ≤ 1000000
    omega
   rw [← e] at kQ
   exact kQ
  | many =>
   refine ⟨_,rfl,rfl,_,rfl,iteF ⟨_,rfl,rfl,_,rfl,iteF ⟨_,rfl,rfl,_,rfl,iteT ⟨_,rfl,_,_,rfl,rfl,_,rfl,?_⟩⟩⟩⟩
   by_cases e1 : 2 ≤ i
   ·rw [decide_eq_true e1]
    refine iteT ⟨_,_,rfl,rfl,?_⟩
    have e : decide (i ≤ 60) = decide (within .many i) := by
     rw [Bool.eq_iff_iff,decide_eq_true_iff,decide_eq_true_iff]
     show _ ↔ 2 ≤ i ∧ i ≤ 60
     omega
    rw [← e] at kQ
    exact kQ
   ·rw [decide_eq_false e1]
    refine iteF ?_
    rw [decide_eq_false (show ¬ within .many i from fun q => e1 q.1)] at kQ
    exact kQ
  | len =>
   refine ⟨_,rfl,rfl,_,rfl,iteF ⟨_,rfl,rfl,_,rfl,iteF ⟨_,rfl,rfl,_,rfl,iteF ⟨_,rfl,rfl,_,rfl,iteT ⟨_,rfl,_,_,rfl,rfl,_,rfl,?_⟩⟩⟩⟩⟩
   by_cases e1 : 1 ≤ i
   ·rw [decide_eq_true e1]
    refine iteT ⟨_,_,rfl,rfl,⟨by decide,by decide,by decide⟩,_,_,rfl,rfl,?_⟩
    have e : decide (i ≤ (10 : Int) ^ (6 : Int).toNat) = decide (within .len i) := by
     rw [ten6,Bool.eq_iff_iff,decide_eq_true_iff,decide_eq_true_iff]
     show _ ↔ 1 ≤ i ∧ i ≤ 1000000
     omega
    rw [← e] at kQ
    exact kQ
   ·rw [decide_eq_false e1]
    refine iteF ?_
    rw [decide_eq_false (show ¬ within .len i from fun q => e1 q.1)] at kQ
    exact kQ
  | dis =>
   refine ⟨_,rfl,rfl,_,rfl,iteF ⟨_,rfl,rfl,_,rfl,iteF ⟨_,rfl,rfl,_,rfl,iteF ⟨_,rfl,rfl,_,rfl,iteF ⟨_,rfl,_,_,rfl,rfl,_,rfl,?_⟩⟩⟩⟩⟩
   by_cases e1 : 0 ≤ i
   ·rw [decide_eq_true e1]
    refine iteT ⟨_,_,rfl,rfl,⟨by decide,by decide,by decide⟩,_,_,rfl,rfl,?_⟩
    have e : decide (i ≤ (10 : Int) ^ (6 : Int).toNat) = decide (within .dis i) := by
     rw [ten6,Bool.eq_iff_iff,decide_eq_true_iff,decide_eq_true_iff]
     show _ ↔ 0 ≤ i ∧ i ≤ 1000000
     omega
    rw [← e] at kQ
    exact kQ
   ·rw [decide_eq_false e1]
    refine iteF ?_
    rw [decide_eq_false (show ¬ within .dis i from fun q => e1 q.1)] at kQ
    exact kQ
theorem ok_goes {tH : Tok} (L : Lk K mg "goes_together" s_goes_together ["word","parts"] f fd) (T : Txt mg) (hHOP : mg "MOST_HOPS" = some (.int 60 tH)) : Callee P w K mg base "goes_together" ["word","parts"] 1 spGoes := by
 refine L.callee (L.F.ok sc_goes_together (fun vs H Q E h => ?_) (fun cdv A outer s H vs Q E hr h => ?_))
 ·obtain ⟨kn,ls,n,ps,a,_,_,rfl,_⟩ := h
  rfl
 ·obtain ⟨kn,ls,n,ps,a,hn,hp,rfl,ha,kQ⟩ := h
  have hqq : QB ((cxOf CX0 P w K mg base ["word","parts"] "goes_together" (defScope s_goes_together) f cdv A outer s H E).nox) (defBody s_goes_together) _ := (qb_cn (qs_if (qt_cmpR op_eq (qv 0) qe_str (nomark _)) (qb_one (qs_ret (qe_cmpR op_le (qe_ix ix_list (qv 1) qe_int (fun _ _ => rfl)) (qe_ix ix_list (qv 1) qe_int (fun _ _ => rfl)) (nomark _)))) qb_nil)
   (qb_cn (qs_if (qt_cmpR op_eq (qv 0) qe_str (nomark _)) (qb_one (qs_ret (qe_cmpR op_le (qe_ix ix_list (qv 1) qe_int (fun _ _ => rfl)) (qe_op op_mul (qe_glob (v := .int 60) (by rfl) hHOP ⟨_,rfl⟩) (qe_ix ix_list (qv 1) qe_int (fun _ _ => rfl))) (nomark _)))) qb_nil)
   (qb_one (qs_ret qe_bl))))
  (with_reducible refine ⟨_,hqq.p,?_⟩)
  have hs : SqL K H a (ps.map valP) := SqL.of ha
  have oth : n ≠ 0 → n ≠ 3 → goes n ps = true := fun h0 h3 => by
   unfold goes
   split
   ·exact absurd rfl h0
   ·exact absurd rfl h3
   ·rfl
  by_cases e0 : n = 0
  ·subst e0
   obtain ⟨_,_,p0,ps0,rfl,rfl,_,q1⟩ := parts_cons hp
   obtain ⟨_,_,p1,ps1,rfl,rfl,h1,q2⟩ := parts_cons q1
   obtain ⟨_,_,p2,ps2,rfl,rfl,h2,q3⟩ := parts_cons q2
   obtain rfl := parts_nil q3
   obtain ⟨x,rfl⟩ := num_part rfl h1
   obtain ⟨y,rfl⟩ := num_part rfl h2
   exact ⟨_,rfl,rfl,_,rfl,iteT ⟨_,rfl,a,_,_,_,rfl,rfl,hs,atI_nat (j := 1) rfl,_,rfl,a,_,_,_,rfl,rfl,hs,atI_nat (j := 2) rfl,_,_,rfl,rfl,kQ⟩⟩
  by_cases e3 : n = 3
  ·subst e3
   obtain ⟨_,_,p0,ps0,rfl,rfl,_,q1⟩ := parts_cons hp
   obtain ⟨_,_,p1,ps1,rfl,rfl,h1,q2⟩ := parts_cons q1
   obtain ⟨_,_,p2,ps2,rfl,rfl,h2,q3⟩ := parts_cons q2
   obtain ⟨_,_,p3,ps3,rfl,rfl,_,q4⟩ := parts_cons q3
   obtain rfl := parts_nil q4
   obtain ⟨x,rfl⟩ := num_part rfl h1
   obtain ⟨y,rfl⟩ := num_part rfl h2
   refine ⟨_,rfl,rfl,_,rfl,iteF ⟨_,rfl,rfl,_,rfl,iteT ⟨_,rfl,a,_,_,_,rfl,rfl,hs,atI_nat (j := 1) rfl,_,rfl,a,_,_,_,rfl,rfl,hs,atI_nat (j := 2) rfl,_,_,rfl,rfl,?_,_,_,rfl,rfl,kQ⟩⟩⟩
   exact .inl ⟨by decide,by decide⟩
  rw [oth e0 e3] at kQ
  have ne : ∀ m,m < 9 → n ≠ m → decide (V.str (S (formW n)) = V.str (S (formW m))) = false := fun m hm e => decide_eq_false fun q => e (form_inj hn hm (S_inj (V.str.inj q)))
  refine ⟨_,rfl,rfl,_,rfl,?_⟩
  refine (show if decide (V.str (S (formW n)) = V.str (S (formW 0))) = true then _ else _ from ?_)
  rw [ne 0 (by decide) e0]
  refine iteF ⟨_,rfl,rfl,_,rfl,?_⟩
  refine (show if decide (V.str (S (formW n)) = V.str (S (formW 3))) = true then _ else _ from ?_)
  rw [ne 3 (by decide) e3]
  exact iteF kQ
theorem ok_pairs (L : Lk K mg "pairs_in" s_pairs_in ["rows"] f fd) (T : Txt mg) : Callee P w K mg base "pairs_in" ["rows"] 1 spPairs := by
 refine L.callee (L.F.ok sc_pairs_in (fun vs H Q E h => ?_) (fun cdv A outer s H vs Q E hr h => ?_))
 ·obtain ⟨a,us,rs,rfl,_⟩ := h
  rfl
 ·obtain ⟨a,us,rs,rfl,ha,tu,hl,h9,k⟩ := h
  have hqq : QB ((cxOf CX0 P w K mg base ["rows"] "pairs_in" (defScope s_pairs_in) f cdv A outer s H E).nox) (defBody s_pairs_in) _ := (qb_one (qs_ret (qe_callB call_len_seq (by rfl) T.len PySem.boot_len (qa_cn (qe_comp ["row"] [] [] ["rows"] (defScope s_pairs_in).names rfl (qi_list (qv 0)) (fun _ _ _ _ _ => (qg_name (i := 0) (show (["row"] : List Str).Nodup by decide +kernel) rfl (Or.inl rfl))) (fun _ _ _ _ _ => (qts_one (qt_cmpR op_eq (qe_ix (ix_tupK K rfl) (qv 0) qe_int (fun _ _ => rfl)) qe_str (nomark _)))) (fun _ _ _ _ _ => (qv 0))) qa_nil))))
  (with_reducible refine ⟨_,hqq.p,?_⟩)
  have el := tu.length
  refine ⟨_,rfl,a,rfl,⟨_,SqL.of ha⟩,fun D hD => ?_⟩
  refine comp_list (K := K) (a := a) (xs := us) (fun i ys H' => ys.length = pairsOf (rs.take i) ∧ Same H H') ⟨rfl,Same.new _ hD⟩ (fun i ys H' _ ⟨_,s'⟩ => SqL.of (s' _ _ ha)) ?_ ?_
  ·rintro ys H' ⟨y1,s'⟩ hD'
   refine ⟨D,ys,rfl,.inl (SqL.of hD'),?_⟩
   rw [el,List.take_length] at y1
   rw [y1]
   exact k H' s'
  ·rintro i x ys H' hx ⟨y1,s'⟩ hD'
   obtain ⟨t,r,rfl,hr',ht⟩ := tu.get hx
   have hi : i < us.length := (List.getElem?_eq_some_iff.mp hx).1
   have ht' := s' _ _ ht
   have eq : rs.take (i + 1) = rs.take i ++ [r] := by rw [List.take_add_one,hr']; rfl
   have ly : ys.length ≤ i := by
    rw [y1]
    exact Nat.le_trans (List.length_filter_le _ _) (List.length_take_le _ _)
   refine ⟨rfl,_,rfl,t,_,_,_,rfl,rfl,SqT.of ht',atI_nat (j := 1) rfl,rfl,_,rfl,?_⟩
   have e7 : decide (V.str (S (formW r.n)) = V.str (S (formW 7))) = decide (r.n = 7) := by
    rw [Bool.eq_iff_iff,decide_eq_true_iff,decide_eq_true_iff]
    exact ⟨fun q => form_inj (h9 r (List.mem_of_getElem? hr')) (by decide) (S_inj (V.str.inj q)),fun q => by rw [q]⟩
   refine (show if decide (V.str (S (formW r.n)) = V.str (S (formW 7))) = true then _ else _ from ?_)
   rw [e7]
   by_cases q : r.n = 7
   ·rw [decide_eq_true q]
    refine iteT ⟨_,rfl,hD',Nat.lt_of_le_of_lt (show ys.length ≤ 1000 by omega) (by decide),nx hi ⟨?_,?_⟩⟩
    ·rw [eq,List.length_append,y1]
     unfold pairsOf
     rw [List.filter_append,List.length_append]
     simp [q]
    ·intro b o e
     rw [upd_ne (ne_of_none e hD)]
     exact s' b o e
   ·rw [decide_eq_false q]
    refine iteF ⟨hD',nx hi ⟨?_,s'⟩⟩
    rw [eq,y1]
    unfold pairsOf
    rw [List.filter_append,List.length_append]
    simp [q]
theorem ok_part (L : Lk K mg "read_part" s_read_part ["kind","word","known"] f fd) (T : Txt mg) (G : FM K w mg da ha fa) (C_is_sum : Callee P w K mg base "is_sum" ["word"] 4 spIsSum) (C_number_in : Callee P w K mg base "number_in" ["word"] 66 spNum) (C_is_within : Callee P w K mg base "is_within" ["kind","number"] 1 spWithin) : Callee P w K mg base "read_part" ["kind","word","known"] 67 spPart := by
 refine L.callee (L.F.ok sc_read_part (fun vs H Q E h => ?_) (fun cdv A outer s H vs Q E hr h => ?_))
 ·obtain ⟨kn,k,l,a,rfl,_⟩ := h
  rfl
 ·obtain ⟨kn,k,l,a,rfl,hA,hl,kQ⟩ := h
  have hqq : QB ((cxOf CX0 P w K mg base ["kind","word","known","number"] "read_part" (defScope s_read_part) f cdv A outer s H E).nox) (defBody s_read_part) _ := (qb_cn (qs_if (qt_cmpR op_eq (qv 0) qe_str (nomark _)) (qb_one (qs_ret (qe_ifExp (qt_cmpR op_in_seq (qv 1) (qv 2) rfl) (qv 1) qe_non))) qb_nil)
   (qb_cn (qs_if (qt_cmpR op_eq (qv 0) qe_str (nomark _)) (qb_one (qs_ret (qe_ifExp (qt_cmpR op_in_seq (qv 1) (qe_glob (v := .ref ha) (by rfl) G.mH rfl) rfl) (qv 1) qe_non))) qb_nil)
   (qb_cn (qs_if (qt_cmpR op_eq (qv 0) qe_str (nomark _)) (qb_one (qs_ret (qe_ifExp (qt_val (qe_callee C_is_sum (hr.mono (by first | decide | omega)) (by rfl) (qa_cn (qv 1) qa_nil))) (qv 1) qe_non))) qb_nil)
   (qb_cn (qs_set (i := 3) sc_read_part.nd rfl (Or.inl rfl) (qe_callee C_number_in (hr.mono (by first | decide | omega)) (by rfl) (qa_cn (qv 1) qa_nil)))
   (qb_one (qs_ret (qe_ifExp (qw_pt (qw_and (qt_cmpR op_notN (qv 3) qe_non (nomark _)) (qw_and1 (qt_val (qe_callee C_is_within (hr.mono (by first | decide | omega)) (by rfl) (qa_cn (qv 0) (qa_cn (qv 3) qa_nil))))))) (qv 3) qe_non)))))))
  (with_reducible refine ⟨_,hqq.p,?_⟩)
  have nam : ∀ (ws : List (List Nat)),rdPart kn k l = rdNam ws l → (l ∈ ws → ∀ H',SameX H H' → Q (.str (S l)) H') ∧ (l ∉ ws → ∀ H',SameX H H' → Q .non H') := fun ws e => by
   rw [e] at kQ
   unfold rdNam at kQ
   refine ⟨fun m => ?_,fun m => ?_⟩
   ·rw [if_pos m] at kQ
    exact kQ
   ·rw [if_neg m] at kQ
    exact kQ
  have num : rdPart kn k l = rdNum k l → (∀ i : Int,i.natAbs < 10 ^ 300 → l = numL i → (within k i → ∀ H',SameX H H' → Q (.int i) H') ∧ (¬ within k i → ∀ H',SameX H H' → Q .non H')) ∧ ((∀ i : Int,i.natAbs < 10 ^ 300 → l ≠ numL i) → ∀ H',SameX H H' → Q .non H') := fun e => by
   rw [e] at kQ
   refine ⟨fun i hi el => ?_,fun no => ?_⟩
   ·rw [rdNum_some (show numOf l = some i by rw [el,numOf_num hi])] at kQ
    refine ⟨fun m => ?_,fun m => ?_⟩
    ·rw [if_pos m] at kQ
     exact kQ
    ·rw [if_neg m] at kQ
     exact kQ
   ·rw [rdNum_none (numOf_no no)] at kQ
    exact kQ
  cases k with
  | frm =>
   have nam := nam kn rfl
   refine ⟨_,rfl,rfl,_,rfl,iteT ⟨_,rfl,_,rfl,a,_,rfl,.inl (SqL.of hA),rfl,namV_flat kn,_,rfl,?_⟩⟩
   show if inV (.str (S l)) (namV kn) = true then _ else _
   rw [inV_str]
   by_cases m : l ∈ kn
   ·rw [decide_eq_true m]
    exact iteT ⟨_,rfl,nam.1 m H fun _ _ e _ => e⟩
   ·rw [decide_eq_false m]
    exact iteF (nam.2 m H fun _ _ e _ => e)
  | how =>
   have nam := nam howW rfl
   refine ⟨_,rfl,rfl,_,rfl,iteF ⟨_,rfl,rfl,_,rfl,iteT ⟨_,rfl,ha,_,rfl,.inr (G.hw H),rfl,namV_flat howW,_,rfl,?_⟩⟩⟩
   show if inV (.str (S l)) (namV howW) = true then _ else _
   rw [inV_str]
   by_cases m : l ∈ howW
   ·rw [decide_eq_true m]
    exact iteT ⟨_,rfl,nam.1 m H fun _ _ e _ => e⟩
   ·rw [decide_eq_false m]
    exact iteF (nam.2 m H fun _ _ e _ => e)
  | sum =>
   have nam := nam sumW rfl
   refine ⟨_,rfl,rfl,_,rfl,iteF ⟨_,rfl,rfl,_,rfl,iteF ⟨_,rfl,rfl,_,rfl,iteT ⟨_,rfl,l,rfl,fun H1 s1 => ⟨_,rfl,?_⟩⟩⟩⟩⟩
   by_cases m : l ∈ sumW
   ·rw [decide_eq_true m]
    exact iteT ⟨_,rfl,nam.1 m H1 s1⟩
   ·rw [decide_eq_false m]
    exact iteF (nam.2 m H1 s1)
  | val =>
   have num := num rfl
   refine ⟨_,rfl,rfl,_,rfl,iteF ⟨_,rfl,rfl,_,rfl,iteF ⟨_,rfl,rfl,_,rfl,iteF ⟨_,rfl,l,rfl,hl,fun i hi el H1 s1 => ?_,fun no H1 s1 => ?_⟩⟩⟩⟩
   ·have num := num.1 i hi el
    refine ⟨_,rfl,rfl,_,rfl,iteT ⟨_,rfl,_,rfl,.val,i,rfl,rfl,_,rfl,?_⟩⟩
    by_cases m : within .val i
    ·rw [decide_eq_true m]
     exact iteT ⟨_,rfl,num.1 m H1 s1⟩
    ·rw [decide_eq_false m]
     exact iteF (num.2 m H1 s1)
   ·exact ⟨_,rfl,rfl,_,rfl,iteF (num.2 no H1 s1)⟩
  | fac =>
   have num := num rfl
   refine ⟨_,rfl,rfl,_,rfl,iteF ⟨_,rfl,rfl,_,rfl,iteF ⟨_,rfl,rfl,_,rfl,iteF ⟨_,rfl,l,rfl,hl,fun i hi el H1 s1 => ?_,fun no H1 s1 => ?_⟩⟩⟩⟩
   ·have num := num.1 i hi el
    refine ⟨_,rfl,rfl,_,rfl,iteT ⟨_,rfl,_,rfl,.fac,i,rfl,rfl,_,rfl,?_⟩⟩
    by_cases m : within .fac i
    ·rw [decide_eq_true m]
     exact iteT ⟨_,rfl,num.1 m H1 s1⟩
    ·rw [decide_eq_false m]
     exact iteF (num.2 m H1 s1)
   ·exact ⟨_,rfl,rfl,_,rfl,iteF (num.2 no H1 s1)⟩
  | len =>
   have num := num rfl
   refine ⟨_,rfl,rfl,_,rfl,iteF ⟨_,rfl,rfl,_,rfl,iteF ⟨_,rfl,rfl,_,rfl,iteF ⟨_,rfl,l,rfl,hl,fun i hi el H1 s1 => ?_,fun no H1 s1 => ?_⟩⟩⟩⟩
   ·have num := num.1 i hi el
    refine ⟨_,rfl,rfl,_,rfl,iteT ⟨_,rfl,_,rfl,.len,i,rfl,rfl,_,rfl,?_⟩⟩
    by_cases m : within .len i
    ·rw [decide_eq_true m]
     exact iteT ⟨_,rfl,num.1 m H1 s1⟩
    ·rw [decide_eq_false m]
     exact iteF (num.2 m H1 s1)
   ·exact ⟨_,rfl,rfl,_,rfl,iteF (num.2 no H1 s1)⟩
  | dis =>
   have num := num rfl
   refine ⟨_,rfl,rfl,_,rfl,iteF ⟨_,rfl,rfl,_,rfl,iteF ⟨_,rfl,rfl,_,rfl,iteF ⟨_,rfl,l,rfl,hl,fun i hi el H1 s1 => ?_,fun no H1 s1 => ?_⟩⟩⟩⟩
   ·have num := num.1 i hi el
    refine ⟨_,rfl,rfl,_,rfl,iteT ⟨_,rfl,_,rfl,.dis,i,rfl,rfl,_,rfl,?_⟩⟩
    by_cases m : within .dis i
    ·rw [decide_eq_true m]
     exact iteT ⟨_,rfl,num.1 m H1 s1⟩
    ·rw [decide_eq_false m]
     exact iteF (num.2 m H1 s1)
   ·exact ⟨_,rfl,rfl,_,rfl,iteF (num.2 no H1 s1)⟩
  | many =>
   have num := num rfl
   refine ⟨_,rfl,rfl,_,rfl,iteF ⟨_,rfl,rfl,_,rfl,iteF ⟨_,rfl,rfl,_,rfl,iteF ⟨_,rfl,l,rfl,hl,fun i hi el H1 s1 => ?_,fun no H1 s1 => ?_⟩⟩⟩⟩
   ·have num := num.1 i hi el
    refine ⟨_,rfl,rfl,_,rfl,iteT ⟨_,rfl,_,rfl,.many,i,rfl,rfl,_,rfl,?_⟩⟩
    by_cases m : within .many i
    ·rw [decide_eq_true m]
     exact iteT ⟨_,rfl,num.1 m H1 s1⟩
    ·rw [decide_eq_false m]
     exact iteF (num.2 m H1 s1)
   ·exact ⟨_,rfl,rfl,_,rfl,iteF (num.2 no H1 s1)⟩
end
end K85
end
section
set_option maxHeartbeats 4000000
namespace K85
open PySem L2 PyProof.Rows
abbrev s_read_row : Stmt := top 40
theorem sc_read_row : FnScope ["words","known","form","parts"] ["words","known"] (defScope s_read_row) := ⟨rfl,rfl,rfl,by decide +kernel,rfl,by decide +kernel,by decide +kernel⟩
abbrev formD (fa : Nat → Addr) : List (Str × Addr) := [("pick",fa 0),("turn",fa 1),("both",fa 2),("bytime",fa 3),("silence",fa 4),("count",fa 5),("sofar",fa 6),("pairs",fa 7),("lone",fa 8)]
theorem form_get {fa : Nat → Addr} (z : List Nat) : (∃ n,n < 9 ∧ z = formW n ∧ formOf z = some n ∧ getR (formD fa) (S z) = some (fa n)) ∨ (formOf z = none ∧ getR (formD fa) (S z) = none) := by
 cases e : formOf z with
 | some n =>
  obtain ⟨hn,rfl⟩ := formOf_some e
  refine .inl ⟨n,hn,rfl,rfl,?_⟩
  have : n = 0 ∨ n = 1 ∨ n = 2 ∨ n = 3 ∨ n = 4 ∨ n = 5 ∨ n = 6 ∨ n = 7 ∨ n = 8 := by omega
  rcases this with rfl | rfl | rfl | rfl | rfl | rfl | rfl | rfl | rfl <;> rfl
 | none =>
  refine .inr ⟨rfl,?_⟩
  have ne : ∀ n,n < 9 → ∀ x : Str,x = S (formW n) → decide (x = S z) = false := fun n hn x ex => decide_eq_false fun q => formOf_none e hn (S_inj (ex.symm.trans q)).symm
  unfold getR
  rw [List.find?_cons,ne 0 (by decide) "pick" rfl,List.find?_cons,ne 1 (by decide) "turn" rfl,List.find?_cons,ne 2 (by decide) "both" rfl,List.find?_cons,ne 3 (by decide) "bytime" rfl,List.find?_cons,ne 4 (by decide) "silence" rfl,List.find?_cons,ne 5 (by decide) "count" rfl,List.find?_cons,ne 6 (by decide) "sofar" rfl,List.find?_cons,ne 7 (by decide) "pairs" rfl,List.find?_cons,ne 8 (by decide) "lone" rfl]
  rfl
noncomputable def told (kn : List (List Nat)) (ks : List Kd) (ls : List (List Nat)) : List V := List.zipWith (fun k l => optV (rdPart kn k l)) ks ls
theorem optV_flat (p : Option Pt) : flatV (optV p) = true := by
 cases p with
 | none => rfl
 | some p => cases p <;> rfl
theorem told_flat (kn : List (List Nat)) : ∀ (ks : List Kd) (ls : List (List Nat)),(told kn ks ls).all flatV = true
 | [],_ => by unfold told; rw [List.zipWith_nil_left]; rfl
 | _ :: _,[] => by unfold told; rw [List.zipWith_nil_right]; rfl
 | k :: ks,l :: ls => by
  show (flatV (optV (rdPart kn k l)) && (told kn ks ls).all flatV) = true
  rw [optV_flat,told_flat kn ks ls]
  rfl
theorem told_len {kn : List (List Nat)} {ks : List Kd} {ls : List (List Nat)} (h : ls.length = ks.length) : (told kn ks ls).length = ks.length := by
 unfold told
 rw [List.length_zipWith]
 omega
theorem told_none {kn : List (List Nat)} : ∀ {ks : List Kd} {ls : List (List Nat)},inV .non (told kn ks ls) = true → rdParts kn ks ls = none
 | [],_,h => by unfold told at h; rw [List.zipWith_nil_left] at h; cases h
 | _ :: _,[],h => by unfold told at h; rw [List.zipWith_nil_right] at h; cases h
 | k :: ks,l :: ls,h => by
  have h : (eqV (optV (rdPart kn k l)) .non || inV .non (told kn ks ls)) = true := h
  rw [Bool.or_eq_true] at h
  unfold rdParts
  rcases h with h | h
  ·cases e : rdPart kn k l with
   | none => rfl
   | some p =>
    rw [e] at h
    cases p <;> cases h
  ·rw [told_none h]
   cases rdPart kn k l <;> rfl
theorem told_some {kn : List (List Nat)} : ∀ {ks : List Kd} {ls : List (List Nat)},ls.length = ks.length → inV .non (told kn ks ls) = false → ∃ ps,rdParts kn ks ls = some ps ∧ told kn ks ls = ps.map valP
 | [],[],_,_ => ⟨[],rfl,rfl⟩
 | [],_ :: _,h,_ => by cases h
 | _ :: _,[],h,_ => by cases h
 | k :: ks,l :: ls,h0,h => by
  have h : (eqV (optV (rdPart kn k l)) .non || inV .non (told kn ks ls)) = false := h
  rw [Bool.or_eq_false_iff] at h
  obtain ⟨ps,e1,e2⟩ := told_some (by simpa using h0) h.2
  cases e : rdPart kn k l with
  | none => rw [e] at h; cases h.1
  | some p =>
   refine ⟨p :: ps,?_,?_⟩
   ·unfold rdParts
    rw [e,e1]
   ·show optV (rdPart kn k l) :: told kn ks ls = _
    rw [e,e2]
    rfl
theorem rdParts_no {kn : List (List Nat)} {ks : List Kd} {ls : List (List Nat)} (h : ls.length ≠ ks.length) : rdParts kn ks ls = none := by
 cases e : rdParts kn ks ls with
 | none => rfl
 | some ps =>
  obtain ⟨a,b⟩ := rdParts_len e
  rw [b,List.length_map] at h
  exact absurd a.symm h
def spRow : Sp := fun vs H Q _ => ∃ (kn ws : List (List Nat)) (a b : Addr),vs = [.ref a,.ref b] ∧ H a = some (.lst ((ws.map S).map V.str)) ∧ H b = some (.lst (namV kn)) ∧ ws ≠ [] ∧ (∀ u ∈ ws,u.length ≤ 1000000) ∧
 (∀ r,rdRow kn ws = some r → ∀ D H',H' D = some (.tup (rowV r)) → SameX H H' → Q (.ref D) H') ∧ (rdRow kn ws = none → ∀ H',SameX H H' → Q .non H')
section
variable {P : Program} {w : World} {K : PySem.W.Frag} {mg : Str → Option Value} {base : Heap} {f : Addr} {fd : FuncData} {C da ha : Addr} {fa : Nat → Addr}
theorem ok_row (L : Lk K mg "read_row" s_read_row ["words","known"] f fd) (T : Txt mg) (G : FM K w mg da ha fa) (C_is_name : Callee P w K mg base "is_name" ["thing"] 1 spName) (C_read_part : Callee P w K mg base "read_part" ["kind","word","known"] 67 spPart) (C_goes_together : Callee P w K mg base "goes_together" ["word","parts"] 1 spGoes) : Callee P w K mg base "read_row" ["words","known"] 68 spRow := by
 refine L.callee (L.F.ok sc_read_row (fun vs H Q E h => ?_) (fun cdv A outer s H vs Q E hr h => ?_))
 ·obtain ⟨kn,ws,a,b,rfl,_⟩ := h
  rfl
 ·obtain ⟨kn,ws,a,b,rfl,hA,hB,w0,w1,kQ,kN⟩ := h
  have hqq : QB ((cxOf CX0 P w K mg base ["words","known","form","parts"] "read_row" (defScope s_read_row) f cdv A outer s H E).nox) (defBody s_read_row) _ := (qb_cn (qs_set (i := 2) sc_read_row.nd rfl (Or.inl rfl) (qe_ifExp (qt_cmpR op_gt (qe_callB call_len_seq (by rfl) T.len PySem.boot_len (qa_cn (qv 0) qa_nil)) qe_int (nomark _)) (qe_kget (qe_glob (v := .ref da) (by rfl) G.mF rfl) (qe_ix ix_list (qv 0) qe_int (fun _ _ => rfl))) qe_non))
   (qb_cn (qs_if (qw_pt (qw_or (qt_cmpR op_isN (qv 2) qe_non (nomark _)) (qw_or (qt_cmpR op_ne (qe_callB call_len_seq (by rfl) T.len PySem.boot_len (qa_cn (qv 0) qa_nil)) (qe_op op_add (qe_callB call_len_seq (by rfl) T.len PySem.boot_len (qa_cn (qv 2) qa_nil)) qe_int) (nomark _)) (qw_or (qt_not (qt_val (qe_callee C_is_name (hr.mono (by first | decide | omega)) (by rfl) (qa_cn (qe_ix ix_list (qv 0) qe_int (fun _ _ => rfl)) qa_nil)))) (qw_or1 (qt_cmpR op_in_seq (qe_ix ix_list (qv 0) qe_int (fun _ _ => rfl)) (qv 1) rfl)))))) (qb_one (qs_ret qe_non)) qb_nil)
   (qb_cn (qs_comp (i := 3) ["kind","word"] ["known"] [1] ["words","known","form","parts"] (defScope s_read_row).names rfl sc_read_row.nd rfl (Or.inl rfl) (qi_zipT rfl T.zip (qa_cn (qv 2) (qa_cn (qe_slice sl_list (qv 0) (qo_some qe_int) qo_none) qa_nil))) (fun _ _ _ _ _ => (qg_tupK K 2 rfl rfl (qgs_cons (qg_name (i := 0) (show (["kind","word","known"] : List Str).Nodup by decide +kernel) rfl (Or.inl rfl) (Or.inr rfl)) (qgs_cons (qg_name (i := 1) (show (["kind","word","known"] : List Str).Nodup by decide +kernel) rfl (Or.inl rfl) (Or.inr rfl)) qgs_nil)) rfl rfl)) (fun _ _ _ _ _ => qts_nil) (fun _ _ _ _ _ => (qe_callee C_read_part (hr.mono (by first | decide | omega)) (by rfl) (qa_cn (qv 0) (qa_cn (qv 1) (qa_cn (qv 2) qa_nil))))))
   (qb_cn (qs_if (qw_pt (qw_or (qt_cmpR op_in_seq qe_non (qv 3) rfl) (qw_or1 (qt_not (qt_val (qe_callee C_goes_together (hr.mono (by first | decide | omega)) (by rfl) (qa_cn (qe_ix ix_list (qv 0) qe_int (fun _ _ => rfl)) (qa_cn (qv 3) qa_nil)))))))) (qb_one (qs_ret qe_non)) qb_nil)
   (qb_one (qs_ret (qe_op op_catT (qe_tup (qa_cn (qe_ix ix_list (qv 0) qe_int (fun _ _ => rfl)) (qa_cn (qe_ix ix_list (qv 0) qe_int (fun _ _ => rfl)) qa_nil))) (qe_callTy call_tuple_of (by rfl) T.tuple boot_tuple (qa_cn (qv 3) qa_nil)))))))))
  (with_reducible refine ⟨_,hqq.p,?_⟩)
  have sH : SameX H H := fun _ _ e _ => e
  match ws,w0,w1,hA,kQ,kN with
  | [],w0,_,_,_,_ => exact absurd rfl w0
  | [x],w0,w1,hA,kQ,kN =>
   refine ⟨_,rfl,a,_,rfl,.inl (SqL.of hA),_,_,rfl,rfl,_,rfl,iteF ⟨_,rfl,rfl,_,rfl,iteT (iteT (kN rfl H sH))⟩⟩
  | x :: y :: xs,w0,w1,hA,kQ,kN =>
   have at0 : atI (((x :: y :: xs).map S).map V.str) 0 = some (.str (S x)) := atI_nat (j := 0) rfl
   have at1 : atI (((x :: y :: xs).map S).map V.str) 1 = some (.str (S y)) := atI_nat (j := 1) rfl
   have l2 : decide ((((x :: y :: xs).map S).map V.str).length > (1 : Int)) = true := decide_eq_true (by
    rw [List.length_map,List.length_map,List.length_cons,List.length_cons]
    omega)
   refine ⟨_,rfl,a,_,rfl,.inl (SqL.of hA),_,_,rfl,rfl,_,rfl,?_⟩
   refine (show if decide ((((x :: y :: xs).map S).map V.str).length > (1 : Int)) = true then _ else _ from ?_)
   rw [l2]
   refine iteT ⟨da,_,rfl,G.kd,_,rfl,a,_,_,_,rfl,rfl,SqL.of hA,at1,S y,rfl,fun b' hb => ?_,fun hb => ?_⟩
   ·rcases form_get (fa := fa) y with ⟨n,hn,ex,eo,eg⟩ | ⟨_,eg⟩
    ·obtain rfl : b' = fa n := by rw [eg] at hb; exact (Option.some.inj hb).symm
     have tu := G.tu n hn
     have len4 := form_len hn
     have eR : rdRow kn (x :: y :: xs) = rdIn kn x n xs := by
      show rdRest kn x xs (formOf y) = _
      rw [eo]
      rfl
     rw [eR] at kN
     simp only [eR] at kQ
     refine ⟨_,rfl,rfl,_,rfl,iteF ⟨_,rfl,a,_,rfl,.inl (SqL.of hA),_,rfl,fa n,_,rfl,.inr (tu H),_,_,rfl,rfl,rfl,_,rfl,?_⟩⟩
     have eD : ∀ m : Nat,(V.int ((((x :: y :: xs).map S).map V.str).length : Int) = V.int ((((formK n).map fun k => V.str (kindS k)).length : Int) + 2)) ↔ xs.length = (formK n).length := fun _ => by
      rw [List.length_map,List.length_map,List.length_map,List.length_cons,List.length_cons]
      refine ⟨fun z => ?_,fun z => by rw [z]; congr 1⟩
      have z := V.int.inj z
      omega
     by_cases el : xs.length = (formK n).length
     ·have e1 : decide (V.int ((((x :: y :: xs).map S).map V.str).length : Int) = V.int ((((formK n).map fun k => V.str (kindS k)).length : Int) + 2)) = true := decide_eq_true ((eD 0).mpr el)
      refine (show if (!decide (V.int ((((x :: y :: xs).map S).map V.str).length : Int) = V.int ((((formK n).map fun k => V.str (kindS k)).length : Int) + 2))) = true then _ else _ from ?_)
      rw [e1]
      refine iteF ⟨_,rfl,a,_,_,_,rfl,rfl,SqL.of hA,at0,x,rfl,w1 x List.mem_cons_self,fun H1 s1 => ⟨_,rfl,?_⟩⟩
      have hA1 := s1 _ _ hA
      have hB1 := s1 _ _ hB
      by_cases nm : isName x
      ·rw [decide_eq_true nm]
       refine iteF ⟨_,rfl,a,_,_,_,rfl,rfl,SqL.of hA1,at0,_,rfl,b,_,rfl,.inl (SqL.of hB1),rfl,namV_flat kn,_,rfl,?_⟩
       show if inV (.str (S x)) (namV kn) = true then _ else _
       rw [inV_str]
       by_cases mk : x ∈ kn
       ·rw [decide_eq_true mk]
        refine iteT (kN ?_ H1 (SameX.of s1))
        unfold rdIn
        exact if_neg fun q => q.2 mk
       ·rw [decide_eq_false mk]
        have eI : rdIn kn x n xs = match rdParts kn (formK n) xs with | some ps => if goes n ps then some ⟨x,n,ps⟩ else none | none => none := if_pos ⟨nm,mk⟩
        rw [eI] at kN
        simp only [eI] at kQ
        refine iteF ⟨_,rfl,_,rfl,_,rfl,a,_,rfl,SqL.of hA1,fun q hq => ?_⟩
        have ec : cutV (((x :: y :: xs).map S).map V.str) (some 2) none = (xs.map S).map V.str := cut_from _ 2 (by rw [List.length_map,List.length_map,List.length_cons,List.length_cons]; omega)
        have hql : (upd H1 q (.lst (cutV (((x :: y :: xs).map S).map V.str) (some 2) none))) q = some (.lst ((xs.map S).map V.str)) := by rw [upd_same,ec]
        have n2 := Same.new (.lst (cutV (((x :: y :: xs).map S).map V.str) (some 2) none)) hq
        have hA2 := n2 _ _ hA1
        have hB2 := n2 _ _ hB1
        have s2 : Same H (upd H1 q (.lst (cutV (((x :: y :: xs).map S).map V.str) (some 2) none))) := s1.trans n2
        clear n2
        generalize upd H1 q (.lst (cutV (((x :: y :: xs).map S).map V.str) (some 2) none)) = H2 at hql hA2 hB2 s2 ⊢
        refine ⟨fa n,q,rfl,⟨_,tu _⟩,⟨_,SqL.of hql⟩,fun D2 hD2 => ?_⟩
        have lt : (told kn (formK n) xs).length = (formK n).length := told_len el
        refine comp_zipT (K := K) (a := fa n) (b := q) (xs := (formK n).map fun k => V.str (kindS k)) (zs := (xs.map S).map V.str) (fun i ys H' => ys = (told kn (formK n) xs).take i ∧ SameX H2 H') ⟨rfl,SameX.of (Same.new _ hD2)⟩ (by rw [List.length_map,List.length_map,List.length_map,el]) (fun i ys H' _ ⟨_,s'⟩ => ⟨tu _,SqL.of (s'.lst hql)⟩) ?_ ?_
        ·rintro ys H3 ⟨y1,s3⟩ hD3
         rw [List.length_map,← lt,List.take_length] at y1
         subst y1
         have s3' : SameX H H3 := (SameX.of s2).trans s3
         have hA3 := s3.lst hA2
         refine ⟨_,rfl,D2,_,rfl,.inl (SqL.of hD3),rfl,told_flat _ _ _,_,rfl,?_⟩
         show if inV .non (told kn (formK n) xs) = true then _ else _
         cases ei : inV .non (told kn (formK n) xs) with
         | true =>
          refine iteT (iteT (kN ?_ H3 s3'))
          rw [told_none ei]
         | false =>
          obtain ⟨ps,e5,e6⟩ := told_some el ei
          rw [e6] at hD3
          rw [e5] at kN
          simp only [e5] at kQ
          refine iteF ⟨_,rfl,a,_,_,_,rfl,rfl,SqL.of hA3,at1,_,rfl,kn,xs,n,ps,D2,hn,e5,by rw [ex]; rfl,hD3,_,rfl,?_⟩
          cases eg2 : goes n ps with
          | false =>
           refine iteT (kN ?_ H3 s3')
           exact if_neg (by rw [eg2]; decide)
          | true =>
           refine iteF ⟨_,rfl,a,_,_,_,rfl,rfl,SqL.of hA3,at0,_,rfl,a,_,_,_,rfl,rfl,SqL.of hA3,at1,by show 2 ≤ sizeLine; decide,fun t1 ht1 => ?_⟩
           have hD4 : (upd H3 t1 (.tup [.str (S x),.str (S y)])) D2 = some (.lst (ps.map valP)) := by rw [upd_ne (ne_of_none hD3 ht1)]; exact hD3
           refine ⟨_,rfl,D2,_,rfl,.inl ⟨SqL.of hD4,fun t2 ht2 => ?_⟩⟩
           have ht15 : (upd (upd H3 t1 (.tup [.str (S x),.str (S y)])) t2 (.tup (ps.map valP))) t1 = some (.tup [.str (S x),.str (S y)]) := by rw [upd_ne (ne_of_none upd_same ht2),upd_same]
           have s5 : SameX H (upd (upd H3 t1 (.tup [.str (S x),.str (S y)])) t2 (.tup (ps.map valP))) := s3'.trans (SameX.of ((Same.new _ ht1).trans (Same.new _ ht2)))
           have done : (match some ps with | some ps => if goes n ps then some (⟨x,n,ps⟩ : Row) else none | none => none) = some ⟨x,n,ps⟩ := if_pos eg2
           have kF := kQ ⟨x,n,ps⟩ done
           have eps : ps.length ≤ 4 := by
            have := (rdParts_len e5).1
            omega
           refine ⟨t1,t2,_,_,rfl,rfl,SqT.of ht15,SqT.of upd_same,List.cons_ne_nil _ _,?_,fun e => ?_,fun ne p hp => ?_⟩
           ·rw [List.length_map]
            exact Nat.le_trans (show _ ≤ 6 by show 2 + _ ≤ 6; omega) (by decide)
           ·refine kF t1 _ ?_ s5
            rw [ht15,ex]
            have e : ps.map valP = [] := e
            show _ = some (HO.tup (_ :: _ :: ps.map valP))
            rw [e]
           ·refine kF p _ ?_ (s5.trans (SameX.of (Same.new _ hp)))
            rw [upd_same,ex]
            rfl
        ·rintro i kx z T' ys H3 hk hz ⟨y1,s3⟩ hD3 hT
         have hi : i < ((formK n).map fun k => V.str (kindS k)).length := (List.getElem?_eq_some_iff.mp hk).1
         rw [List.getElem?_map] at hk
         obtain ⟨kk,hkk,rfl⟩ : ∃ kk,(formK n)[i]? = some kk ∧ V.str (kindS kk) = kx := by
          cases e : (formK n)[i]? with
          | none => rw [e] at hk; cases hk
          | some kk => rw [e] at hk; exact ⟨kk,rfl,Option.some.inj hk⟩
         rw [List.getElem?_map,List.getElem?_map] at hz
         obtain ⟨u,hu,rfl⟩ : ∃ u,xs[i]? = some u ∧ V.str (S u) = z := by
          cases e : xs[i]? with
          | none => rw [e] at hz; cases hz
          | some u => rw [e] at hz; exact ⟨u,rfl,Option.some.inj hz⟩
         have hD4 : (upd H3 T' (.tup [.str (kindS kk),.str (S u)])) D2 = some (.lst ys) := by rw [upd_ne (ne_of_none hD3 hT)]; exact hD3
         have ly : ys.length < sizeLine := by
          rw [y1]
          refine Nat.lt_of_le_of_lt (List.length_take_le _ _) (Nat.lt_of_lt_of_le (show i < 5 by rw [List.length_map] at hi; omega) (by decide))
         have st : SameX H2 (upd H3 T' (.tup [.str (kindS kk),.str (S u)])) := s3.trans (SameX.of (Same.new _ hT))
         refine ⟨T',_,rfl,SqT.of upd_same,rfl,_,_,rfl,_,_,rfl,rfl,rfl,_,rfl,_,rfl,_,rfl,kn,kk,u,b,rfl,st.lst hB2,w1 u (List.mem_cons_of_mem _ (List.mem_cons_of_mem _ (List.mem_of_getElem? hu))),fun H4 s4 => ?_⟩
         refine ⟨s4.lst hD4,ly,nx hi ⟨?_,fun b o e nn => ?_⟩⟩
         ·rw [y1,List.take_add_one]
          congr 1
          unfold told
          rw [List.getElem?_zipWith,hkk,hu]
          rfl
         ·rw [upd_ne (ne_of_none e hD2)]
          exact s4 b o (st b o e nn) nn
      ·rw [decide_eq_false nm]
       refine iteT (iteT (kN ?_ H1 (SameX.of s1)))
       unfold rdIn
       exact if_neg fun q => nm q.1
     ·have e1 : decide (V.int ((((x :: y :: xs).map S).map V.str).length : Int) = V.int ((((formK n).map fun k => V.str (kindS k)).length : Int) + 2)) = false := decide_eq_false fun q => el ((eD 0).mp q)
      refine (show if (!decide (V.int ((((x :: y :: xs).map S).map V.str).length : Int) = V.int ((((formK n).map fun k => V.str (kindS k)).length : Int) + 2))) = true then _ else _ from ?_)
      rw [e1]
      refine iteT (iteT (kN ?_ H sH))
      unfold rdIn
      split
      ·rw [rdParts_no el]
      ·rfl
    ·rw [eg] at hb; cases hb
   ·rcases form_get (fa := fa) y with ⟨n,hn,ex,eo,eg⟩ | ⟨eo,eg⟩
    ·rw [eg] at hb; cases hb
    ·refine ⟨_,rfl,rfl,_,rfl,iteT (iteT (kN ?_ H sH))⟩
     show rdRest kn x xs (formOf y) = none
     rw [eo]
     rfl
end
end K85
end
section
set_option maxHeartbeats 4000000
namespace K85
open PySem L2 PyProof.Rows
abbrev s_NoQuestion___init__ : Stmt := inClass (top 5) 0
theorem sc_NoQuestion___init__ : FnScope ["self","at"] ["self","at"] (defScope s_NoQuestion___init__) := ⟨rfl,rfl,rfl,by decide +kernel,rfl,by decide +kernel,by decide +kernel⟩
abbrev s_read_question : Stmt := top 38
theorem sc_read_question : FnScope ["text","streams","known","rows","at","line","row"] ["text","streams"] (defScope s_read_question) := ⟨rfl,rfl,rfl,by decide +kernel,rfl,by decide +kernel,by decide +kernel⟩
structure RZ (K : PySem.W.Frag) (mg : Str → Option Value) (NQ W : Addr) : Prop where
 mQ : mg "NoQuestion" = some (.ref NQ)
 ok : XCls K NQ
 kp : PySem.W.keepIn K (.ref NQ) = true
 na : NoAttr K NQ "at"
 ex : PySem.W.exmOne K (.ref NQ) (.ref NQ) = some true
 exW : PySem.W.exmOne K (.ref NQ) (.ref W) = some true
 val : PySem.W.kitOne K (.ref NQ) (.type "ValueError") = some true
 ini : ∃ f fd,excXIn K NQ (some (.ref f)) = true ∧ PySem.W.isFn K (.ref f) = true ∧ Fun K "__init__" "NoQuestion.__init__" s_NoQuestion___init__ f fd ∧ Binds K fd ["self","at"] []
def spRQ (NQ : Addr) : Sp := fun vs H Q E => ∃ (kn : List (List Nat)) (l : List Nat) (sa : Addr),vs = [.str (S l),.ref sa] ∧ H sa = some (.lst (namV kn)) ∧ kn.length ≤ 1000 ∧ l.length ≤ 1000000 ∧
 (∀ rs,rdText kn l = .inr rs → ∀ D us H',H D = none → H' D = some (.lst us) → TupsAt H' us rs → SameX H H' → Q (.ref D) H') ∧
 (∀ at_ : Nat,rdText kn l = .inl at_ → ∀ d H',H' d = some (.xd [("at",.int (at_ : Int))]) → SameX H H' → E (.ref NQ) (some d) H')
structure QInv (kn : List (List Nat)) (l : List Nat) (sa ka ra la : Addr) (H : Hp) (i : Nat) (σ : L2.St) (H' : Hp) (rs : List Row) (us : List V) : Prop where
 st : ∃ o4 o5 o6,σ = [some (.str (S l)),some (.ref sa),some (.ref ka),some (.ref ra),o4,o5,o6]
 la : H' la = some (.lst (((cutL 10 l).map S).map V.str))
 ka : H' ka = some (.lst (namV (kn ++ rs.map Row.z)))
 ra : H' ra = some (.lst us)
 tu : TupsAt H' us rs
 ln : rs.length = i
 sm : SameX H H'
 n9 : ∀ r ∈ rs,r.n < 9
 rd : rdQ (kn ++ rs.map Row.z) rs ((cutL 10 l).drop i) = rdText kn l
 i8 : i ≤ 8
theorem none_of {H H' : Hp} {x : Addr} (s : Same H H') (h : H' x = none) : H x = none := by
 cases e : H x with
 | none => rfl
 | some o => rw [s x o e] at h; cases h
section
variable {P : Program} {w : World} {K : PySem.W.Frag} {mg : Str → Option Value} {base : Heap} {f : Addr} {fd : FuncData} {C NQ W : Addr}
theorem ok_iniQ (F : Fun K "__init__" "NoQuestion.__init__" s_NoQuestion___init__ f fd) : FnOk P w K mg base CX0 1 f fd ["self","at"] (L2.spInit K "at") := by
 refine F.ok sc_NoQuestion___init__ (fun vs H Q E h => ?_) (fun cdv A outer s H vs Q E hr h => ?_)
 ·obtain ⟨x,C,v,tb,rfl,_⟩ := h
  rfl
 ·obtain ⟨x,C,v,tb,rfl,hx,xc,na,k⟩ := h
  have hqq : QB ((cxOf CX0 P w K mg base ["self","at"] "NoQuestion.__init__" (defScope s_NoQuestion___init__) f cdv A outer s H E).nox) (defBody s_NoQuestion___init__) _ := (qb_one (qs_fldX (qv 0) (qv 1)))
  (with_reducible refine ⟨_,hqq.p,?_⟩)
  exact ⟨v,rfl,_,rfl,x,C,tb,rfl,hx,xc,na,k⟩
theorem ok_rq {tR tP : Tok} (L : Lk K mg "read_question" s_read_question ["text","streams"] f fd) (T : Txt mg) (Z : RZ K mg NQ W) (hROW : mg "MOST_ROWS" = some (.int 8 tR)) (hPAI : mg "MOST_PAIRS" = some (.int 2 tP))
  (C_read_row : Callee P w K mg base "read_row" ["words","known"] 68 spRow) (C_pairs_in : Callee P w K mg base "pairs_in" ["rows"] 1 spPairs) : CalleeX P w K mg base "read_question" ["text","streams"] 70 (spRQ NQ) := by
 obtain ⟨f5,fd5,q5,h5,fn5,b5⟩ := Z.ini
 have F5 := ok_iniQ (P := P) (w := w) (mg := mg) (base := base) fn5
 refine ⟨f,fd,L.F.okX sc_read_question (fun vs H Q E h => ?_) (fun cdv A outer s H vs Q E hr h => ?_),L.m,L.F.kp,L.b⟩
 ·obtain ⟨kn,l,sa,rfl,_⟩ := h
  rfl
 ·obtain ⟨kn,l,sa,rfl,hS,hkn,hl,kQ,kE⟩ := h
  have hqq : QB ((cxOf (CXD P w) P w K mg base ["text","streams","known","rows","at","line","row"] "read_question" (defScope s_read_question) f cdv A outer s H E)) (defBody s_read_question) _ := (qb_cn (qs_set (i := 2) sc_read_question.nd rfl (Or.inl rfl) (qe_callTy call_list_of (by rfl) T.list boot_list (qa_cn (qv 1) qa_nil)))
   (qb_cn (qs_set (i := 3) sc_read_question.nd rfl (Or.inl rfl) (qe_lst qa_nil))
   (qb_cn (qs_for PassesOwn.leaving rfl (qi_enum rfl T.enumerate (qa_cn (qe_bm PySem.F.plainAttrs_str PySem.F.slot_str_split PySem.F.type_str_split mt_split (qv 0) (qa_cn qe_str qa_nil)) qa_nil)) (qg_tup rfl (qgs_cons (qg_name (i := 4) sc_read_question.nd rfl (Or.inl rfl)) (qgs_cons (qg_name (i := 5) sc_read_question.nd rfl (Or.inl rfl)) qgs_nil))) (qb_cn (qs_set (i := 6) sc_read_question.nd rfl (Or.inl rfl) (qe_callee C_read_row (hr.mono (by first | decide | omega)) (by rfl) (qa_cn (qe_bm PySem.F.plainAttrs_str PySem.F.slot_str_split PySem.F.type_str_split mt_split (qv 5) (qa_cn qe_str qa_nil)) (qa_cn (qv 2) qa_nil))))
   (qb_cn (qs_if (qw_pt (qw_or (qt_cmpR op_isN (qv 6) qe_non (nomark _)) (qw_or (qt_cmpR op_eq (qv 4) (qe_glob (v := .int 8) (by rfl) hROW ⟨_,rfl⟩) (nomark _)) (qw_or1 (qt_cmpR op_gt (qe_callee C_pairs_in (hr.mono (by first | decide | omega)) (by rfl) (qa_cn (qe_op op_cat (qv 3) (qe_lst (qa_cn (qv 6) qa_nil))) qa_nil)) (qe_glob (v := .int 2) (by rfl) hPAI ⟨_,rfl⟩) (nomark _)))))) (qb_one (qs_raise raises_cx rfl (qe_excI q5 h5 F5 (hr.mono (by decide)) b5 Z.kp Z.mQ (qa_cn (qv 4) qa_nil)))) qb_nil)
   (qb_cn (qs_expr (qe_bm PySem.F.plainAttrs_list PySem.F.slot_list_append PySem.F.type_list_append mt_append (qv 3) (qa_cn (qv 6) qa_nil)))
   (qb_one (qs_expr (qe_bm PySem.F.plainAttrs_list PySem.F.slot_list_append PySem.F.type_list_append mt_append (qv 2) (qa_cn (qe_ix ix_tup (qv 6) qe_int (fun _ _ => rfl)) qa_nil))))))))
   (qb_one (qs_ret (qv 3))))))
  (with_reducible refine ⟨_,hqq.p,?_⟩)
  refine ⟨_,rfl,sa,_,rfl,.inl (SqL.of hS),fun ka hka => ?_⟩
  have n1 := Same.new (.lst (namV kn)) hka
  have hka1 : (upd H ka (.lst (namV kn))) ka = some (.lst (namV kn)) := upd_same
  generalize upd H ka (.lst (namV kn)) = H1 at n1 hka1 ⊢
  refine ⟨by show 0 ≤ sizeLine; decide,fun ra hra => ?_⟩
  have n2 := Same.new (.lst []) hra
  have hra2 : (upd H1 ra (.lst [])) ra = some (.lst []) := upd_same
  have s2 := n1.trans n2
  have hka2 := n2 _ _ hka1
  have nra : H ra = none := none_of n1 hra
  have kr : ka ≠ ra := ne_of_none hka1 hra
  generalize upd H1 ra (.lst []) = H2 at hra2 s2 hka2 ⊢
  refine ⟨_,rfl,rfl,l,10,rfl,rfl,hl,fun ws w0 w1 w2 la hla => ⟨la,rfl,⟨_,SqL.of upd_same⟩,?_⟩⟩
  obtain rfl := cutL_eq w0 w1 w2
  have n3 := Same.new (.lst (((cutL 10 l).map S).map V.str)) hla
  have hla3 : (upd H2 la (.lst (((cutL 10 l).map S).map V.str))) la = some (.lst (((cutL 10 l).map S).map V.str)) := upd_same
  have s3 := s2.trans n3
  have hka3 := n3 _ _ hka2
  have hra3 := n3 _ _ hra2
  have nla : H la = none := none_of s2 hla
  have kl : la ≠ ka := (ne_of_none hka2 hla).symm
  have rl : la ≠ ra := (ne_of_none hra2 hla).symm
  generalize upd H2 la (.lst (((cutL 10 l).map S).map V.str)) = H3 at hla3 s3 hka3 hra3 ⊢
  have lws : ∀ u ∈ cutL 10 l,u.length ≤ 1000000 := fun u hu => Nat.le_trans (joinL_le 10 hu) (by rw [w2]; exact hl)
  refine for_enum (K := K) (a := la) (xs := ((cutL 10 l).map S).map V.str) (fun i σ H' => ∃ rs us,QInv kn l sa ka ra la H i σ H' rs us) ⟨[],[],⟨⟨none,none,none,rfl⟩,hla3,by rw [List.map_nil,List.append_nil]; exact hka3,hra3,trivial,rfl,SameX.of s3,(fun r hr => by cases hr),by rw [List.map_nil,List.append_nil]; rfl,Nat.zero_le _⟩⟩ (fun i σ H' _ ⟨_,_,q⟩ => SqL.of q.la) ?_ ?_
  ·rintro i x T' σ H4 hx ⟨rs,us,I⟩ hT
   obtain ⟨o4,o5,o6,rfl⟩ := I.st
   rw [List.getElem?_map,List.getElem?_map] at hx
   obtain ⟨u,hu,rfl⟩ : ∃ u,(cutL 10 l)[i]? = some u ∧ V.str (S u) = x := by
    cases e : (cutL 10 l)[i]? with
    | none => rw [e] at hx; cases hx
    | some u => rw [e] at hx; exact ⟨u,rfl,Option.some.inj hx⟩
   have ed : (cutL 10 l).drop i = u :: (cutL 10 l).drop (i + 1) := by
    obtain ⟨hi,e⟩ := List.getElem?_eq_some_iff.mp hu
    rw [List.drop_eq_getElem_cons hi,e]
   have rd := I.rd
   rw [ed] at rd
   have n5 := Same.new (.tup [.int (i : Int),.str (S u)]) hT
   have hT5 : (upd H4 T' (.tup [.int (i : Int),.str (S u)])) T' = some (.tup [.int (i : Int),.str (S u)]) := upd_same
   have s5 := I.sm.trans (SameX.of n5)
   generalize upd H4 T' (.tup [.int (i : Int),.str (S u)]) = H5 at n5 hT5 s5 ⊢
   refine ⟨T',_,rfl,SqT.of hT5,rfl,_,_,rfl,_,_,rfl,rfl,?_⟩
   refine ⟨_,rfl,rfl,u,32,rfl,rfl,lws u (List.mem_of_getElem? hu),fun vs v0 v1 v2 wa hwa => ?_⟩
   obtain rfl := cutL_eq v0 v1 v2
   have n6 := Same.new (.lst (((cutL 32 u).map S).map V.str)) hwa
   have hwa6 : (upd H5 wa (.lst (((cutL 32 u).map S).map V.str))) wa = some (.lst (((cutL 32 u).map S).map V.str)) := upd_same
   have s6 := s5.trans (SameX.of n6)
   have n46 := n5.trans n6
   generalize upd H5 wa (.lst (((cutL 32 u).map S).map V.str)) = H6 at n46 hwa6 s6 ⊢
   have bad : rdQ (kn ++ rs.map Row.z) rs (u :: (cutL 10 l).drop (i + 1)) = .inl rs.length → ∀ (D' : Ends) (σ' : L2.St) (H' : Hp),σ'[4]? = some (some (.int (i : Int))) → SameX H H' → tRaise K (tExcI NQ (L2.spInit K "at") (tCons (tVar 4) tNil)) E D' σ' H' := fun e D' σ' H' h4 s' =>
    raiseI (K := K) (E := E) (D := D') (σ := σ') (H := H') (C := NQ) (fld := "at") (t := tCons (tVar 4) tNil) (v := .int (i : Int)) Z.ok Z.na (fun Q h => ⟨_,h4,h⟩) (fun d H7 hd sm => kE i (by rw [← rd,e,I.ln]) d H7 hd (s'.trans (SameX.of sm)))
   refine ⟨_,rfl,kn ++ rs.map Row.z,cutL 32 u,wa,ka,rfl,hwa6,n46 _ _ I.ka,v0,fun z hz => Nat.le_trans (joinL_le 32 hz) (by rw [v2]; exact lws u (List.mem_of_getElem? hu)),fun r er t H7 ht s7 => ?_,fun en H7 s7 => ?_⟩
   ·have n47 : SameX H4 H7 := (SameX.of n46).trans s7
    have s7' : SameX H H7 := s6.trans s7
    have hra7 := n47.lst I.ra
    have hka7 := n47.lst I.ka
    have hla7 := n47.lst I.la
    have tu7 := I.tu.mono n47.tx
    obtain ⟨_,r9,_,_,_⟩ := rdRow_some er
    have lu := tu7.length
    have ln := I.ln
    have i8 := I.i8
    have at0 : atI (rowV r) 0 = some (.str (S r.z)) := atI_nat (j := 0) rfl
    refine ⟨_,rfl,rfl,_,rfl,iteF ⟨_,rfl,rfl,_,rfl,?_⟩⟩
    refine (show if decide (V.int (i : Int) = V.int 8) = true then _ else _ from ?_)
    by_cases e8 : i = 8
    ·rw [decide_eq_true (show V.int (i : Int) = V.int 8 by rw [e8]; rfl)]
     refine iteT (iteT ?_)
     refine bad ?_ _ _ _ rfl s7'
     unfold rdQ
     rw [er]
     exact if_pos (.inl (by omega))
    ·rw [decide_eq_false (show ¬ V.int (i : Int) = V.int 8 from fun z => e8 (by have := V.int.inj z; omega))]
     refine iteF ⟨_,rfl,_,rfl,(by show 1 ≤ sizeLine; decide),fun q1 hq1 => ?_⟩
     have n8 := Same.new (.lst [.ref t]) hq1
     have hq18 : (upd H7 q1 (.lst [.ref t])) q1 = some (.lst [.ref t]) := upd_same
     generalize upd H7 q1 (.lst [.ref t]) = H8 at n8 hq18 ⊢
     refine ⟨ra,q1,us,[.ref t],rfl,rfl,n8 _ _ hra7,hq18,Nat.le_trans (show _ ≤ 9 by show us.length + 1 ≤ 9; omega) (by decide),fun q2 hq2 => ?_⟩
     have n9 := n8.trans (Same.new (.lst (us ++ [.ref t])) hq2)
     have hq29 : (upd H8 q2 (.lst (us ++ [.ref t]))) q2 = some (.lst (us ++ [.ref t])) := upd_same
     generalize upd H8 q2 (.lst (us ++ [.ref t])) = H9 at n9 hq29 ⊢
     have tu9 : TupsAt H9 (us ++ [.ref t]) (rs ++ [r]) := (tu7.mono (SameX.of n9).tx).snoc (n9 _ _ ht)
     have rs9 : ∀ r' ∈ rs ++ [r],r'.n < 9 := fun r' h' => by
      rcases List.mem_append.mp h' with h | h
      ·exact I.n9 r' h
      ·rw [List.mem_singleton.mp h]; exact r9
     refine ⟨q2,_,rs ++ [r],rfl,hq29,tu9,(by rw [List.length_append,ln]; show i + 1 ≤ 1000; omega),rs9,fun H10 s10 => ⟨_,_,rfl,rfl,_,rfl,?_⟩⟩
     have n10 := n9.trans s10
     have s10' := s7'.trans (SameX.of n10)
     by_cases p2 : 2 < pairsOf (rs ++ [r])
     ·rw [decide_eq_true (show (2 : Int) < (pairsOf (rs ++ [r]) : Int) by omega)]
      refine iteT ?_
      refine bad ?_ _ _ _ rfl s10'
      unfold rdQ
      rw [er]
      exact if_pos (.inr p2)
     ·rw [decide_eq_false (show ¬ (2 : Int) < (pairsOf (rs ++ [r]) : Int) by omega)]
      have hra10 := n10 _ _ hra7
      have hka10 := n10 _ _ hka7
      have hla10 := n10 _ _ hla7
      have ht10 := n10 _ _ ht
      have tu10 := tu7.mono (SameX.of n10).tx
      have tra : t ≠ ra := fun z => by rw [z,hra10] at ht10; cases ht10
      have tka : t ≠ ka := fun z => by rw [z,hka10] at ht10; cases ht10
      have x1 : TupX H10 (upd H10 ra (.lst (us ++ [.ref t]))) := TupX.upd fun vs z => by rw [hra10] at z; cases z
      have hka11 : (upd H10 ra (.lst (us ++ [.ref t]))) ka = some (.lst (namV (kn ++ rs.map Row.z))) := by rw [upd_ne kr]; exact hka10
      have ht11 := x1 _ _ ht10
      have hra11 : (upd H10 ra (.lst (us ++ [.ref t]))) ra = some (.lst (us ++ [.ref t])) := upd_same
      have hla11 : (upd H10 ra (.lst (us ++ [.ref t]))) la = some (.lst (((cutL 10 l).map S).map V.str)) := by rw [upd_ne rl]; exact hla10
      have s11 : SameX H (upd H10 ra (.lst (us ++ [.ref t]))) := fun b o e nn => by
       rw [upd_ne (ne_of_none e nra)]
       exact s10' b o e nn
      refine iteF ⟨_,rfl,.inl ⟨rfl,_,SqL.of hra10⟩,_,rfl,ra,us,_,rfl,rfl,hra10,Nat.lt_of_lt_of_le (show us.length < 9 by omega) (by decide),?_⟩
      generalize upd H10 ra (.lst (us ++ [.ref t])) = H11 at x1 hka11 ht11 hra11 hla11 s11 ⊢
      refine ⟨_,rfl,.inl ⟨rfl,_,SqL.of hka11⟩,_,rfl,t,_,_,_,rfl,rfl,SqT.of ht11,at0,ka,_,_,rfl,rfl,hka11,?_,?_⟩
      ·unfold namV
       rw [List.length_map,List.length_append,List.length_map]
       exact Nat.lt_of_lt_of_le (show kn.length + rs.length < 1010 by omega) (by decide)
      ·have x2 : TupX H11 (upd H11 ka (.lst (namV (kn ++ rs.map Row.z) ++ [.str (S r.z)]))) := TupX.upd fun vs z => by rw [hka11] at z; cases z
       have en : namV (kn ++ rs.map Row.z) ++ [.str (S r.z)] = namV (kn ++ (rs ++ [r]).map Row.z) := by
        unfold namV
        rw [List.map_append,List.map_append,List.map_append,List.map_append,List.append_assoc]
        rfl
       refine ⟨rs ++ [r],us ++ [.ref t],⟨⟨_,_,_,rfl⟩,?_,?_,?_,?_,?_,?_,rs9,?_,by omega⟩⟩
       ·rw [upd_ne kl]; exact hla11
       ·rw [upd_same,en]
       ·rw [upd_ne kr.symm]; exact hra11
       ·exact (tu10.mono (x1.trans x2)).snoc (x2 _ _ ht11)
       ·rw [List.length_append,ln]; rfl
       ·intro b o e nn
        rw [upd_ne (ne_of_none e hka)]
        exact s11 b o e nn
       ·rw [← rd]
        conv => rhs; unfold rdQ
        rw [er,List.map_append,← List.append_assoc]
        exact (if_neg (fun q => q.elim (fun z => by omega) p2)).symm
   ·refine ⟨_,rfl,rfl,_,rfl,iteT (iteT ?_)⟩
    refine bad ?_ _ _ _ rfl (s6.trans s7)
    unfold rdQ
    rw [en]
  ·rintro σ H4 ⟨rs,us,I⟩
   obtain ⟨o4,o5,o6,rfl⟩ := I.st
   have rd := I.rd
   rw [List.length_map,List.length_map,List.drop_length] at rd
   exact ⟨_,rfl,kQ rs rd.symm ra us H4 nra I.ra I.tu I.sm⟩
end
end K85
end
section
set_option maxHeartbeats 4000000
namespace K85
open PySem L2 PyProof.Rows
abbrev s_words : Stmt := top 55
theorem sc_words : FnScope ["_law_rows_here"] ["_law_rows_here"] (defScope s_words) := ⟨rfl,rfl,rfl,by decide +kernel,rfl,by decide +kernel,by decide +kernel⟩
def sane : Pt → Prop
 | .num i => i.natAbs < 10 ^ 60
 | .nam z => z.length ≤ 8
theorem num_S (i : Int) : (Str.ofString (toString i)) = S (numL i) := L2.S_of _
theorem log_num {i : Int} (h : i.natAbs < 10 ^ 300) : i.natAbs.log2 < 1920 := by
 by_cases z : i.natAbs = 0
 ·rw [z]; decide
 ·exact (Nat.log2_lt z).mpr (Nat.lt_trans h (by decide +kernel))
theorem word_len {p : Pt} (h : sane p) : (word p).length ≤ 61 := by
 cases p with
 | num i =>
  have h : i.natAbs < 10 ^ 60 := h
  show (numL i).length ≤ 61
  by_cases h0 : 0 ≤ i
  ·obtain ⟨m,rfl⟩ := Int.eq_ofNat_of_zero_le h0
   rw [num_pos]
   exact Nat.le_trans (dig_len 59 m (by simpa using h)) (by decide)
  ·obtain ⟨m,rfl⟩ : ∃ m : Nat,i = -(m : Int) := ⟨i.natAbs,by omega⟩
   rw [num_neg m (by omega)]
   have := dig_len 59 m (by omega)
   show (digs m).length + 1 ≤ 61
   omega
 | nam z => exact Nat.le_trans (show z.length ≤ 8 from h) (by decide)
def rowP (r : Row) : List Pt := .nam r.z :: .nam (formW r.n) :: r.ps
def saneR (r : Row) : Prop := (∀ p ∈ rowP r,sane p) ∧ r.ps.length ≤ 4
def rowL (r : Row) : List Nat := joinL 32 (rowW r)
def rowsL (rs : List Row) : List Nat := joinL 10 (rs.map rowL)
theorem sum_words : ∀ (qs : List Pt),(∀ p ∈ qs,sane p) → (((qs.map word).map S).map (·.length)).sum ≤ 61 * qs.length
 | [],_ => Nat.le_refl _
 | p :: qs,h => by
  have h1 := word_len (h p List.mem_cons_self)
  have h2 := sum_words qs fun q hq => h q (List.mem_cons_of_mem _ hq)
  rw [List.map_cons,List.map_cons,List.map_cons,List.sum_cons,S_len,List.length_cons]
  omega
theorem take_snocS {α : Type} {l : List α} {i : Nat} {x : α} (h : l[i]? = some x) : l.take (i + 1) = l.take i ++ [x] := by rw [List.take_add_one,h]; rfl
theorem sum_le : ∀ (ls : List (List Nat)) (m : Nat),(∀ l ∈ ls,l.length ≤ m) → ((ls.map S).map (·.length)).sum ≤ m * ls.length
 | [],_,_ => Nat.zero_le _
 | l :: ls,m,h => by
  have h1 := h l List.mem_cons_self
  have h2 := sum_le ls m fun q hq => h q (List.mem_cons_of_mem _ hq)
  rw [List.map_cons,List.map_cons,List.sum_cons,S_len,List.length_cons,Nat.mul_succ]
  omega
theorem join_len (c m : Nat) : ∀ (ls : List (List Nat)),(∀ l ∈ ls,l.length ≤ m) → (joinL c ls).length ≤ (m + 1) * ls.length
 | [],_ => Nat.zero_le _
 | [l],h => by
  have := h l List.mem_cons_self
  show l.length ≤ _
  rw [List.length_singleton,Nat.mul_one]
  omega
 | l :: l2 :: ls,h => by
  have h1 := h l List.mem_cons_self
  have h2 := join_len c m (l2 :: ls) fun q hq => h q (List.mem_cons_of_mem _ hq)
  show (l ++ (c :: joinL c (l2 :: ls))).length ≤ _
  rw [List.length_append,List.length_cons,List.length_cons (as := l2 :: ls),Nat.mul_succ]
  omega
theorem rowL_len {r : Row} (h : saneR r) : (rowL r).length ≤ 372 := by
 have := join_len 32 61 (rowW r) fun l hl => by
  obtain ⟨p,hp,rfl⟩ := List.mem_map.mp (show l ∈ (rowP r).map word from hl)
  exact word_len (h.1 p hp)
 have e : (rowW r).length ≤ 6 := by
  have := h.2
  show (r.ps.map word).length + 1 + 1 ≤ 6
  rw [List.length_map]
  omega
 unfold rowL
 omega
theorem rowsL_len {rs : List Row} (h : ∀ r ∈ rs,saneR r) : (rowsL rs).length ≤ 373 * rs.length := by
 have := join_len 10 372 (rs.map rowL) fun l hl => by
  obtain ⟨r,hr,rfl⟩ := List.mem_map.mp hl
  exact rowL_len (h r hr)
 rw [List.length_map] at this
 exact this
def spWords : Sp := fun vs H Q _ => ∃ (a : Addr) (us : List V) (rs : List Row),vs = [.ref a] ∧ H a = some (.lst us) ∧ TupsAt H us rs ∧ (∀ r ∈ rs,saneR r) ∧ rs.length ≤ 12 ∧ ∀ H',Same H H' → Q (.str (S (rowsL rs))) H'
theorem row_text {K : PySem.W.Frag} {te : TE} (hte : ∀ p,sane p → ∀ (H : Hp) (Q : VK),Q (.str (S (word p))) H → te [some (valP p)] H Q) {t : Addr} {r : Row} {H : Hp} {Q : VK} (ht : H t = some (.tup (rowV r))) (hs : saneR r) (k : ∀ H',Same H H' → Q (.str (S (rowL r))) H') :
  tBM K "str" (rJoin K) (tC (V.str (Str.ofString " "))) (tCons (tComp (iTup K (tVar 0)) (gName 0) tAlways te 1 []) tNil) [some (.ref t)] H Q := by
 refine ⟨rfl,_,rfl,t,rfl,⟨_,SqT.of ht⟩,fun D hD => ?_⟩
 have e4 := hs.2
 have e6 : (rowP r).length ≤ 6 := by show r.ps.length + 1 + 1 ≤ 6; omega
 refine comp_tup (K := K) (a := t) (xs := (rowP r).map valP) (fun i ys H' => ys = ((((rowP r).take i).map word).map S).map V.str ∧ Same H H') ⟨rfl,Same.new _ hD⟩ (fun i ys H' _ ⟨_,s'⟩ => SqT.of (s' _ _ ht)) ?_ ?_
 ·rintro ys H' ⟨rfl,s'⟩ hD'
  rw [List.length_map,List.take_of_length_le (Nat.le_refl _)] at hD'
  refine ⟨_,D,((rowP r).map word).map S,rfl,rfl,SqL.of hD',?_,?_⟩
  ·rw [List.length_map,List.length_map]
   have := sum_words (rowP r) hs.1
   have e1 : ((" ") : Str).length = 1 := by decide
   rw [e1]
   omega
  ·have := joinT_S 32 ((rowP r).map word)
   rw [show ((" ") : Str) = S [32] from rfl,this]
   exact k H' s'
 ·rintro i x ys H' hx ⟨rfl,s'⟩ hD'
  have hi : i < ((rowP r).map valP).length := (List.getElem?_eq_some_iff.mp hx).1
  rw [List.getElem?_map] at hx
  obtain ⟨p,hp,rfl⟩ : ∃ p,(rowP r)[i]? = some p ∧ valP p = x := by
   cases e : (rowP r)[i]? with
   | none => rw [e] at hx; cases hx
   | some p => rw [e] at hx; exact ⟨p,rfl,Option.some.inj hx⟩
  refine ⟨rfl,hte p (hs.1 p (List.mem_of_getElem? hp)) H' _ ⟨hD',?_,nx hi ⟨?_,?_⟩⟩⟩
  ·rw [List.length_map,List.length_map,List.length_map,List.length_take]
   exact Nat.lt_of_le_of_lt (show _ ≤ 6 by omega) (by decide)
  ·rw [take_snocS hp,List.map_append,List.map_append,List.map_append]
   rfl
  ·intro b o e
   rw [upd_ne (ne_of_none e hD)]
   exact s' b o e
theorem rows_text {K : PySem.W.Frag} {te : TE} (hte : ∀ p,sane p → ∀ (H : Hp) (Q : VK),Q (.str (S (word p))) H → te [some (valP p)] H Q) {a : Addr} {us : List V} {rs : List Row} {H : Hp} {Q : VK} {σ : L2.St} (hσ : σ[0]? = some (some (.ref a))) (ha : H a = some (.lst us)) (tu : TupsAt H us rs) (hs : ∀ r ∈ rs,saneR r) (hl : rs.length ≤ 12) (k : ∀ H',Same H H' → Q (.str (S (rowsL rs))) H') :
  tBM K "str" (rJoin K) (tC (V.str (Str.ofString "\n"))) (tCons (tComp (iList K (tVar 0)) (gName 0) tAlways (tBM K "str" (rJoin K) (tC (V.str (Str.ofString " "))) (tCons (tComp (iTup K (tVar 0)) (gName 0) tAlways te 1 []) tNil)) 1 []) tNil) σ H Q := by
 refine ⟨rfl,_,hσ,a,rfl,⟨_,SqL.of ha⟩,fun D hD => ?_⟩
 have el := tu.length
 refine comp_list (K := K) (a := a) (xs := us) (fun i ys H' => ys = (((rs.take i).map rowL).map S).map V.str ∧ Same H H') ⟨rfl,Same.new _ hD⟩ (fun i ys H' _ ⟨_,s'⟩ => SqL.of (s' _ _ ha)) ?_ ?_
 ·rintro ys H' ⟨rfl,s'⟩ hD'
  rw [el,List.take_of_length_le (Nat.le_refl _)] at hD'
  refine ⟨_,D,(rs.map rowL).map S,rfl,rfl,SqL.of hD',?_,?_⟩
  ·rw [List.length_map,List.length_map]
   have := sum_le (rs.map rowL) 372 fun l hl => by
    obtain ⟨r,hr,rfl⟩ := List.mem_map.mp hl
    exact rowL_len (hs r hr)
   rw [List.length_map] at this
   have e1 : (("\n") : Str).length = 1 := by decide
   rw [e1]
   omega
  ·have := joinT_S 10 (rs.map rowL)
   rw [show (("\n") : Str) = S [10] from rfl,this]
   exact k H' s'
 ·rintro i x ys H' hx ⟨rfl,s'⟩ hD'
  have hi : i < us.length := (List.getElem?_eq_some_iff.mp hx).1
  obtain ⟨t,r,rfl,hr,ht⟩ := tu.get hx
  refine ⟨rfl,row_text hte (s' _ _ ht) (hs r (List.mem_of_getElem? hr)) fun H2 s2 => ⟨s2 _ _ hD',?_,nx hi ⟨?_,?_⟩⟩⟩
  ·rw [List.length_map,List.length_map,List.length_map,List.length_take]
   exact Nat.lt_of_le_of_lt (show _ ≤ 12 by omega) (by decide)
  ·rw [take_snocS hr,List.map_append,List.map_append,List.map_append]
   rfl
  ·intro b o e
   rw [upd_ne (ne_of_none e hD)]
   exact s2 _ _ (s' b o e)
section
variable {P : Program} {w : World} {K : PySem.W.Frag} {mg : Str → Option Value} {base : Heap} {f : Addr} {fd : FuncData}
theorem ok_words (L : Lk K mg "_law_words" s_words ["_law_rows_here"] f fd) (T : Txt mg) : Callee P w K mg base "_law_words" ["_law_rows_here"] 1 spWords := by
 refine L.callee (L.F.ok sc_words (fun vs H Q E h => ?_) (fun cdv A outer s H vs Q E hr h => ?_))
 ·obtain ⟨a,us,rs,rfl,_⟩ := h
  rfl
 ·obtain ⟨a,us,rs,rfl,ha,tu,hs,hl,k⟩ := h
  have hqq : QB ((cxOf CX0 P w K mg base ["_law_rows_here"] "_law_words" (defScope s_words) f cdv A outer s H E).nox) (defBody s_words) _ := (qb_one (qs_ret (qe_bm PySem.F.plainAttrs_str PySem.F.slot_str_join PySem.F.type_str_join mt_join qe_str (qa_cn (qe_comp ["_law_row_here"] [] [] ["_law_rows_here"] (defScope s_words).names rfl (qi_list (qv 0)) (fun _ _ _ _ _ => (qg_name (i := 0) (show (["_law_row_here"] : List Str).Nodup by decide +kernel) rfl (Or.inl rfl))) (fun _ _ _ _ _ => qts_nil) (fun _ _ _ _ _ => (qe_bmK K rfl PySem.F.plainAttrs_str PySem.F.slot_str_join PySem.F.type_str_join (mt_joinK K rfl) qe_str (qa_cn (qe_comp ["_law_part"] [] [] ["_law_row_here"] (retSn s_words) rfl (qi_tupK K rfl (qv 0)) (fun _ _ _ _ _ => (qg_name (i := 0) (show (["_law_part"] : List Str).Nodup by decide +kernel) rfl (Or.inl rfl))) (fun _ _ _ _ _ => qts_nil) (fun _ _ _ _ _ => (qe_callTy call_str_any (by rfl) T.str boot_str (qa_cn (qv 0) qa_nil)))) qa_nil)))) qa_nil))))
  (with_reducible refine ⟨_,hqq.p,?_⟩)
  refine rows_text (K := K) (fun p hp H Q h => ?_) rfl ha tu hs hl k
  cases p with
  | num i =>
   refine ⟨_,rfl,.inl ⟨i,rfl,log_num (small60 hp),?_⟩⟩
   have h : Q (.str (S (numL i))) H := h
   rw [← num_S] at h
   exact h
  | nam z => exact ⟨_,rfl,.inr ⟨S z,rfl,h⟩⟩
end
end K85
end
section
set_option maxHeartbeats 4000000
namespace K85
open PySem L2 PyProof.Rows
abbrev s_edge : Stmt := top 49
theorem sc_edge : FnScope ["_law_hand","_law_low","_law_high","_law_way"] ["_law_hand","_law_low","_law_high"] (defScope s_edge) := ⟨rfl,rfl,rfl,by decide +kernel,rfl,by decide +kernel,by decide +kernel⟩
abbrev s_name : Stmt := top 50
theorem sc_name : FnScope ["_law_k","_law_front","_law_stem"] ["_law_k","_law_front","_law_stem"] (defScope s_name) := ⟨rfl,rfl,rfl,by decide +kernel,rfl,by decide +kernel,by decide +kernel⟩
abbrev s_names : Stmt := top 51
theorem sc_names : FnScope ["_law_hand","_law_front","_law_stems","_law_names_here","_law_some"] ["_law_hand"] (defScope s_names) := ⟨rfl,rfl,rfl,by decide +kernel,rfl,by decide +kernel,by decide +kernel⟩
abbrev s_sum : Stmt := top 52
theorem sc_sum : FnScope ["_law_hand"] ["_law_hand"] (defScope s_sum) := ⟨rfl,rfl,rfl,by decide +kernel,rfl,by decide +kernel,by decide +kernel⟩
def stems : List (List Nat) := [[],[112,105,99,107],[116,117,114,110],[98,111,116,104],[112,97,105,114],[115],[122,122],[108,97,116,101],[122,122,122,122,122,122,122],[115,111,102,97]]
def someW : List (List Nat) := [[112,105,99,107],[116,117,114,110],[98,111,116,104],[98,121,116,105,109,101],[115,105,108,101,110,99,101],[99,111,117,110,116],[115,111,102,97,114],[112,97,105,114,115],[108,111,110,101],[116,111,116,97,108],[108,101,97,115,116],[103,114,101,97,116,101,115,116],[108,97,115,116],[117,110,108,105,107,101],[108,101,102,116],[114,105,103,104,116],[115,117,109],[108,101,115,115]]
def mkName (b : Bool) (k : Nat) (st : List Nat) : List Nat := if b then (97 + k) :: st else st ++ [97 + k]
theorem stems_ok : ∀ st ∈ stems,st.length ≤ 7 ∧ ∀ c ∈ st,97 ≤ c ∧ c ≤ 122 := by decide
theorem some_ok : ∀ z ∈ someW,isName z := by decide
theorem mk_name {b : Bool} {k : Nat} {st : List Nat} (hk : k < 14) (hs : st ∈ stems) : isName (mkName b k st) := by
 obtain ⟨h1,h2⟩ := stems_ok st hs
 unfold mkName
 cases b with
 | true =>
  refine ⟨?_,?_,fun c hc => ?_⟩
  ·show 1 ≤ st.length + 1; omega
  ·show st.length + 1 ≤ 8; omega
  ·rcases List.mem_cons.mp hc with rfl | h
   ·omega
   ·exact h2 c h
 | false =>
  refine ⟨?_,?_,fun c hc => ?_⟩
  ·show 1 ≤ (st ++ [97 + k]).length; rw [List.length_append]; show 1 ≤ st.length + 1; omega
  ·show (st ++ [97 + k]).length ≤ 8; rw [List.length_append]; show st.length + 1 ≤ 8; omega
  ·rcases List.mem_append.mp (show c ∈ st ++ [97 + k] from hc) with h | h
   ·exact h2 c h
   ·rw [List.mem_singleton.mp h]; omega
theorem mk_inj {b : Bool} {k m : Nat} {st su : List Nat} (h : mkName b k st = mkName b m su) : k = m := by
 cases b with
 | true =>
  have h : (97 + k) :: st = (97 + m) :: su := h
  have := (List.cons.inj h).1
  omega
 | false =>
  have h : st ++ [97 + k] = su ++ [97 + m] := h
  have := congrArg List.getLast? h
  rw [List.getLast?_concat,List.getLast?_concat] at this
  have := Option.some.inj this
  omega
theorem mk_some : ∀ b : Bool,∀ k,k < 14 → ∀ st ∈ stems,mkName b k st ∉ someW := by decide +kernel
def Names (zs : List (List Nat)) : Prop := zs.length = 14 ∧ (∀ z ∈ zs,isName z) ∧ ∀ (i j : Nat) (z : List Nat),zs[i]? = some z → zs[j]? = some z → i = j
theorem names_of {b : Bool} {zs : List (List Nat)} {w : List Nat} {m : Nat} (hl : zs.length = 14) (hz : ∀ (j : Nat) (z : List Nat),zs[j]? = some z → ∃ st,st ∈ stems ∧ z = mkName b j st) (hw : w ∈ someW) : Names (zs.set m w) := by
 refine ⟨by rw [List.length_set]; exact hl,fun z h => ?_,fun i j z hi hj => ?_⟩
 ·rcases List.mem_or_eq_of_mem_set h with h | h
  ·obtain ⟨j,hj⟩ := List.getElem?_of_mem h
   obtain ⟨st,hs,rfl⟩ := hz j z hj
   have hj' : j < zs.length := (List.getElem?_eq_some_iff.mp hj).1
   exact mk_name (by omega) hs
  ·rw [h]; exact some_ok w hw
 ·have il : i < 14 := by have := (List.getElem?_eq_some_iff.mp hi).1; rw [List.length_set] at this; omega
  have jl : j < 14 := by have := (List.getElem?_eq_some_iff.mp hj).1; rw [List.length_set] at this; omega
  by_cases ei : m = i
  ·by_cases ej : m = j
   ·omega
   ·exfalso
    rw [List.getElem?_set_ne ej] at hj
    obtain ⟨st,hs,e⟩ := hz j z hj
    rw [ei,List.getElem?_set_self (by omega)] at hi
    rw [← Option.some.inj hi] at e
    exact mk_some b j jl st hs (e ▸ hw)
  ·rw [List.getElem?_set_ne ei] at hi
   obtain ⟨st,hs,e⟩ := hz i z hi
   by_cases ej : m = j
   ·exfalso
    rw [ej,List.getElem?_set_self (by omega)] at hj
    rw [← Option.some.inj hj] at e
    exact mk_some b i il st hs (e ▸ hw)
   ·rw [List.getElem?_set_ne ej] at hj
    obtain ⟨su,hu,e'⟩ := hz j z hj
    exact mk_inj (e.symm.trans e')
theorem at_in {α : Type} (l : List α) {r : Int} (h0 : 0 ≤ r) (h1 : r < l.length) : ∃ c,atI l r = some c ∧ c ∈ l := by
 obtain ⟨j,rfl⟩ := Int.eq_ofNat_of_zero_le h0
 have hj : j < l.length := by omega
 exact ⟨l[j],atI_nat (List.getElem?_eq_getElem hj),List.getElem_mem _⟩
theorem Hand.nec {H : Hp} {p c D : Addr} (h : Hand H p c) (e : H D = none) : D ≠ c := fun z => by
 obtain ⟨d,n,cs,hp,hc,h0⟩ := h
 rw [z,hc] at e; cases e
theorem Hand.other {H : Hp} {p c D : Addr} (h : Hand H p c) (o : HO) (n1 : D ≠ p) (n2 : D ≠ c) : Hand (upd H D o) p c := by
 obtain ⟨d,n,cs,hp,hc,h0⟩ := h
 exact ⟨d,n,cs,by rw [upd_ne n1.symm]; exact hp,by rw [upd_ne n2.symm]; exact hc,h0⟩
def spEdge : Sp := fun vs H Q _ => ∃ (p c : Addr) (lo hi : Int),vs = [.ref p,.int lo,.int hi] ∧ Hand H p c ∧ lo ≤ hi ∧ ∀ (r : Int) (H' : Hp),lo ≤ r → r ≤ hi → Hand H' p c → But p H H' → Q (.int r) H'
def spNameL : Sp := fun vs H Q _ => ∃ (k : Nat) (b : Bool) (st : List Nat),vs = [.int (k : Int),.bl b,.str (S st)] ∧ k < 14 ∧ st ∈ stems ∧ Q (.str (S (mkName b k st))) H
def spNames : Sp := fun vs H Q _ => ∃ (p c : Addr),vs = [.ref p] ∧ Hand H p c ∧ ∀ (zs : List (List Nat)) (D : Addr) (H' : Hp),Names zs → H D = none → H' D = some (.lst (namV zs)) → Hand H' p c → But p H H' → Q (.ref D) H'
def spSumL : Sp := fun vs H Q _ => ∃ (p c : Addr),vs = [.ref p] ∧ Hand H p c ∧ ∀ (z : List Nat) (H' : Hp),z ∈ sumW → Hand H' p c → But p H H' → Q (.str (S z)) H'
section
variable {P : Program} {w : World} {K : PySem.W.Frag} {mg : Str → Option Value} {base : Heap} {f : Addr} {fd : FuncData}
theorem ok_edge (L : Lk K mg "_law_edge" s_edge ["_law_hand","_law_low","_law_high"] f fd) (T : Txt mg) (C__law_draw : Callee P w K mg base "_law_draw" ["_law_hand","_law_many"] 1 spDraw) (C__law_far : Callee P w K mg base "_law_far" ["_law_hand","_law_bound"] 2 spFar) : Callee P w K mg base "_law_edge" ["_law_hand","_law_low","_law_high"] 3 spEdge := by
 refine L.callee (L.F.ok sc_edge (fun vs H Q E h => ?_) (fun cdv A outer s H vs Q E hr h => ?_))
 ·obtain ⟨p,c,lo,hi,rfl,_⟩ := h
  rfl
 ·obtain ⟨p,c,lo,hi,rfl,hh,le,k⟩ := h
  have hqq : QB ((cxOf CX0 P w K mg base ["_law_hand","_law_low","_law_high","_law_way"] "_law_edge" (defScope s_edge) f cdv A outer s H E).nox) (defBody s_edge) _ := (qb_cn (qs_set (i := 3) sc_edge.nd rfl (Or.inl rfl) (qe_callee C__law_draw (hr.mono (by first | decide | omega)) (by rfl) (qa_cn (qv 0) (qa_cn qe_int qa_nil))))
   (qb_cn (qs_if (qt_cmpR op_eq (qv 3) qe_int (nomark _)) (qb_one (qs_ret (qv 1))) qb_nil)
   (qb_cn (qs_if (qt_cmpR op_eq (qv 3) qe_int (nomark _)) (qb_one (qs_ret (qv 2))) qb_nil)
   (qb_cn (qs_if (qt_cmpR op_eq (qv 3) qe_int (nomark _)) (qb_one (qs_ret (qe_callB (call_min2 rfl) (by rfl) T.min boot_min (qa_cn (qv 2) (qa_cn (qe_op op_add (qv 1) (qe_callee C__law_draw (hr.mono (by first | decide | omega)) (by rfl) (qa_cn (qv 0) (qa_cn qe_int qa_nil)))) qa_nil))))) qb_nil)
   (qb_one (qs_ret (qe_op op_add (qv 1) (qe_callee C__law_far (hr.mono (by first | decide | omega)) (by rfl) (qa_cn (qv 0) (qa_cn (qe_op op_add (qe_op op_sub (qv 2) (qv 1)) qe_int) qa_nil))))))))))
  (with_reducible refine ⟨_,hqq.p,?_⟩)
  refine ⟨_,rfl,p,c,5,rfl,hh,by decide,by decide,fun r H1 _ _ h1 b1 => ?_⟩
  refine ⟨_,rfl,rfl,_,rfl,ite2 (fun _ => ?_) (fun _ => ?_)⟩
  ·exact ⟨_,rfl,k _ _ (Int.le_refl _) le h1 b1⟩
  refine ⟨_,rfl,rfl,_,rfl,ite2 (fun _ => ?_) (fun _ => ?_)⟩
  ·exact ⟨_,rfl,k _ _ le (Int.le_refl _) h1 b1⟩
  refine ⟨_,rfl,rfl,_,rfl,ite2 (fun _ => ?_) (fun _ => ?_)⟩
  ·refine ⟨_,rfl,_,rfl,_,rfl,p,c,12,rfl,h1,by decide,by decide,fun r2 H2 q0 q1 h2 b2 => ⟨_,_,rfl,rfl,_,_,rfl,?_⟩⟩
   refine k _ _ ?_ ?_ h2 (b1.trans b2)
   ·split <;> omega
   ·split <;> omega
  ·refine ⟨_,rfl,_,rfl,_,rfl,_,rfl,_,_,rfl,rfl,_,_,rfl,rfl,p,c,_,rfl,h1,by omega,fun r2 H2 q0 q1 h2 b2 => ⟨_,_,rfl,rfl,?_⟩⟩
   exact k _ _ (by omega) (by omega) h2 (b1.trans b2)
theorem ok_sumL (L : Lk K mg "_law_sum" s_sum ["_law_hand"] f fd) (T : Txt mg) (C__law_draw : Callee P w K mg base "_law_draw" ["_law_hand","_law_many"] 1 spDraw) : Callee P w K mg base "_law_sum" ["_law_hand"] 2 spSumL := by
 refine L.callee (L.F.ok sc_sum (fun vs H Q E h => ?_) (fun cdv A outer s H vs Q E hr h => ?_))
 ·obtain ⟨p,c,rfl,_⟩ := h
  rfl
 ·obtain ⟨p,c,rfl,hh,k⟩ := h
  have hqq : QB ((cxOf CX0 P w K mg base ["_law_hand"] "_law_sum" (defScope s_sum) f cdv A outer s H E).nox) (defBody s_sum) _ := (qb_one (qs_ret (qe_ix ix_list (qe_lst (qa_cn qe_str (qa_cn qe_str (qa_cn qe_str (qa_cn qe_str (qa_cn qe_str (qa_cn qe_str qa_nil))))))) (qe_callee C__law_draw (hr.mono (by first | decide | omega)) (by rfl) (qa_cn (qv 0) (qa_cn qe_int qa_nil))) (fun _ _ => rfl))))
  (with_reducible refine ⟨_,hqq.p,?_⟩)
  refine ⟨by show 6 ≤ sizeLine; decide,fun D1 e1 => ⟨_,rfl,p,c,6,rfl,hh.new _ e1,by decide,by decide,fun r2 H1 q0 q1 h1 b1 => ?_⟩⟩
  obtain ⟨y,hy,my⟩ := at_in (namV sumW) q0 q1
  obtain ⟨z,hz,rfl⟩ := List.mem_map.mp my
  exact ⟨D1,_,_,_,rfl,rfl,SqL.of (b1 _ _ upd_same (hh.nef e1)),hy,k z H1 hz h1 ((But.new _ e1).trans b1)⟩
theorem ok_nameL (L : Lk K mg "_law_name" s_name ["_law_k","_law_front","_law_stem"] f fd) (T : Txt mg) : Callee P w K mg base "_law_name" ["_law_k","_law_front","_law_stem"] 1 spNameL := by
 refine L.callee (L.F.ok sc_name (fun vs H Q E h => ?_) (fun cdv A outer s H vs Q E hr h => ?_))
 ·obtain ⟨k,b,st,rfl,_⟩ := h
  rfl
 ·obtain ⟨k,b,st,rfl,hk,hs,q⟩ := h
  have hqq : QB ((cxOf CX0 P w K mg base ["_law_k","_law_front","_law_stem"] "_law_name" (defScope s_name) f cdv A outer s H E).nox) (defBody s_name) _ := (qb_cn (qs_if (qt_val (qv 1)) (qb_one (qs_ret (qe_op op_add_str (qe_ix ix_str qe_str (qv 0) (fun _ _ => rfl)) (qv 2)))) qb_nil)
   (qb_one (qs_ret (qe_op op_add_str (qv 2) (qe_ix ix_str qe_str (qv 0) (fun _ _ => rfl))))))
  (with_reducible refine ⟨_,hqq.p,?_⟩)
  have ha : atI (("abcdefghijklmn" : Str)).cps.toList (k : Int) = some (97 + k) := atI_nat (j := k) (by
   have : ∀ k,k < 14 → (("abcdefghijklmn" : Str)).cps.toList[k]? = some (97 + k) := by decide +kernel
   exact this k hk)
  have ll : (("abcdefghijklmn" : Str)).length ≤ sizeLine := by decide +kernel
  have sl : (S st).length ≤ 7 := by rw [S_len]; exact (stems_ok st hs).1
  have l1 : (⟨#[97 + k]⟩ : Str).length = 1 := rfl
  cases b with
  | true =>
   refine ⟨_,rfl,_,rfl,iteT ⟨_,rfl,_,_,_,rfl,rfl,ll,ha,_,rfl,_,_,rfl,rfl,?_,?_⟩⟩
   ·rw [l1]; exact Nat.le_trans (show _ ≤ 8 by omega) (by decide)
   ·have e : S (mkName true k st) = S [97 + k] ++ S st := by rw [← S_app]; rfl
    rw [e] at q
    exact q
  | false =>
   refine ⟨_,rfl,_,rfl,iteF ⟨_,rfl,_,rfl,_,_,_,rfl,rfl,ll,ha,_,_,rfl,rfl,?_,?_⟩⟩
   ·rw [l1]; exact Nat.le_trans (show _ ≤ 8 by omega) (by decide)
   ·have e : S (mkName false k st) = S st ++ S [97 + k] := by rw [← S_app]; rfl
    rw [e] at q
    exact q
theorem ok_names (L : Lk K mg "_law_names" s_names ["_law_hand"] f fd) (T : Txt mg) (C__law_draw : Callee P w K mg base "_law_draw" ["_law_hand","_law_many"] 1 spDraw) (C__law_name : Callee P w K mg base "_law_name" ["_law_k","_law_front","_law_stem"] 1 spNameL) : Callee P w K mg base "_law_names" ["_law_hand"] 2 spNames := by
 refine L.callee (L.F.ok sc_names (fun vs H Q E h => ?_) (fun cdv A outer s H vs Q E hr h => ?_))
 ·obtain ⟨p,c,rfl,_⟩ := h
  rfl
 ·obtain ⟨p,c,rfl,hh,k⟩ := h
  have hqq : QB ((cxOf CX0 P w K mg base ["_law_hand","_law_front","_law_stems","_law_names_here","_law_some"] "_law_names" (defScope s_names) f cdv A outer s H E).nox) (defBody s_names) _ := (qb_cn (qs_set (i := 1) sc_names.nd rfl (Or.inr rfl) (qe_cmpR op_eq (qe_callee C__law_draw (hr.mono (by first | decide | omega)) (by rfl) (qa_cn (qv 0) (qa_cn qe_int qa_nil))) qe_int (nomark _)))
   (qb_cn (qs_set (i := 2) sc_names.nd rfl (Or.inr rfl) (qe_lst (qa_cn qe_str (qa_cn qe_str (qa_cn qe_str (qa_cn qe_str (qa_cn qe_str (qa_cn qe_str (qa_cn qe_str (qa_cn qe_str (qa_cn qe_str (qa_cn qe_str qa_nil))))))))))))
   (qb_cn (qs_comp (i := 3) ["_law_k"] ["_law_front","_law_stems","_law_hand"] [1,2,0] ["_law_hand","_law_front","_law_stems","_law_names_here","_law_some"] (defScope s_names).names rfl sc_names.nd rfl (Or.inl rfl) (qi_range1 rfl T.range (qa_cn qe_int qa_nil)) (fun _ _ _ _ _ => (qg_name (i := 0) (show (["_law_k","_law_front","_law_stems","_law_hand"] : List Str).Nodup by decide +kernel) rfl (Or.inl rfl))) (fun _ _ _ _ _ => qts_nil) (fun _ _ _ _ _ => (qe_callee C__law_name (hr.mono (by first | decide | omega)) (by rfl) (qa_cn (qv 0) (qa_cn (qv 1) (qa_cn (qe_ix (ix_listK K rfl) (qv 2) (qe_callee C__law_draw (hr.mono (by first | decide | omega)) (by rfl) (qa_cn (qv 3) (qa_cn qe_int qa_nil))) (fun _ _ => rfl)) qa_nil))))))
   (qb_cn (qs_set (i := 4) sc_names.nd rfl (Or.inl rfl) (qe_lst (qa_cn qe_str (qa_cn qe_str (qa_cn qe_str (qa_cn qe_str (qa_cn qe_str (qa_cn qe_str (qa_cn qe_str (qa_cn qe_str (qa_cn qe_str (qa_cn qe_str (qa_cn qe_str qa_nil)))))))))))))
   (qb_cn (qs_set (i := 4) sc_names.nd rfl (Or.inl rfl) (qe_op op_cat (qv 4) (qe_lst (qa_cn qe_str (qa_cn qe_str (qa_cn qe_str (qa_cn qe_str (qa_cn qe_str (qa_cn qe_str (qa_cn qe_str qa_nil))))))))))
   (qb_cn (qs_asg (qe_ix ix_list (qv 4) (qe_callee C__law_draw (hr.mono (by first | decide | omega)) (by rfl) (qa_cn (qv 0) (qa_cn qe_int qa_nil))) (fun _ _ => rfl)) (qg_sub (qv 3) (qe_callee C__law_draw (hr.mono (by first | decide | omega)) (by rfl) (qa_cn (qv 0) (qa_cn qe_int qa_nil))) set_list))
   (qb_one (qs_ret (qv 3)))))))))
  (with_reducible refine ⟨_,hqq.p,?_⟩)
  refine ⟨_,rfl,p,c,2,rfl,hh,by decide,by decide,fun r H1 _ _ h1 b1 => ⟨rfl,?_⟩⟩
  generalize decide (V.int r = V.int 0) = fr
  refine ⟨by show 10 ≤ sizeLine; decide,fun sa hsa => ?_⟩
  generalize e2 : upd H1 sa _ = H2
  have hsa2 : H2 sa = some (.lst (namV stems)) := by rw [← e2]; exact upd_same
  have b2 : But p H H2 := by rw [← e2]; exact b1.trans (But.new _ hsa)
  have h2 : Hand H2 p c := by rw [← e2]; exact h1.new _ hsa
  have sp := h1.nef hsa
  refine ⟨_,rfl,by decide,by decide,fun D hD => ?_⟩
  have Dp := h2.nef hD
  have Dc := h2.nec hD
  have nD : H D = none := h2.free b2 hD
  refine comp_range (n := 14) (fun i ys H' => ∃ zs,ys = namV zs ∧ zs.length = i ∧ (∀ (j : Nat) (z : List Nat),zs[j]? = some z → ∃ st,st ∈ stems ∧ z = mkName fr j st) ∧ Hand H' p c ∧ But p H2 H') ⟨[],rfl,rfl,(fun j z h => by simp at h),h2.new _ hD,But.new _ hD⟩ ?_ ?_
  ·rintro ys H3 ⟨zs,rfl,zl,hz,h3,b3⟩ hD3
   refine ⟨by show 11 ≤ sizeLine; decide,fun ta hta => ?_⟩
   generalize e4 : upd H3 ta _ = H4
   have hta4 : H4 ta = some (.lst (namV (someW.take 11))) := by rw [← e4]; exact upd_same
   have s4 : Same H3 H4 := by rw [← e4]; exact Same.new _ hta
   refine ⟨_,rfl,by show 7 ≤ sizeLine; decide,fun tb htb => ?_⟩
   generalize e5 : upd H4 tb _ = H5
   have htb5 : H5 tb = some (.lst (namV (someW.drop 11))) := by rw [← e5]; exact upd_same
   have s5 : Same H4 H5 := by rw [← e5]; exact Same.new _ htb
   refine ⟨ta,tb,_,_,rfl,rfl,s5 _ _ hta4,htb5,(by show 18 ≤ sizeLine; decide),fun tc htc => ?_⟩
   generalize e6 : upd H5 tc _ = H6
   have htc6 : H6 tc = some (.lst (namV someW)) := by rw [← e6]; exact upd_same
   have s6 : Same H5 H6 := by rw [← e6]; exact Same.new _ htc
   have s36 := (s4.trans s5).trans s6
   have h6 := h3.same s36
   refine ⟨_,rfl,_,rfl,p,c,18,rfl,h6,by decide,by decide,fun r2 H7 q0 q1 h7 b7 => ?_⟩
   obtain ⟨y,hy,my⟩ := at_in (namV someW) q0 q1
   obtain ⟨w',hw,rfl⟩ := List.mem_map.mp my
   have tcp : tc ≠ p := (h3.same (s4.trans s5)).nef htc
   refine ⟨tc,_,_,_,rfl,rfl,SqL.of (b7 _ _ htc6 tcp),hy,?_⟩
   have hD7 := b7 _ _ (s36 _ _ hD3) Dp
   refine ⟨_,rfl,_,rfl,p,c,14,rfl,h7,by decide,by decide,fun r3 H8 x0 x1 h8 b8 => ?_⟩
   have hD8 := b8 _ _ hD7 Dp
   refine ⟨D,_,r3,r3.toNat,rfl,rfl,hD8,?_,?_⟩
   ·unfold ixN namV
    rw [List.length_map,zl,if_pos x0,if_pos (by omega)]
   ·refine ⟨_,rfl,k (zs.set r3.toNat w') D _ (names_of zl hz hw) nD ?_ ?_ ?_⟩
    ·rw [upd_same]
     unfold namV
     rw [List.map_set]
    ·exact h8.other _ Dp Dc
    ·intro b o e ne
     rw [upd_ne (ne_of_none e nD)]
     exact b8 _ _ (b7 _ _ (s36 _ _ (b3 _ _ (b2 _ _ e ne) ne)) ne) ne
  ·rintro i ys H3 hi ⟨zs,rfl,zl,hz,h3,b3⟩ hD3
   refine ⟨rfl,_,rfl,_,rfl,_,rfl,_,rfl,p,c,10,rfl,h3,by decide,by decide,fun r2 H4 q0 q1 h4 b4 => ?_⟩
   obtain ⟨y,hy,my⟩ := at_in (namV stems) q0 q1
   obtain ⟨st,hs,rfl⟩ := List.mem_map.mp my
   refine ⟨sa,_,_,_,rfl,rfl,SqL.of (b4 _ _ (b3 _ _ hsa2 sp) sp),hy,i,fr,st,by rw [Int.zero_add]; rfl,hi,hs,b4 _ _ hD3 Dp,?_,nx hi ⟨zs ++ [mkName fr i st],?_,?_,?_,?_,?_⟩⟩
   ·unfold namV
    rw [List.length_map,zl]
    exact Nat.lt_trans hi (by decide)
   ·unfold namV
    rw [List.map_append]
    rfl
   ·rw [List.length_append,zl]; rfl
   ·intro j z hj
    rw [List.getElem?_append] at hj
    split at hj
    ·exact hz j z hj
    ·rename_i lt
     have : j - zs.length = 0 := by
      cases e : j - zs.length with
      | zero => rfl
      | succ m => rw [e] at hj; cases hj
     rw [this] at hj
     refine ⟨st,hs,?_⟩
     rw [← Option.some.inj hj]
     congr 1
     omega
   ·exact h4.other _ Dp Dc
   ·intro b o e ne
    rw [upd_ne (ne_of_none e hD)]
    exact b4 _ _ (b3 _ _ e ne) ne
end
end K85
end
section
set_option maxHeartbeats 4000000
namespace K85
open PySem L2 PyProof.Rows
abbrev s_row : Stmt := top 53
theorem sc_row : FnScope ["_law_hand","_law_name_here","_law_known","_law_kind","_law_first","_law_second","_law_ends","_law_hop","_law_how"] ["_law_hand","_law_name_here","_law_known","_law_kind"] (defScope s_row) := ⟨rfl,rfl,rfl,by decide +kernel,rfl,by decide +kernel,by decide +kernel⟩
theorem rdParts_cons {kn : List (List Nat)} {k : Kd} {ks : List Kd} {l : List Nat} {ls : List (List Nat)} {p : Pt} {ps : List Pt} (h1 : rdPart kn k l = some p) (h2 : rdParts kn ks ls = some ps) : rdParts kn (k :: ks) (l :: ls) = some (p :: ps) := by
 unfold rdParts
 rw [h1,h2]
def Fit (kn : List (List Nat)) (n : Nat) (ps : List Pt) : Prop := rdParts kn (formK n) (ps.map word) = some ps
theorem ten60 : ((10 : Int) ^ (60 : Int).toNat) = 1000000000000000000000000000000000000000000000000000000000000 := by decide +kernel
theorem ten60n : (10 : Nat) ^ 60 = 1000000000000000000000000000000000000000000000000000000000000 := by decide +kernel
theorem ten6 : ((10 : Int) ^ (6 : Int).toNat) = 1000000 := by decide +kernel
def spRowL : Sp := fun vs H Q _ => ∃ (p c ka : Addr) (z : List Nat) (kn : List (List Nat)) (n : Nat),vs = [.ref p,.str (S z),.ref ka,.str (S (formW n))] ∧ Hand H p c ∧ n < 9 ∧ H ka = some (.lst (namV kn)) ∧ ka ≠ p ∧ kn ≠ [] ∧ kn.length ≤ 100 ∧
 ∀ (ps : List Pt) (t : Addr) (H' : Hp),Fit kn n ps → goes n ps = true → H t = none → H' t = some (.tup (rowV ⟨z,n,ps⟩)) → Hand H' p c → But p H H' → Q (.ref t) H'
section
variable {P : Program} {w : World} {K : PySem.W.Frag} {mg : Str → Option Value} {base : Heap} {f : Addr} {fd : FuncData}
theorem ok_rowL (L : Lk K mg "_law_row" s_row ["_law_hand","_law_name_here","_law_known","_law_kind"] f fd) (T : Txt mg) (C__law_draw : Callee P w K mg base "_law_draw" ["_law_hand","_law_many"] 1 spDraw) (C__law_edge : Callee P w K mg base "_law_edge" ["_law_hand","_law_low","_law_high"] 3 spEdge) (C__law_sum : Callee P w K mg base "_law_sum" ["_law_hand"] 2 spSumL) : Callee P w K mg base "_law_row" ["_law_hand","_law_name_here","_law_known","_law_kind"] 4 spRowL := by
 refine L.callee (L.F.ok sc_row (fun vs H Q E h => ?_) (fun cdv A outer s H vs Q E hr h => ?_))
 ·obtain ⟨p,c,ka,z,kn,n,rfl,_⟩ := h
  rfl
 ·obtain ⟨p,c,ka,z,kn,n,rfl,hh,hn,hka,kp,k0,kl,k⟩ := h
  have hqq : QB ((cxOf CX0 P w K mg base ["_law_hand","_law_name_here","_law_known","_law_kind","_law_first","_law_second","_law_ends","_law_hop","_law_how"] "_law_row" (defScope s_row) f cdv A outer s H E).nox) (defBody s_row) _ := (qb_cn (qs_set (i := 4) sc_row.nd rfl (Or.inl rfl) (qe_ix ix_list (qv 2) (qe_callee C__law_draw (hr.mono (by first | decide | omega)) (by rfl) (qa_cn (qv 0) (qa_cn (qe_callB call_len_seq (by rfl) T.len PySem.boot_len (qa_cn (qv 2) qa_nil)) qa_nil))) (fun _ _ => rfl)))
   (qb_cn (qs_set (i := 5) sc_row.nd rfl (Or.inl rfl) (qe_ix ix_list (qv 2) (qe_callee C__law_draw (hr.mono (by first | decide | omega)) (by rfl) (qa_cn (qv 0) (qa_cn (qe_callB call_len_seq (by rfl) T.len PySem.boot_len (qa_cn (qv 2) qa_nil)) qa_nil))) (fun _ _ => rfl)))
   (qb_cn (qs_if (qt_cmpR op_eq (qv 3) qe_str (nomark _)) (qb_cn (qs_set (i := 6) sc_row.nd rfl (Or.inl rfl) (qe_lst (qa_cn (qe_callee C__law_edge (hr.mono (by first | decide | omega)) (by rfl) (qa_cn (qv 0) (qa_cn (qe_op op_add (qe_un un_neg (qe_op op_pow qe_int qe_int)) qe_int) (qa_cn (qe_op op_sub (qe_op op_pow qe_int qe_int) qe_int) qa_nil)))) (qa_cn (qe_callee C__law_edge (hr.mono (by first | decide | omega)) (by rfl) (qa_cn (qv 0) (qa_cn (qe_op op_add (qe_un un_neg (qe_op op_pow qe_int qe_int)) qe_int) (qa_cn (qe_op op_sub (qe_op op_pow qe_int qe_int) qe_int) qa_nil)))) qa_nil))))
   (qb_one (qs_ret (qe_tup (qa_cn (qv 1) (qa_cn (qv 3) (qa_cn (qv 4) (qa_cn (qe_callB (call_min_list hr.hd) (by rfl) T.min boot_min (qa_cn (qv 6) qa_nil)) (qa_cn (qe_callB (call_max_list hr.hd) (by rfl) T.max boot_max (qa_cn (qv 6) qa_nil)) qa_nil))))))))) qb_nil)
   (qb_cn (qs_if (qt_cmpR op_eq (qv 3) qe_str (nomark _)) (qb_one (qs_ret (qe_tup (qa_cn (qv 1) (qa_cn (qv 3) (qa_cn (qv 4) (qa_cn (qe_callee C__law_edge (hr.mono (by first | decide | omega)) (by rfl) (qa_cn (qv 0) (qa_cn (qe_un un_neg (qe_op op_pow qe_int qe_int)) (qa_cn (qe_op op_pow qe_int qe_int) qa_nil)))) (qa_cn (qe_callee C__law_edge (hr.mono (by first | decide | omega)) (by rfl) (qa_cn (qv 0) (qa_cn (qe_un un_neg (qe_op op_pow qe_int qe_int)) (qa_cn (qe_op op_pow qe_int qe_int) qa_nil)))) qa_nil)))))))) qb_nil)
   (qb_cn (qs_if (qt_cmpR op_eq (qv 3) qe_str (nomark _)) (qb_one (qs_ret (qe_tup (qa_cn (qv 1) (qa_cn (qv 3) (qa_cn (qv 4) (qa_cn (qv 5) qa_nil))))))) qb_nil)
   (qb_cn (qs_if (qt_cmpR op_eq (qv 3) qe_str (nomark _)) (qb_cn (qs_set (i := 7) sc_row.nd rfl (Or.inl rfl) (qe_callee C__law_edge (hr.mono (by first | decide | omega)) (by rfl) (qa_cn (qv 0) (qa_cn qe_int (qa_cn (qe_op op_pow qe_int qe_int) qa_nil)))))
   (qb_one (qs_ret (qe_tup (qa_cn (qv 1) (qa_cn (qv 3) (qa_cn (qv 4) (qa_cn (qe_callee C__law_edge (hr.mono (by first | decide | omega)) (by rfl) (qa_cn (qv 0) (qa_cn qe_int (qa_cn (qe_callB (call_min2 rfl) (by rfl) T.min boot_min (qa_cn (qe_op op_pow qe_int qe_int) (qa_cn (qe_op op_mul qe_int (qv 7)) qa_nil))) qa_nil)))) (qa_cn (qv 7) (qa_cn (qe_callee C__law_sum (hr.mono (by first | decide | omega)) (by rfl) (qa_cn (qv 0) qa_nil)) qa_nil)))))))))) qb_nil)
   (qb_cn (qs_if (qt_cmpR op_eq (qv 3) qe_str (nomark _)) (qb_one (qs_ret (qe_tup (qa_cn (qv 1) (qa_cn (qv 3) (qa_cn (qv 4) (qa_cn (qe_callee C__law_edge (hr.mono (by first | decide | omega)) (by rfl) (qa_cn (qv 0) (qa_cn qe_int (qa_cn (qe_op op_pow qe_int qe_int) qa_nil)))) (qa_cn (qe_callee C__law_sum (hr.mono (by first | decide | omega)) (by rfl) (qa_cn (qv 0) qa_nil)) qa_nil)))))))) qb_nil)
   (qb_cn (qs_if (qt_cmpR op_eq (qv 3) qe_str (nomark _)) (qb_one (qs_ret (qe_tup (qa_cn (qv 1) (qa_cn (qv 3) (qa_cn (qv 4) (qa_cn (qe_callee C__law_edge (hr.mono (by first | decide | omega)) (by rfl) (qa_cn (qv 0) (qa_cn qe_int (qa_cn qe_int qa_nil)))) (qa_cn (qe_callee C__law_sum (hr.mono (by first | decide | omega)) (by rfl) (qa_cn (qv 0) qa_nil)) qa_nil)))))))) qb_nil)
   (qb_cn (qs_if (qt_cmpR op_eq (qv 3) qe_str (nomark _)) (qb_one (qs_ret (qe_tup (qa_cn (qv 1) (qa_cn (qv 3) (qa_cn (qv 4) (qa_cn (qe_callee C__law_sum (hr.mono (by first | decide | omega)) (by rfl) (qa_cn (qv 0) qa_nil)) qa_nil))))))) qb_nil)
   (qb_cn (qs_if (qt_cmpR op_eq (qv 3) qe_str (nomark _)) (qb_cn (qs_set (i := 8) sc_row.nd rfl (Or.inl rfl) (qe_ix ix_list (qe_lst (qa_cn qe_str (qa_cn qe_str (qa_cn qe_str (qa_cn qe_str qa_nil))))) (qe_callee C__law_draw (hr.mono (by first | decide | omega)) (by rfl) (qa_cn (qv 0) (qa_cn qe_int qa_nil))) (fun _ _ => rfl)))
   (qb_one (qs_ret (qe_tup (qa_cn (qv 1) (qa_cn (qv 3) (qa_cn (qv 4) (qa_cn (qv 5) (qa_cn (qe_callee C__law_edge (hr.mono (by first | decide | omega)) (by rfl) (qa_cn (qv 0) (qa_cn qe_int (qa_cn (qe_op op_pow qe_int qe_int) qa_nil)))) (qa_cn (qv 8) qa_nil)))))))))) qb_nil)
   (qb_one (qs_ret (qe_tup (qa_cn (qv 1) (qa_cn (qv 3) (qa_cn (qv 4) (qa_cn (qv 5) (qa_cn (qe_callee C__law_edge (hr.mono (by first | decide | omega)) (by rfl) (qa_cn (qv 0) (qa_cn qe_int (qa_cn (qe_op op_pow qe_int qe_int) qa_nil)))) qa_nil))))))))))))))))))
  (with_reducible refine ⟨_,hqq.p,?_⟩)
  have lk : (namV kn).length = kn.length := List.length_map ..
  have k1 := List.length_pos_iff.mpr k0
  refine ⟨_,rfl,_,rfl,_,rfl,ka,_,rfl,.inl (SqL.of hka),p,c,_,rfl,hh,by rw [lk]; omega,by rw [lk]; omega,fun r1 H1 q0 q1 h1 b1 => ?_⟩
  obtain ⟨y1,hy1,my1⟩ := at_in (namV kn) q0 q1
  obtain ⟨u1,m1,rfl⟩ := List.mem_map.mp my1
  have hka1 := b1 _ _ hka kp
  refine ⟨ka,_,_,_,rfl,rfl,SqL.of hka1,hy1,?_⟩
  refine ⟨_,rfl,_,rfl,_,rfl,ka,_,rfl,.inl (SqL.of hka1),p,c,_,rfl,h1,by rw [lk]; omega,by rw [lk]; omega,fun r2 H2 q0 q1 h2 b2 => ?_⟩
  obtain ⟨y2,hy2,my2⟩ := at_in (namV kn) q0 q1
  obtain ⟨u2,m2,rfl⟩ := List.mem_map.mp my2
  have hka2 := b2 _ _ hka1 kp
  refine ⟨ka,_,_,_,rfl,rfl,SqL.of hka2,hy2,?_⟩
  have b12 := b1.trans b2
  have fin : ∀ (ps : List Pt) (H' : Hp) (t : Addr),Fit kn n ps → goes n ps = true → Hand H' p c → But p H H' → H' t = none → Q (.ref t) (upd H' t (.tup (rowV ⟨z,n,ps⟩))) := fun ps H' t hf hg h' b' ht =>
   k ps t _ hf hg (h'.free b' ht) upd_same (h'.new _ ht) (b'.trans (But.new _ ht))
  have : n = 0 ∨ n = 1 ∨ n = 2 ∨ n = 3 ∨ n = 4 ∨ n = 5 ∨ n = 6 ∨ n = 7 ∨ n = 8 := by omega
  rcases this with rfl | rfl | rfl | rfl | rfl | rfl | rfl | rfl | rfl
  ·refine ⟨_,rfl,rfl,_,rfl,iteT ?_⟩
   refine ⟨_,rfl,_,_,rfl,rfl,⟨by decide,by decide,by decide⟩,_,rfl,_,_,rfl,rfl,_,_,rfl,rfl,⟨by decide,by decide,by decide⟩,_,_,rfl,rfl,p,c,_,_,rfl,h2,by decide +kernel,fun x1 H3 l1 g1 h3 b3 => ⟨_,rfl,_,_,rfl,rfl,⟨by decide,by decide,by decide⟩,_,rfl,_,_,rfl,rfl,_,_,rfl,rfl,⟨by decide,by decide,by decide⟩,_,_,rfl,rfl,p,c,_,_,rfl,h3,by decide +kernel,fun x2 H4 l2 g2 h4 b4 => ⟨by show 2 ≤ sizeLine; decide,fun e he => ?_⟩⟩⟩
   have l1 : -((10 : Int) ^ (60 : Int).toNat) + 1 ≤ x1 := l1
   have g1 : x1 ≤ (10 : Int) ^ (60 : Int).toNat - 1 := g1
   have l2 : -((10 : Int) ^ (60 : Int).toNat) + 1 ≤ x2 := l2
   have g2 : x2 ≤ (10 : Int) ^ (60 : Int).toNat - 1 := g2
   rw [ten60] at l1 g1 l2 g2
   have h5 := h4.new (.lst [.int x1,.int x2]) he
   have b5 : But p H (upd H4 e (.lst [.int x1,.int x2])) := ((b12.trans b3).trans b4).trans (But.new _ he)
   have he5 : (upd H4 e (.lst [.int x1,.int x2])) e = some (.lst ([x1,x2].map V.int)) := upd_same
   refine ⟨_,rfl,_,rfl,_,rfl,_,rfl,e,[x1,x2],rfl,SqL.of he5,List.cons_ne_nil _ _,fun a ha la => ⟨_,rfl,e,[x1,x2],rfl,SqL.of he5,List.cons_ne_nil _ _,fun b hb gb => ⟨by show 5 ≤ sizeLine; decide,fun t ht => ?_⟩⟩⟩
   have w : ∀ x ∈ [x1,x2],within .val x := fun x hx => by
    show x.natAbs < 10 ^ 60
    rw [ten60n]
    rcases List.mem_cons.mp hx with rfl | hx
    ·omega
    ·rcases List.mem_cons.mp hx with rfl | hx
     ·omega
     ·cases hx
   refine fin [.nam u1,.num a,.num b] _ t ?_ (decide_eq_true (la b hb)) h5 b5 ht
   exact rdParts_cons (rdNam_of m1) (rdParts_cons (rdNum_of (w a ha)) (rdParts_cons (rdNum_of (w b hb)) rfl))
  ·refine ⟨_,rfl,rfl,_,rfl,iteF ⟨_,rfl,rfl,_,rfl,iteT ?_⟩⟩
   refine ⟨_,rfl,_,rfl,_,rfl,_,rfl,_,_,rfl,rfl,⟨by decide,by decide,by decide⟩,_,rfl,_,_,rfl,rfl,⟨by decide,by decide,by decide⟩,p,c,_,_,rfl,h2,by decide +kernel,fun x1 H3 l1 g1 h3 b3 => ⟨_,rfl,_,_,rfl,rfl,⟨by decide,by decide,by decide⟩,_,rfl,_,_,rfl,rfl,⟨by decide,by decide,by decide⟩,p,c,_,_,rfl,h3,by decide +kernel,fun x2 H4 l2 g2 h4 b4 => ⟨by show 5 ≤ sizeLine; decide,fun t ht => ?_⟩⟩⟩
   have l1 : -((10 : Int) ^ (6 : Int).toNat) ≤ x1 := l1
   have g1 : x1 ≤ (10 : Int) ^ (6 : Int).toNat := g1
   have l2 : -((10 : Int) ^ (6 : Int).toNat) ≤ x2 := l2
   have g2 : x2 ≤ (10 : Int) ^ (6 : Int).toNat := g2
   rw [ten6] at l1 g1 l2 g2
   refine fin [.nam u1,.num x1,.num x2] _ t ?_ rfl h4 ((b12.trans b3).trans b4) ht
   exact rdParts_cons (rdNam_of m1) (rdParts_cons (rdNum_of (k := .fac) (show x1.natAbs ≤ 1000000 by omega)) (rdParts_cons (rdNum_of (k := .fac) (show x2.natAbs ≤ 1000000 by omega)) rfl))
  ·refine ⟨_,rfl,rfl,_,rfl,iteF ⟨_,rfl,rfl,_,rfl,iteF ⟨_,rfl,rfl,_,rfl,iteT ?_⟩⟩⟩
   refine ⟨_,rfl,_,rfl,_,rfl,_,rfl,by show 4 ≤ sizeLine; decide,fun t ht => ?_⟩
   exact fin [.nam u1,.nam u2] _ t (rdParts_cons (rdNam_of m1) (rdParts_cons (rdNam_of m2) rfl)) rfl h2 b12 ht
  ·refine ⟨_,rfl,rfl,_,rfl,iteF ⟨_,rfl,rfl,_,rfl,iteF ⟨_,rfl,rfl,_,rfl,iteF ⟨_,rfl,rfl,_,rfl,iteT ?_⟩⟩⟩⟩
   refine ⟨_,rfl,_,_,rfl,rfl,⟨by decide,by decide,by decide⟩,p,c,_,_,rfl,h2,by decide +kernel,fun x1 H3 l1 g1 h3 b3 => ?_⟩
   have g1 : x1 ≤ (10 : Int) ^ (6 : Int).toNat := g1
   rw [ten6] at g1
   have mi : ∀ j : Int,j = 60 * x1 → (1 : Int) ≤ (if j < (10 : Int) ^ (6 : Int).toNat then j else (10 : Int) ^ (6 : Int).toNat) := fun j e => by
    rw [ten6]
    split <;> omega
   refine ⟨_,rfl,_,rfl,_,rfl,_,rfl,_,_,rfl,rfl,⟨by decide,by decide,by decide⟩,_,rfl,_,_,rfl,rfl,mulL (by decide) (by decide),_,_,rfl,p,c,_,_,rfl,h3,mi _ rfl,fun x2 H4 l2 g2 h4 b4 => ⟨_,rfl,_,rfl,p,c,rfl,h4,fun y H5 my h5 b5 => ⟨by show 6 ≤ sizeLine; decide,fun t ht => ?_⟩⟩⟩
   have g2 : x2 ≤ (if 60 * x1 < (10 : Int) ^ (6 : Int).toNat then 60 * x1 else (10 : Int) ^ (6 : Int).toNat) := g2
   rw [ten6] at g2
   have g3 : x2 ≤ 60 * x1 ∧ x2 ≤ 1000000 := by
    split at g2 <;> omega
   exact fin [.nam u1,.num x2,.num x1,.nam y] _ t (rdParts_cons (rdNam_of m1) (rdParts_cons (rdNum_of (k := .len) ⟨l2,g3.2⟩) (rdParts_cons (rdNum_of (k := .len) ⟨l1,g1⟩) (rdParts_cons (rdNam_of my) rfl)))) (decide_eq_true g3.1) h5 (((b12.trans b3).trans b4).trans b5) ht
  ·refine ⟨_,rfl,rfl,_,rfl,iteF ⟨_,rfl,rfl,_,rfl,iteF ⟨_,rfl,rfl,_,rfl,iteF ⟨_,rfl,rfl,_,rfl,iteF ⟨_,rfl,rfl,_,rfl,iteT ?_⟩⟩⟩⟩⟩
   refine ⟨_,rfl,_,rfl,_,rfl,_,rfl,_,_,rfl,rfl,⟨by decide,by decide,by decide⟩,p,c,_,_,rfl,h2,by decide +kernel,fun x1 H3 l1 g1 h3 b3 => ⟨_,rfl,p,c,rfl,h3,fun y H4 my h4 b4 => ⟨by show 5 ≤ sizeLine; decide,fun t ht => ?_⟩⟩⟩
   have g1 : x1 ≤ (10 : Int) ^ (6 : Int).toNat := g1
   rw [ten6] at g1
   exact fin [.nam u1,.num x1,.nam y] _ t (rdParts_cons (rdNam_of m1) (rdParts_cons (rdNum_of (k := .dis) ⟨l1,g1⟩) (rdParts_cons (rdNam_of my) rfl))) rfl h4 ((b12.trans b3).trans b4) ht
  ·refine ⟨_,rfl,rfl,_,rfl,iteF ⟨_,rfl,rfl,_,rfl,iteF ⟨_,rfl,rfl,_,rfl,iteF ⟨_,rfl,rfl,_,rfl,iteF ⟨_,rfl,rfl,_,rfl,iteF ⟨_,rfl,rfl,_,rfl,iteT ?_⟩⟩⟩⟩⟩⟩
   refine ⟨_,rfl,_,rfl,_,rfl,_,rfl,p,c,_,_,rfl,h2,by decide +kernel,fun x1 H3 l1 g1 h3 b3 => ⟨_,rfl,p,c,rfl,h3,fun y H4 my h4 b4 => ⟨by show 5 ≤ sizeLine; decide,fun t ht => ?_⟩⟩⟩
   exact fin [.nam u1,.num x1,.nam y] _ t (rdParts_cons (rdNam_of m1) (rdParts_cons (rdNum_of (k := .many) ⟨l1,g1⟩) (rdParts_cons (rdNam_of my) rfl))) rfl h4 ((b12.trans b3).trans b4) ht
  ·refine ⟨_,rfl,rfl,_,rfl,iteF ⟨_,rfl,rfl,_,rfl,iteF ⟨_,rfl,rfl,_,rfl,iteF ⟨_,rfl,rfl,_,rfl,iteF ⟨_,rfl,rfl,_,rfl,iteF ⟨_,rfl,rfl,_,rfl,iteF ⟨_,rfl,rfl,_,rfl,iteT ?_⟩⟩⟩⟩⟩⟩⟩
   refine ⟨_,rfl,_,rfl,_,rfl,_,rfl,p,c,rfl,h2,fun y H4 my h4 b4 => ⟨by show 4 ≤ sizeLine; decide,fun t ht => ?_⟩⟩
   exact fin [.nam u1,.nam y] _ t (rdParts_cons (rdNam_of m1) (rdParts_cons (rdNam_of my) rfl)) rfl h4 (b12.trans b4) ht
  ·refine ⟨_,rfl,rfl,_,rfl,iteF ⟨_,rfl,rfl,_,rfl,iteF ⟨_,rfl,rfl,_,rfl,iteF ⟨_,rfl,rfl,_,rfl,iteF ⟨_,rfl,rfl,_,rfl,iteF ⟨_,rfl,rfl,_,rfl,iteF ⟨_,rfl,rfl,_,rfl,iteF ⟨_,rfl,rfl,_,rfl,iteT ?_⟩⟩⟩⟩⟩⟩⟩⟩
   refine ⟨by show 4 ≤ sizeLine; decide,fun D1 e1 => ⟨_,rfl,p,c,4,rfl,h2.new _ e1,by decide,by decide,fun r4 H3 q0 q1 h3 b3 => ?_⟩⟩
   obtain ⟨y,hy,my⟩ := at_in (namV howW) q0 q1
   obtain ⟨v,mv,rfl⟩ := List.mem_map.mp my
   have b3' := (But.new (p := p) _ e1).trans b3
   refine ⟨D1,_,_,_,rfl,rfl,SqL.of (b3 _ _ upd_same (h2.nef e1)),hy,?_⟩
   refine ⟨_,rfl,_,rfl,_,rfl,_,rfl,_,rfl,_,_,rfl,rfl,⟨by decide,by decide,by decide⟩,p,c,_,_,rfl,h3,by decide +kernel,fun x1 H4 l1 g1 h4 b4 => ⟨_,rfl,by show 6 ≤ sizeLine; decide,fun t ht => ?_⟩⟩
   have g1 : x1 ≤ (10 : Int) ^ (6 : Int).toNat := g1
   rw [ten6] at g1
   exact fin [.nam u1,.nam u2,.num x1,.nam v] _ t (rdParts_cons (rdNam_of m1) (rdParts_cons (rdNam_of m2) (rdParts_cons (rdNum_of (k := .dis) ⟨l1,g1⟩) (rdParts_cons (rdNam_of mv) rfl)))) rfl h4 ((b12.trans b3').trans b4) ht
  ·refine ⟨_,rfl,rfl,_,rfl,iteF ⟨_,rfl,rfl,_,rfl,iteF ⟨_,rfl,rfl,_,rfl,iteF ⟨_,rfl,rfl,_,rfl,iteF ⟨_,rfl,rfl,_,rfl,iteF ⟨_,rfl,rfl,_,rfl,iteF ⟨_,rfl,rfl,_,rfl,iteF ⟨_,rfl,rfl,_,rfl,iteF ?_⟩⟩⟩⟩⟩⟩⟩⟩
   refine ⟨_,rfl,_,rfl,_,rfl,_,rfl,_,rfl,_,_,rfl,rfl,⟨by decide,by decide,by decide⟩,p,c,_,_,rfl,h2,by decide +kernel,fun x1 H4 l1 g1 h4 b4 => ⟨by show 5 ≤ sizeLine; decide,fun t ht => ?_⟩⟩
   have g1 : x1 ≤ (10 : Int) ^ (6 : Int).toNat := g1
   rw [ten6] at g1
   exact fin [.nam u1,.nam u2,.num x1] _ t (rdParts_cons (rdNam_of m1) (rdParts_cons (rdNam_of m2) (rdParts_cons (rdNum_of (k := .dis) ⟨l1,g1⟩) rfl))) rfl h4 (b12.trans b4) ht
end
end K85
end
section
set_option maxHeartbeats 4000000
namespace K85
open PySem L2 PyProof.Rows
abbrev s_rows : Stmt := top 54
theorem sc_rows : FnScope ["_law_hand","_law_names_here","_law_many","_law_pairs","_law_kinds","_law_streams","_law_rows_here","_law_k","_law_kind","_law_known"] ["_law_hand","_law_names_here","_law_many","_law_pairs"] (defScope s_rows) := ⟨rfl,rfl,rfl,by decide +kernel,rfl,by decide +kernel,by decide +kernel⟩
structure Valid (kn : List (List Nat)) (r : Row) : Prop where
 n9 : r.n < 9
 nm : isName r.z
 nw : r.z ∉ kn
 ft : Fit kn r.n r.ps
 go : goes r.n r.ps = true
def Good : List (List Nat) → List Row → Prop
 | _,[] => True
 | kn,r :: rs => Valid kn r ∧ Good (kn ++ [r.z]) rs
theorem Good.snoc {r : Row} : ∀ {rs : List Row} {kn : List (List Nat)},Good kn rs → Valid (kn ++ rs.map Row.z) r → Good kn (rs ++ [r])
 | [],kn,_,v => by
  rw [List.map_nil,List.append_nil] at v
  exact ⟨v,trivial⟩
 | a :: rs,kn,g,v => by
  refine ⟨g.1,g.2.snoc ?_⟩
  rw [List.append_assoc]
  exact v
theorem But.tx {p : Addr} {H H' : Hp} {c : Addr} (b : But p H H') (h : Hand H p c) : TupX H H' := fun t vs e => b _ _ e fun z => by
 obtain ⟨d,n,cs,hp,_⟩ := h
 rw [z,hp] at e
 cases e
def spRowsL : Sp := fun vs H Q _ => ∃ (p c na : Addr) (zs : List (List Nat)) (many : Nat) (pr : Int),vs = [.ref p,.ref na,.int (many : Int),.int pr] ∧ Hand H p c ∧ H na = some (.lst (namV zs)) ∧ Names zs ∧ na ≠ p ∧ many ≤ 10 ∧ 0 ≤ pr ∧
 ∀ (st : List (List Nat)) (rs : List Row) (us : List V) (sa ra t : Addr) (H' : Hp),st ≠ [] → st.length ≤ 3 → (∀ z ∈ st,isName z) → Good st rs → rs.length = many → (pairsOf rs : Int) ≤ pr → H sa = none → H ra = none → sa ≠ ra → H' t = some (.tup [.ref sa,.ref ra]) → H' sa = some (.lst (namV st)) → H' ra = some (.lst us) → TupsAt H' us rs → Hand H' p c → But p H H' → Q (.ref t) H'
structure RInv (p c na ka sa ra : Addr) (zs st : List (List Nat)) (pr : Int) (H : Hp) (i : Nat) (H' : Hp) (rs : List Row) (us : List V) (pl : Int) : Prop where
 ka : H' ka = some (.lst (namV ((List.range 9).map formW)))
 sa : H' sa = some (.lst (namV st))
 ra : H' ra = some (.lst us)
 tu : TupsAt H' us rs
 ln : rs.length = i
 gd : Good st rs
 nm : st ++ rs.map Row.z = zs.take (st.length + i)
 pp : 0 ≤ pl → (pairsOf rs : Int) + pl = pr
 pn : pl < 0 → (pairsOf rs : Int) = pr
 hd : Hand H' p c
 bt : But p H H'
theorem nam_at {kn : List (List Nat)} {i : Nat} {z : List Nat} (h : kn[i]? = some z) : atI (namV kn) (i : Int) = some (.str (S z)) := atI_nat (by unfold namV; rw [List.getElem?_map,h]; rfl)
theorem take_S {zs : List (List Nat)} {m : Nat} {z : List Nat} (h : zs[m]? = some z) : zs.take (m + 1) = zs.take m ++ [z] := by rw [List.take_add_one,h]; rfl
theorem asg_go {j : Nat} {x : V} {σ : L2.St} {H : Hp} {t : TS} {D : Ends} (h : t D (σ.set j (some x)) H) : (fun x H1 => gName j x σ H1 ({ D with nx := t D } : Ends).nx) x H := h
theorem seq_by {a b : TS} {D : Ends} {σ : L2.St} {H : Hp} (J : L2.St → Hp → Prop) (h1 : ∀ D' : Ends,(∀ σ H,J σ H → D'.nx σ H) → a D' σ H) (h2 : ∀ σ H,J σ H → b D σ H) : tSeq a b D σ H := h1 _ h2
theorem pairs_snoc (rs : List Row) (z : List Nat) (n : Nat) (ps : List Pt) : ((pairsOf (rs ++ [⟨z,n,ps⟩]) : Nat) : Int) = (pairsOf rs : Int) + (if n = 7 then 1 else 0) := by
 unfold pairsOf
 rw [List.filter_append,List.length_append]
 by_cases h : n = 7
 ·rw [if_pos h,List.filter_cons_of_pos (by simpa using h)]
  simp
 ·rw [if_neg h,List.filter_cons_of_neg (by simpa using h)]
  simp
section
variable {P : Program} {w : World} {K : PySem.W.Frag} {mg : Str → Option Value} {base : Heap} {f : Addr} {fd : FuncData}
theorem ok_rowsL (L : Lk K mg "_law_rows" s_rows ["_law_hand","_law_names_here","_law_many","_law_pairs"] f fd) (T : Txt mg) (C__law_draw : Callee P w K mg base "_law_draw" ["_law_hand","_law_many"] 1 spDraw) (C__law_row : Callee P w K mg base "_law_row" ["_law_hand","_law_name_here","_law_known","_law_kind"] 4 spRowL) : Callee P w K mg base "_law_rows" ["_law_hand","_law_names_here","_law_many","_law_pairs"] 5 spRowsL := by
 refine L.callee (L.F.ok sc_rows (fun vs H Q E h => ?_) (fun cdv A outer s H vs Q E hr h => ?_))
 ·obtain ⟨p,c,na,zs,many,pr,rfl,_⟩ := h
  rfl
 ·obtain ⟨p,c,na,zs,many,pr,rfl,hh,hna,nz,np,hm,hpr,k⟩ := h
  have hqq : QB ((cxOf CX0 P w K mg base ["_law_hand","_law_names_here","_law_many","_law_pairs","_law_kinds","_law_streams","_law_rows_here","_law_k","_law_kind","_law_known"] "_law_rows" (defScope s_rows) f cdv A outer s H E).nox) (defBody s_rows) _ := (qb_cn (qs_set (i := 4) sc_rows.nd rfl (Or.inl rfl) (qe_lst (qa_cn qe_str (qa_cn qe_str (qa_cn qe_str (qa_cn qe_str (qa_cn qe_str (qa_cn qe_str (qa_cn qe_str (qa_cn qe_str (qa_cn qe_str qa_nil)))))))))))
   (qb_cn (qs_set (i := 5) sc_rows.nd rfl (Or.inl rfl) (qe_slice sl_list (qv 1) qo_none (qo_some (qe_op op_add qe_int (qe_callee C__law_draw (hr.mono (by first | decide | omega)) (by rfl) (qa_cn (qv 0) (qa_cn qe_int qa_nil)))))))
   (qb_cn (qs_set (i := 6) sc_rows.nd rfl (Or.inl rfl) (qe_lst qa_nil))
   (qb_cn (qs_for PassesOwn.never rfl (qi_range1 rfl T.range (qa_cn (qv 2) qa_nil)) (qg_name (i := 7) sc_rows.nd rfl (Or.inl rfl)) (qb_cn (qs_set (i := 8) sc_rows.nd rfl (Or.inl rfl) (qe_ix ix_list (qv 4) (qe_callee C__law_draw (hr.mono (by first | decide | omega)) (by rfl) (qa_cn (qv 0) (qa_cn qe_int qa_nil))) (fun _ _ => rfl)))
   (qb_cn (qs_if (qt_cmpR op_eq (qv 8) qe_str (nomark _)) (qb_cn (qs_set (i := 3) sc_rows.nd rfl (Or.inl rfl) (qe_op op_sub (qv 3) qe_int))
   (qb_one (qs_if (qt_cmpR op_lt (qv 3) qe_int (nomark _)) (qb_one (qs_set (i := 8) sc_rows.nd rfl (Or.inl rfl) qe_str)) qb_nil))) qb_nil)
   (qb_cn (qs_set (i := 9) sc_rows.nd rfl (Or.inl rfl) (qe_op op_cat (qv 5) (qe_comp ["_law_row_here"] [] [] ["_law_hand","_law_names_here","_law_many","_law_pairs","_law_kinds","_law_streams","_law_rows_here","_law_k","_law_kind","_law_known"] (defScope s_rows).names rfl (qi_list (qv 6)) (fun _ _ _ _ _ => (qg_name (i := 0) (show (["_law_row_here"] : List Str).Nodup by decide +kernel) rfl (Or.inl rfl))) (fun _ _ _ _ _ => qts_nil) (fun _ _ _ _ _ => (qe_ix (ix_tupK K rfl) (qv 0) qe_int (fun _ _ => rfl))))))
   (qb_one (qs_expr (qe_bm PySem.F.plainAttrs_list PySem.F.slot_list_append PySem.F.type_list_append mt_append (qv 6) (qa_cn (qe_callee C__law_row (hr.mono (by first | decide | omega)) (by rfl) (qa_cn (qv 0) (qa_cn (qe_ix ix_list (qv 1) (qe_op op_add (qe_callB call_len_seq (by rfl) T.len PySem.boot_len (qa_cn (qv 5) qa_nil)) (qv 7)) (fun _ _ => rfl)) (qa_cn (qv 9) (qa_cn (qv 8) qa_nil))))) qa_nil))))))))
   (qb_one (qs_ret (qe_tup (qa_cn (qv 5) (qa_cn (qv 6) qa_nil)))))))))
  (with_reducible refine ⟨_,hqq.p,?_⟩)
  refine ⟨by show 9 ≤ sizeLine; decide,fun ka hka => ?_⟩
  generalize e1 : upd H ka _ = H1
  have hka1 : H1 ka = some (.lst (namV ((List.range 9).map formW))) := by rw [← e1]; exact upd_same
  have s1 : Same H H1 := by rw [← e1]; exact Same.new _ hka
  have h1 := hh.same s1
  have kp := hh.nef hka
  have kc := hh.nec hka
  refine ⟨_,rfl,_,rfl,p,c,3,rfl,h1,by decide,by decide,fun r H2 q0 q1 h2 b2 => ⟨_,_,rfl,rfl,_,rfl,na,_,rfl,SqL.of (b2 _ _ (s1 _ _ hna) np),fun sa hsa => ?_⟩⟩
  obtain ⟨j,rfl⟩ := Int.eq_ofNat_of_zero_le q0
  have zl := nz.1
  have lz : (namV zs).length = 14 := by unfold namV; rw [List.length_map,zl]
  have ec : cutV (namV zs) none (some (1 + (j : Int))) = namV (zs.take (j + 1)) := by
   have := cut_to (namV zs) (j + 1) (by omega)
   rw [show ((j + 1 : Nat) : Int) = 1 + (j : Int) by omega] at this
   rw [this]
   unfold namV
   rw [List.map_take]
  rw [ec]
  have tl : (zs.take (j + 1)).length = j + 1 := by rw [List.length_take,zl]; omega
  have nst : ∀ z ∈ zs.take (j + 1),isName z := fun z hz => nz.2.1 z (List.mem_of_mem_take hz)
  have st0 : zs.take (j + 1) ≠ [] := fun z => by rw [z] at tl; cases tl
  have stn : zs.take (zs.take (j + 1)).length = zs.take (j + 1) := by rw [tl]
  generalize zs.take (j + 1) = st at tl nst st0 stn ⊢
  have b12 : But p H H2 := (Same.but s1).trans b2
  have nsa : H sa = none := h2.free b12 hsa
  have sp := h2.nef hsa
  have sc := h2.nec hsa
  have sk : ka ≠ sa := ne_of_none (b2 _ _ hka1 kp) hsa
  generalize e3 : upd H2 sa _ = H3
  have hsa3 : H3 sa = some (.lst (namV st)) := by rw [← e3]; exact upd_same
  have s3 : Same H2 H3 := by rw [← e3]; exact Same.new _ hsa
  have hka3 := s3 _ _ (b2 _ _ hka1 kp)
  have hna3 := s3 _ _ (b2 _ _ (s1 _ _ hna) np)
  have h3 := h2.same s3
  have b3 : But p H H3 := b12.trans (Same.but s3)
  refine ⟨by show 0 ≤ sizeLine; decide,fun ra hra => ?_⟩
  have nra : H ra = none := h3.free b3 hra
  have rp := h3.nef hra
  have rc := h3.nec hra
  have rk : ka ≠ ra := ne_of_none hka3 hra
  have rs' : sa ≠ ra := ne_of_none hsa3 hra
  have rn : na ≠ ra := ne_of_none hna3 hra
  generalize e4 : upd H3 ra _ = H4
  have hra4 : H4 ra = some (.lst []) := by rw [← e4]; exact upd_same
  have s4 : Same H3 H4 := by rw [← e4]; exact Same.new _ hra
  refine ⟨_,rfl,_,rfl,by omega,by omega,?_⟩
  refine for_range (n := many) (fun i σ H' => ∃ rs us pl o7 o8 o9,σ = [some (.ref p),some (.ref na),some (.int (many : Int)),some (.int pl),some (.ref ka),some (.ref sa),some (.ref ra),o7,o8,o9] ∧ RInv p c na ka sa ra zs st pr H i H' rs us pl)
   ⟨[],[],pr,none,none,none,rfl,⟨s4 _ _ hka3,s4 _ _ hsa3,hra4,trivial,rfl,trivial,by rw [List.map_nil,List.append_nil,Nat.add_zero,stn],fun _ => Int.zero_add _,fun z => by omega,h3.same s4,b3.trans (Same.but s4)⟩⟩ ?_ ?_
  ·rintro i σ H5 hi ⟨rs,us,pl,o7,o8,o9,rfl,I⟩
   have hi : i < many := hi
   have hna5 : H5 na = some (.lst (namV zs)) := I.bt _ _ hna np
   refine ⟨_,rfl,_,rfl,p,c,9,rfl,I.hd,by decide,by decide,fun r6 H6 q0 q1 h6 b6 => ?_⟩
   obtain ⟨m,rfl⟩ := Int.eq_ofNat_of_zero_le q0
   have hm9 : m < 9 := by omega
   have em : atI (namV ((List.range 9).map formW)) (m : Int) = some (.str (S (formW m))) := nam_at (by
    rw [List.getElem?_map,List.getElem?_range hm9]
    rfl)
   refine ⟨ka,_,_,_,rfl,rfl,SqL.of (b6 _ _ I.ka kp),em,?_⟩
   have tu6 := I.tu.mono (b6.tx I.hd)
   have sa6 := b6 _ _ I.sa sp
   have ra6 := b6 _ _ I.ra rp
   have ka6 := b6 _ _ I.ka kp
   have na6 := b6 _ _ hna5 np
   have ln := I.ln
   refine asg_go ?_
   refine seq_by (fun σ H' => ∃ (n : Nat) (pl' : Int),n < 9 ∧ (0 ≤ pl' → (pairsOf rs : Int) + (if n = 7 then 1 else 0) + pl' = pr) ∧ (pl' < 0 → (pairsOf rs : Int) + (if n = 7 then 1 else 0) = pr) ∧ H' = H6 ∧ σ = [some (.ref p),some (.ref na),some (.int (many : Int)),some (.int pl'),some (.ref ka),some (.ref sa),some (.ref ra),some (.int (0 + (i : Int))),some (.str (S (formW n))),o9]) (fun D' hD' => ?_) ?_
   ·refine ⟨_,rfl,rfl,_,rfl,?_⟩
    have e7 : decide (V.str (S (formW m)) = V.str (S (formW 7))) = decide (m = 7) := by
     rw [Bool.eq_iff_iff,decide_eq_true_iff,decide_eq_true_iff]
     exact ⟨fun q => form_inj hm9 (by decide) (S_inj (V.str.inj q)),fun q => by rw [q]⟩
    refine (show if decide (V.str (S (formW m)) = V.str (S (formW 7))) = true then _ else _ from ?_)
    rw [e7]
    by_cases m7 : m = 7
    ·subst m7
     rw [decide_eq_true rfl]
     refine iteT ⟨_,rfl,_,_,rfl,rfl,_,rfl,_,_,rfl,rfl,_,rfl,?_⟩
     by_cases pz : pl - 1 < 0
     ·rw [decide_eq_true pz]
      refine iteT (hD' _ _ ⟨8,pl - 1,by decide,fun z => by omega,fun z => ?_,rfl,rfl⟩)
      rw [if_neg (by decide)]
      by_cases p0 : pl < 0
      ·have := I.pn p0; omega
      ·have := I.pp (by omega); omega
     ·rw [decide_eq_false pz]
      refine iteF (hD' _ _ ⟨7,pl - 1,by decide,fun z => ?_,fun z => by omega,rfl,rfl⟩)
      rw [if_pos rfl]
      have := I.pp (by omega)
      omega
    ·rw [decide_eq_false m7]
     refine iteF (hD' _ _ ⟨m,pl,hm9,fun z => ?_,fun z => ?_,rfl,rfl⟩)
     ·rw [if_neg m7]; have := I.pp z; omega
     ·rw [if_neg m7]; have := I.pn z; omega
   ·rintro σ H7 ⟨n,pl',hn,c1,c2,rfl,rfl⟩
    refine ⟨_,rfl,_,rfl,ra,rfl,⟨_,SqL.of ra6⟩,fun D hD => ?_⟩
    have lu := tu6.length
    refine comp_list (K := K) (a := ra) (xs := us) (fun i ys H' => ys = namV ((rs.take i).map Row.z) ∧ Same H7 H') ⟨rfl,Same.new _ hD⟩ (fun i ys H' _ ⟨_,s'⟩ => SqL.of (s' _ _ ra6)) ?_ ?_
    ·rintro ys H8 ⟨rfl,s8⟩ hD8
     rw [lu,List.take_length] at hD8
     refine ⟨sa,D,_,_,rfl,rfl,s8 _ _ sa6,hD8,?_,fun q hq => ?_⟩
     ·unfold namV
      rw [List.length_map,List.length_map,List.length_map]
      exact Nat.le_trans (show _ ≤ 20 by omega) (by decide)
     have ek : namV st ++ namV (rs.map Row.z) = namV (zs.take (st.length + i)) := by
      rw [← I.nm]
      unfold namV
      rw [List.map_append]
     rw [ek]
     generalize e9 : upd H8 q _ = H9
     have hq9 : H9 q = some (.lst (namV (zs.take (st.length + i)))) := by rw [← e9]; exact upd_same
     have s9 : Same H7 H9 := by rw [← e9]; exact s8.trans (Same.new _ hq)
     have qp : q ≠ p := (h6.same s8).nef hq
     have h9 := h6.same s9
     obtain ⟨z,hz⟩ : ∃ z,zs[st.length + i]? = some z := ⟨_,List.getElem?_eq_getElem (by omega)⟩
     have zn : isName z := nz.2.1 z (List.mem_of_getElem? hz)
     have znew : z ∉ zs.take (st.length + i) := fun h => by
      obtain ⟨m',hm'⟩ := List.getElem?_of_mem h
      have lt : m' < st.length + i := by
       have := (List.getElem?_eq_some_iff.mp hm').1
       rw [List.length_take] at this
       omega
      rw [List.getElem?_take,if_pos lt] at hm'
      have := nz.2.2 m' _ z hm' hz
      omega
     have st1 := List.length_pos_iff.mpr st0
     have kl : (zs.take (st.length + i)).length = st.length + i := by rw [List.length_take]; omega
     have nz9 : atI (namV zs) ((st.length : Int) + (0 + (i : Int))) = some (.str (S z)) := by
      have := nam_at hz
      rw [show ((st.length + i : Nat) : Int) = (st.length : Int) + (0 + (i : Int)) by omega] at this
      exact this
     have lst : ((namV st).length : Int) = (st.length : Int) := by unfold namV; rw [List.length_map]
     refine ⟨_,rfl,.inl ⟨rfl,_,SqL.of (s9 _ _ ra6)⟩,_,rfl,_,rfl,_,rfl,sa,_,rfl,.inl (SqL.of (s9 _ _ sa6)),_,rfl,_,_,rfl,rfl,na,_,_,_,rfl,rfl,SqL.of (s9 _ _ na6),by rw [lst]; exact nz9,_,rfl,_,rfl,p,c,q,z,zs.take (st.length + i),n,rfl,h9,hn,hq9,qp,?_,by omega,fun ps t H10 ft go nt ht h10 b10 => ?_⟩
     ·intro z0
      rw [z0] at kl
      have : 0 = st.length + i := kl
      omega
     have ra10 := b10 _ _ (s9 _ _ ra6) rp
     have sa10 := b10 _ _ (s9 _ _ sa6) sp
     have ka10 := b10 _ _ (s9 _ _ ka6) kp
     refine ⟨ra,us,_,rfl,rfl,ra10,Nat.lt_of_lt_of_le (show us.length < 11 by omega) (by decide),?_⟩
     have x1 : TupX H10 (upd H10 ra (.lst (us ++ [.ref t]))) := TupX.upd fun vs z => by rw [ra10] at z; cases z
     have tu10 := (tu6.mono (SameX.of s9).tx).mono (b10.tx h9)
     refine ⟨rs ++ [⟨z,n,ps⟩],us ++ [.ref t],pl',_,_,_,rfl,⟨?_,?_,upd_same,(tu10.mono x1).snoc (x1 _ _ ht),?_,I.gd.snoc ⟨hn,zn,?_,?_,go⟩,?_,?_,?_,h10.other _ rp rc,?_⟩⟩
     ·rw [upd_ne rk]; exact ka10
     ·rw [upd_ne rs']; exact sa10
     ·rw [List.length_append,ln]; rfl
     ·show z ∉ st ++ rs.map Row.z
      rw [I.nm]
      exact znew
     ·show Fit (st ++ rs.map Row.z) n ps
      rw [I.nm]
      exact ft
     ·rw [List.map_append,← List.append_assoc,I.nm]
      exact (take_S hz).symm
     ·intro z0
      have := c1 z0
      rw [pairs_snoc]
      exact this
     ·intro z0
      have := c2 z0
      rw [pairs_snoc]
      exact this
     ·intro b o e ne
      rw [upd_ne (ne_of_none e nra)]
      exact b10 _ _ (s9 _ _ (b6 _ _ (I.bt _ _ e ne) ne)) ne
    ·rintro i' x ys H8 hx ⟨rfl,s8⟩ hD8
     have hi' : i' < us.length := (List.getElem?_eq_some_iff.mp hx).1
     obtain ⟨t,r,rfl,hr',ht⟩ := tu6.get hx
     refine ⟨rfl,_,rfl,t,_,_,_,rfl,rfl,SqT.of (s8 _ _ ht),atI_nat (j := 0) rfl,hD8,?_,nx hi' ⟨?_,?_⟩⟩
     ·unfold namV
      rw [List.length_map,List.length_map,List.length_take]
      exact Nat.lt_of_le_of_lt (show _ ≤ 20 by omega) (by decide)
     ·rw [take_snocS hr']
      unfold namV
      rw [List.map_append,List.map_append]
      rfl
     ·intro b o e
      rw [upd_ne (ne_of_none e hD)]
      exact s8 _ _ e
  ·rintro σ H5 ⟨rs,us,pl,o7,o8,o9,rfl,I⟩
   refine ⟨_,rfl,_,rfl,by show 2 ≤ sizeLine; decide,fun t ht => ?_⟩
   have n6 := Same.new (.tup [.ref sa,.ref ra]) ht
   refine k st rs us sa ra t _ st0 (by omega) nst I.gd I.ln ?_ nsa nra rs' upd_same (n6 _ _ I.sa) (n6 _ _ I.ra) (I.tu.mono (SameX.of n6).tx) (I.hd.same n6) (I.bt.trans (Same.but n6))
   by_cases q : 0 ≤ pl
   ·have := I.pp q; omega
   ·have := I.pn (by omega); omega
end
end K85
end
section
set_option maxHeartbeats 4000000
namespace K85
open PySem L2 PyProof.Rows
abbrev s_same : Stmt := top 56
theorem sc_same : FnScope ["_law_one","_law_due_here"] ["_law_one","_law_due_here"] (defScope s_same) := ⟨rfl,rfl,rfl,by decide +kernel,rfl,by decide +kernel,by decide +kernel⟩
theorem part_sane {kn : List (List Nat)} (hk : ∀ z ∈ kn,isName z) {k : Kd} {l : List Nat} {p : Pt} (h : rdPart kn k l = some p) : sane p := by
 have n : ∀ {ws : List (List Nat)},(∀ z ∈ ws,z.length ≤ 8) → rdNam ws l = some p → sane p := by
  intro ws hw h
  unfold rdNam at h
  split at h
  ·rename_i q; cases h; exact hw l q
  ·cases h
 have m : ∀ {k : Kd},rdNum k l = some p → sane p := by
  intro k h
  unfold rdNum at h
  split at h
  ·split at h
   ·rename_i q; cases h; exact within_small q
   ·cases h
  ·cases h
 cases k
 case frm => exact n (fun z hz => (hk z hz).2.1) h
 case how => exact n (by decide) h
 case sum => exact n (by decide) h
 all_goals exact m h
theorem parts_sane {kn : List (List Nat)} (hk : ∀ z ∈ kn,isName z) : ∀ {ks : List Kd} {ls : List (List Nat)} {ps : List Pt},rdParts kn ks ls = some ps → ∀ p ∈ ps,sane p
 | [],ls,ps,h,p,hp => by
  rw [parts_nil h] at hp
  cases hp
 | k :: ks,ls,ps,h,p,hp => by
  obtain ⟨l,ls',p',ps',rfl,rfl,e1,e2⟩ := parts_cons h
  rcases List.mem_cons.mp hp with rfl | hp
  ·exact part_sane hk e1
  ·exact parts_sane hk e2 p hp
theorem formW_len {n : Nat} (h : n < 9) : (formW n).length ≤ 8 := by
 have : ∀ n,n < 9 → (formW n).length ≤ 8 := by decide
 exact this n h
theorem Valid.sane {kn : List (List Nat)} (hk : ∀ z ∈ kn,isName z) {r : Row} (v : Valid kn r) : saneR r := by
 refine ⟨fun p hp => ?_,?_⟩
 ·rcases List.mem_cons.mp hp with rfl | hp
  ·exact v.nm.2.1
  ·rcases List.mem_cons.mp hp with rfl | hp
   ·exact formW_len v.n9
   ·exact parts_sane hk v.ft p hp
 ·have := (rdParts_len v.ft).1
  have := form_len v.n9
  omega
theorem Good.sane : ∀ {rs : List Row} {kn : List (List Nat)},(∀ z ∈ kn,isName z) → Good kn rs → ∀ r ∈ rs,saneR r
 | [],_,_,_,r,hr => by cases hr
 | a :: rs,kn,hk,g,r,hr => by
  rcases List.mem_cons.mp hr with rfl | hr
  ·exact g.1.sane hk
  ·refine g.2.sane (fun z hz => ?_) r hr
   rcases List.mem_append.mp hz with h | h
   ·exact hk z h
   ·rw [List.mem_singleton.mp h]; exact g.1.nm
def Alike (H : Hp) : Nat → V → V → Prop
 | 0,x,y => ∃ p : Pt,x = valP p ∧ y = valP p
 | d + 1,x,y => (∃ p : Pt,x = valP p ∧ y = valP p) ∨ ∃ (a b : Addr) (xs ys : List V),x = .ref a ∧ y = .ref b ∧ ((H a = some (.lst xs) ∧ H b = some (.lst ys)) ∨ (H a = some (.tup xs) ∧ H b = some (.tup ys))) ∧ xs.length = ys.length ∧ xs.length ≤ 100 ∧
   ∀ (i : Nat) (u v : V),xs[i]? = some u → ys[i]? = some v → Alike H d u v
theorem Alike.mono {H H' : Hp} (s : Same H H') : ∀ {d : Nat} {x y : V},Alike H d x y → Alike H' d x y
 | 0,_,_,h => h
 | d + 1,_,_,.inl h => .inl h
 | d + 1,_,_,.inr ⟨a,b,xs,ys,e1,e2,h,l1,l2,k⟩ => .inr ⟨a,b,xs,ys,e1,e2,h.imp (fun q => ⟨s _ _ q.1,s _ _ q.2⟩) (fun q => ⟨s _ _ q.1,s _ _ q.2⟩),l1,l2,fun i u v hu hv => (k i u v hu hv).mono s⟩
def spSame (d : Nat) : Sp := fun vs H Q _ => ∃ (x y : V),vs = [x,y] ∧ Alike H d x y ∧ ∀ H',Same H H' → Q (.bl true) H'
theorem all_true (n : Nat) : (List.replicate n true).all id = true := by
 induction n with
 | zero => rfl
 | succ n ih => rw [List.replicate_succ,List.all_cons,ih]; rfl
section
variable {P : Program} {w : World} {K : PySem.W.Frag} {mg : Str → Option Value} {base : Heap} {f : Addr} {fd : FuncData}
theorem same_step (L : Lk K mg "_law_same" s_same ["_law_one","_law_due_here"] f fd) (T : Txt mg) (d : Nat) (spR : Sp) (hR : ∀ q,d = q + 1 → spR = spSame q) (C__law_same : Callee P w K mg base "_law_same" ["_law_one","_law_due_here"] (d + 1) spR) : Callee P w K mg base "_law_same" ["_law_one","_law_due_here"] (d + 2) (spSame d) := by
 refine L.callee (L.F.ok sc_same (fun vs H Q E h => ?_) (fun cdv A outer s H vs Q E hr h => ?_))
 ·obtain ⟨x,y,rfl,_⟩ := h
  rfl
 ·obtain ⟨x,y,rfl,al,k⟩ := h
  have cs : (∃ p : Pt,x = valP p ∧ y = valP p) ∨ ∃ q,d = q + 1 ∧ ∃ (a b : Addr) (xs ys : List V),x = .ref a ∧ y = .ref b ∧ ((H a = some (.lst xs) ∧ H b = some (.lst ys)) ∨ (H a = some (.tup xs) ∧ H b = some (.tup ys))) ∧ xs.length = ys.length ∧ xs.length ≤ 100 ∧
    ∀ (i : Nat) (u v : V),xs[i]? = some u → ys[i]? = some v → Alike H q u v := by
   cases d with
   | zero => exact .inl al
   | succ q =>
    rcases al with h | h
    ·exact .inl h
    ·exact .inr ⟨q,rfl,h⟩
  have hqq : QB ((cxOf CX0 P w K mg base ["_law_one","_law_due_here"] "_law_same" (defScope s_same) f cdv A outer s H E).nox) (defBody s_same) _ := (qb_cn (qs_if (qt_val (qe_callB call_isinstT (by rfl) T.isinstance boot_isinstance (qa_cn (qv 1) (qa_cn (qe_tup (qa_cn (qe_bltn (v := .ty "list") (by rfl) T.list boot_list rfl) (qa_cn (qe_bltn (v := .ty "tuple") (by rfl) T.tuple boot_tuple rfl) qa_nil))) qa_nil)))) (qb_cn (qs_if (qw_pt (qw_or (qt_cmpR op_ne (qe_callB call_isinst (by rfl) T.isinstance boot_isinstance (qa_cn (qv 0) (qa_cn (qe_bltn (v := .ty "list") (by rfl) T.list boot_list rfl) qa_nil))) (qe_callB call_isinst (by rfl) T.isinstance boot_isinstance (qa_cn (qv 1) (qa_cn (qe_bltn (v := .ty "list") (by rfl) T.list boot_list rfl) qa_nil))) (nomark _)) (qw_or1 (qt_cmpR op_ne (qe_callB call_isinst (by rfl) T.isinstance boot_isinstance (qa_cn (qv 0) (qa_cn (qe_bltn (v := .ty "tuple") (by rfl) T.tuple boot_tuple rfl) qa_nil))) (qe_callB call_isinst (by rfl) T.isinstance boot_isinstance (qa_cn (qv 1) (qa_cn (qe_bltn (v := .ty "tuple") (by rfl) T.tuple boot_tuple rfl) qa_nil))) (nomark _))))) (qb_one (qs_ret qe_bl)) qb_nil)
   (qb_one (qs_ret (qe_and (qe_cmpR op_eq (qe_callB call_len_seq (by rfl) T.len PySem.boot_len (qa_cn (qv 0) qa_nil)) (qe_callB call_len_seq (by rfl) T.len PySem.boot_len (qa_cn (qv 1) qa_nil)) (nomark _)) (qe_one (qe_callB (call_all_list hr.hd) (by rfl) T.all boot_all (qa_cn (qe_comp ["_law_k"] ["_law_one","_law_due_here"] [0,1] ["_law_one","_law_due_here"] (defScope s_same).names rfl (qi_range1 rfl T.range (qa_cn (qe_callB call_len_seq (by rfl) T.len PySem.boot_len (qa_cn (qv 1) qa_nil)) qa_nil)) (fun _ _ _ _ _ => (qg_name (i := 0) (show (["_law_k","_law_one","_law_due_here"] : List Str).Nodup by decide +kernel) rfl (Or.inl rfl))) (fun _ _ _ _ _ => qts_nil) (fun _ _ _ _ _ => (qe_callee C__law_same (hr.mono (by first | decide | omega)) (by rfl) (qa_cn (qe_ix (ix_seqK K rfl) (qv 1) (qv 0) (fun _ _ => rfl)) (qa_cn (qe_ix (ix_seqK K rfl) (qv 2) (qv 0) (fun _ _ => rfl)) qa_nil))))) qa_nil))))))) qb_nil)
   (qb_cn (qs_if (qt_val (qe_callB call_isinst (by rfl) T.isinstance boot_isinstance (qa_cn (qv 0) (qa_cn (qe_bltn (v := .ty "bool") (by rfl) T.bool boot_bool rfl) qa_nil)))) (qb_one (qs_ret qe_bl)) qb_nil)
   (qb_cn (qs_if (qt_val (qe_callB call_isinst (by rfl) T.isinstance boot_isinstance (qa_cn (qv 1) (qa_cn (qe_bltn (v := .ty "int") (by rfl) T.int boot_int rfl) qa_nil)))) (qb_one (qs_ret (qe_and (qe_callB call_isinst (by rfl) T.isinstance boot_isinstance (qa_cn (qv 0) (qa_cn (qe_bltn (v := .ty "int") (by rfl) T.int boot_int rfl) qa_nil))) (qe_one (qe_cmpR op_eq (qv 0) (qv 1) (nomark _)))))) qb_nil)
   (qb_cn (qs_if (qt_val (qe_callB call_isinst (by rfl) T.isinstance boot_isinstance (qa_cn (qv 1) (qa_cn (qe_bltn (v := .ty "str") (by rfl) T.str boot_str rfl) qa_nil)))) (qb_one (qs_ret (qe_and (qe_callB call_isinst (by rfl) T.isinstance boot_isinstance (qa_cn (qv 0) (qa_cn (qe_bltn (v := .ty "str") (by rfl) T.str boot_str rfl) qa_nil))) (qe_one (qe_cmpR op_eq (qv 0) (qv 1) (nomark _)))))) qb_nil)
   (qb_one (qs_ret (qe_cmpR op_isN (qv 0) qe_non (nomark _))))))))
  (with_reducible refine ⟨_,hqq.p,?_⟩)
  refine ⟨_,rfl,by show 2 ≤ sizeLine; decide,fun t ht => ?_⟩
  have n1 := Same.new (.tup [.ty "list",.ty "tuple"]) ht
  generalize et : upd H t _ = H1
  have ht1 : H1 t = some (.tup (["list","tuple"].map V.ty)) := by rw [← et]; exact upd_same
  have n1 : Same H H1 := by rw [← et]; exact n1
  rcases cs with ⟨p,rfl,rfl⟩ | ⟨q,rfl,a,b,xs,ys,rfl,rfl,ho,el,l100,ch⟩
  ·cases p with
   | num i =>
    refine ⟨_,t,_,_,false,rfl,ht1,.int _,rfl,_,rfl,iteF ?_⟩
    refine ⟨_,rfl,_,_,_,_,rfl,.int _,rfl,_,rfl,iteF ?_⟩
    refine ⟨_,rfl,_,_,_,_,rfl,.int _,rfl,_,rfl,iteT ?_⟩
    refine ⟨_,rfl,_,_,_,_,rfl,.int _,rfl,_,rfl,iteT ?_⟩
    refine ⟨_,rfl,_,rfl,rfl,?_⟩
    rw [decide_eq_true rfl]
    exact k H1 n1
   | nam z =>
    refine ⟨_,t,_,_,false,rfl,ht1,.str _,rfl,_,rfl,iteF ?_⟩
    refine ⟨_,rfl,_,_,_,_,rfl,.str _,rfl,_,rfl,iteF ?_⟩
    refine ⟨_,rfl,_,_,_,_,rfl,.str _,rfl,_,rfl,iteF ?_⟩
    refine ⟨_,rfl,_,_,_,_,rfl,.str _,rfl,_,rfl,iteT ?_⟩
    refine ⟨_,rfl,_,_,_,_,rfl,.str _,rfl,_,rfl,iteT ?_⟩
    refine ⟨_,rfl,_,rfl,rfl,?_⟩
    rw [decide_eq_true rfl]
    exact k H1 n1
  ·have hR := hR q rfl
   subst hR
   have h1 : ∀ H',Same H H' → SqL K H' a xs ∨ SqT K H' a xs := fun H' s => ho.imp (fun h => SqL.of (s _ _ h.1)) (fun h => SqT.of (s _ _ h.1))
   have h2 : ∀ H',Same H H' → SqL K H' b ys ∨ SqT K H' b ys := fun H' s => ho.imp (fun h => SqL.of (s _ _ h.2)) (fun h => SqT.of (s _ _ h.2))
   have ix : ∀ {H' : Hp} {a : Addr} {xs : List V} {i : Nat} {z : V} {Q : V → Hp → Prop},SqL K H' a xs ∨ SqT K H' a xs → xs[i]? = some z → Q z H' → rIx K (.ref a) (.int (0 + i)) H' Q := fun {H' a xs i z Q} h e q => by
    have e' : atI xs (0 + (i : Int)) = some z := by
     rw [Int.zero_add]
     exact atI_nat e
    rcases h with h | h
    ·exact .inl ⟨a,xs,_,z,rfl,rfl,h,e',q⟩
    ·exact .inr (.inl ⟨a,xs,_,z,rfl,rfl,h,e',q⟩)
   rcases ho with ⟨ha,hb⟩ | ⟨ha,hb⟩
   ·have ha1 := n1 _ _ ha
    have hb1 := n1 _ _ hb
    refine ⟨_,t,_,_,true,rfl,ht1,.lst hb1,rfl,_,rfl,iteT ?_⟩
    refine ⟨_,rfl,_,_,_,_,rfl,.lst ha1,rfl,_,rfl,_,_,_,_,rfl,.lst hb1,rfl,rfl,_,rfl,iteF ?_⟩
    refine ⟨_,rfl,_,_,_,_,rfl,.lst ha1,rfl,_,rfl,_,_,_,_,rfl,.lst hb1,rfl,rfl,_,rfl,iteF ?_⟩
    refine ⟨_,rfl,a,xs,rfl,h1 H1 n1,_,rfl,b,ys,rfl,h2 H1 n1,rfl,?_⟩
    refine ⟨_,rfl,?_⟩
    rw [el,decide_eq_true rfl]
    refine iteT ?_
    refine ⟨_,rfl,b,ys,rfl,h2 H1 n1,ys.length,rfl,by omega,by omega,fun D hD => ?_⟩
    refine comp_range (n := ((ys.length : Int)).toNat) (fun i zs H' => zs = (List.replicate i true).map V.bl ∧ Same H1 H') ⟨rfl,Same.new _ hD⟩ ?_ ?_
    ·rintro zs H' ⟨rfl,s'⟩ hD'
     refine ⟨D,_,rfl,SqL.of hD',?_⟩
     rw [all_true]
     exact k H' (n1.trans s')
    ·rintro i zs H' hi ⟨rfl,s'⟩ hD'
     have hi : i < ys.length := by omega
     have hx' : xs[i]? = some (xs[i]'(by omega)) := List.getElem?_eq_getElem _
     have hy' : ys[i]? = some ys[i] := List.getElem?_eq_getElem _
     refine ⟨rfl,_,rfl,_,rfl,ix (h1 H' (n1.trans s')) hx' ⟨_,rfl,_,rfl,ix (h2 H' (n1.trans s')) hy' ?_⟩⟩
     refine ⟨_,_,rfl,(ch i _ _ hx' hy').mono (n1.trans s'),fun H2 s2 => ⟨s2 _ _ hD',?_,nx (by omega) ⟨?_,?_⟩⟩⟩
     ·rw [List.length_map,List.length_replicate]
      exact Nat.lt_of_le_of_lt (show i ≤ 100 by omega) (by decide)
     ·rw [List.replicate_succ',List.map_append]
      rfl
     ·intro b o e
      rw [upd_ne (ne_of_none e hD)]
      exact s2 b o (s' b o e)
   ·have ha1 := n1 _ _ ha
    have hb1 := n1 _ _ hb
    refine ⟨_,t,_,_,true,rfl,ht1,.tup hb1,rfl,_,rfl,iteT ?_⟩
    refine ⟨_,rfl,_,_,_,_,rfl,.tup ha1,rfl,_,rfl,_,_,_,_,rfl,.tup hb1,rfl,rfl,_,rfl,iteF ?_⟩
    refine ⟨_,rfl,_,_,_,_,rfl,.tup ha1,rfl,_,rfl,_,_,_,_,rfl,.tup hb1,rfl,rfl,_,rfl,iteF ?_⟩
    refine ⟨_,rfl,a,xs,rfl,h1 H1 n1,_,rfl,b,ys,rfl,h2 H1 n1,rfl,?_⟩
    refine ⟨_,rfl,?_⟩
    rw [el,decide_eq_true rfl]
    refine iteT ?_
    refine ⟨_,rfl,b,ys,rfl,h2 H1 n1,ys.length,rfl,by omega,by omega,fun D hD => ?_⟩
    refine comp_range (n := ((ys.length : Int)).toNat) (fun i zs H' => zs = (List.replicate i true).map V.bl ∧ Same H1 H') ⟨rfl,Same.new _ hD⟩ ?_ ?_
    ·rintro zs H' ⟨rfl,s'⟩ hD'
     refine ⟨D,_,rfl,SqL.of hD',?_⟩
     rw [all_true]
     exact k H' (n1.trans s')
    ·rintro i zs H' hi ⟨rfl,s'⟩ hD'
     have hi : i < ys.length := by omega
     have hx' : xs[i]? = some (xs[i]'(by omega)) := List.getElem?_eq_getElem _
     have hy' : ys[i]? = some ys[i] := List.getElem?_eq_getElem _
     refine ⟨rfl,_,rfl,_,rfl,ix (h1 H' (n1.trans s')) hx' ⟨_,rfl,_,rfl,ix (h2 H' (n1.trans s')) hy' ?_⟩⟩
     refine ⟨_,_,rfl,(ch i _ _ hx' hy').mono (n1.trans s'),fun H2 s2 => ⟨s2 _ _ hD',?_,nx (by omega) ⟨?_,?_⟩⟩⟩
     ·rw [List.length_map,List.length_replicate]
      exact Nat.lt_of_le_of_lt (show i ≤ 100 by omega) (by decide)
     ·rw [List.replicate_succ',List.map_append]
      rfl
     ·intro b o e
      rw [upd_ne (ne_of_none e hD)]
      exact s2 b o (s' b o e)
theorem ok_same (L : Lk K mg "_law_same" s_same ["_law_one","_law_due_here"] f fd) (T : Txt mg) : ∀ d,Callee P w K mg base "_law_same" ["_law_one","_law_due_here"] (d + 2) (spSame d)
 | 0 => same_step L T 0 (fun _ _ _ _ => False) (fun q z => by cases z) (L.callee (L.F.ok sc_same (fun _ _ _ _ h => h.elim) (fun _ _ _ _ _ _ _ _ _ h => h.elim)))
 | d + 1 => same_step L T (d + 1) (spSame d) (fun q z => by cases z; rfl) (ok_same L T d)
end
end K85
end
section
set_option maxHeartbeats 4000000
namespace K85
open PySem L2 PyProof.Rows
abbrev s_is_name' : Stmt := top 62
theorem sc_is_name' : FnScope ["_law_word"] ["_law_word"] (defScope s_is_name') := ⟨rfl,rfl,rfl,by decide +kernel,rfl,by decide +kernel,by decide +kernel⟩
abbrev s_sign : Stmt := top 58
theorem sc_sign : FnScope ["_law_hand","_law_some"] ["_law_hand"] (defScope s_sign) := ⟨rfl,rfl,rfl,by decide +kernel,rfl,by decide +kernel,by decide +kernel⟩
abbrev s_odd : Stmt := top 57
theorem sc_odd : FnScope ["_law_hand","_law_names_here","_law_way","_law_some"] ["_law_hand","_law_names_here"] (defScope s_odd) := ⟨rfl,rfl,rfl,by decide +kernel,rfl,by decide +kernel,by decide +kernel⟩
def TellsT (p c : Addr) (m : Nat) (H : Hp) (Q : VK) : Prop := ∀ (l : List Nat) (H' : Hp),l.length ≤ m → Hand H' p c → But p H H' → Q (.str (S l)) H'
def spSgn : Sp := fun vs H Q _ => ∃ (p c : Addr),vs = [.ref p] ∧ Hand H p c ∧ TellsT p c 1 H Q
def spOdd : Sp := fun vs H Q _ => ∃ (p c na : Addr) (zs : List (List Nat)),vs = [.ref p,.ref na] ∧ Hand H p c ∧ H na = some (.lst (namV zs)) ∧ na ≠ p ∧ zs.length = 14 ∧ (∀ z ∈ zs,z.length ≤ 8) ∧ TellsT p c 4000 H Q
theorem at_inS {α : Type} (l : List α) {r : Int} (h0 : 0 ≤ r) (h1 : r < l.length) : ∃ c,atI l r = some c := by
 obtain ⟨c,h,_⟩ := at_in l h0 h1
 exact ⟨c,h⟩
theorem str_len (z : Str) : z.cps.toList.length = z.length := by rw [Array.length_toList]; rfl
theorem rep_len (x k : Nat) : (List.replicate k [x]).flatten.length = k := by
 induction k with
 | zero => rfl
 | succ k ih => rw [List.replicate_succ,List.flatten_cons,List.length_append,ih]; show 1 + k = k + 1; omega
theorem two_len (a b : List Nat) (h : a.length + b.length ≤ 900000) : (S a).length + (S b).length ≤ sizeLine := by rw [S_len,S_len]; exact Nat.le_trans h (by decide)
def ShortT (x : V) : Prop := ∃ t : List Nat,x = .str (S t) ∧ t.length ≤ 4000
theorem short_lit (z : Str) (h : z.cps.toList.length ≤ 4000) : ShortT (.str z) := ⟨z.cps.toList,congrArg V.str (L2.S_of z),h⟩
theorem lt300 {n : Nat} (h : n < 10 ^ 61) : n < 10 ^ 300 := Nat.lt_of_lt_of_le h (Nat.pow_le_pow_right (by decide) (by decide))
section
variable {P : Program} {w : World} {K : PySem.W.Frag} {mg : Str → Option Value} {base : Heap} {f : Addr} {fd : FuncData}
theorem ok_lname (L : Lk K mg "_law_is_name" s_is_name' ["_law_word"] f fd) (T : Txt mg) : Callee P w K mg base "_law_is_name" ["_law_word"] 1 spName := by
 refine L.callee (L.F.ok sc_is_name' (fun vs H Q E h => ?_) (fun cdv A outer s H vs Q E hr h => ?_))
 ·obtain ⟨x,rfl,_⟩ := h
  rfl
 ·obtain ⟨z,rfl,hz,k⟩ := h
  have lz : (S z).length ≤ sizeLine := by rw [S_len]; exact Nat.le_trans hz (by decide)
  have hqq : QB ((cxOf CX0 P w K mg base ["_law_word"] "_law_is_name" (defScope s_is_name') f cdv A outer s H E).nox) (defBody s_is_name') _ := (qb_cn (qs_if (qw_pt (qw_or (qt_cmpR op_eq (qv 0) qe_str (nomark _)) (qw_or1 (qt_cmpR op_gt (qe_callB call_len_str (by rfl) T.len PySem.boot_len (qa_cn (qv 0) qa_nil)) qe_int (nomark _))))) (qb_one (qs_ret qe_bl)) qb_nil)
   (qb_one (qs_ret (qe_callB (call_all_list hr.hd) (by rfl) T.all boot_all (qa_cn (qe_comp ["_law_sign_here"] [] [] ["_law_word"] (defScope s_is_name').names rfl (qi_str (qv 0)) (fun _ _ _ _ _ => (qg_name (i := 0) (show (["_law_sign_here"] : List Str).Nodup by decide +kernel) rfl (Or.inl rfl))) (fun _ _ _ _ _ => qts_nil) (fun _ _ _ _ _ => (qe_cmpR op_in_str (qv 0) qe_str rfl))) qa_nil)))))
  (with_reducible refine ⟨_,hqq.p,?_⟩)
  have no : ¬ isName z → tRet (tC (.bl false)) { nx := fun _ H' => Q .non H',rt := Q } (start ["_law_word"] [.str (S z)]) H := fun n => by
   rw [decide_eq_false n] at k
   exact k H (Same.refl H)
  refine ⟨_,rfl,rfl,_,rfl,?_⟩
  refine (show if decide (V.str (S z) = V.str (S [])) = true then _ else _ from ?_)
  by_cases e0 : z = []
  ·rw [decide_eq_true (congrArg (fun l => V.str (S l)) e0)]
   exact iteT (iteT (no fun q => by have := q.1; rw [e0] at this; exact absurd this (by decide)))
  rw [decide_eq_false (fun q => e0 (S_inj (V.str.inj q)))]
  have e1 : 1 ≤ z.length := List.length_pos_iff.mpr e0
  refine iteF ⟨_,rfl,S z,rfl,lz,_,_,rfl,rfl,_,rfl,?_⟩
  by_cases e2 : z.length ≤ 8
  ·rw [decide_eq_false (show ¬ (8 : Int) < ((S z).length : Int) by rw [S_len]; omega)]
   refine iteF ⟨_,rfl,S z,rfl,fun D hD => ?_⟩
   refine comp_str (fun i ys H' => ys = ((z.take i).map fun c => V.bl (decide (97 ≤ c ∧ c ≤ 122))) ∧ Same H H') ⟨rfl,Same.new _ hD⟩ ?_ ?_
   ·rintro ys H' ⟨rfl,s'⟩ hD'
    have e : z.take (S z).cps.size = z := List.take_of_length_le (by show z.length ≤ z.toArray.size; simp)
    rw [e] at hD'
    refine ⟨D,z.map fun c => decide (97 ≤ c ∧ c ≤ 122),rfl,SqL.of (by rw [hD',List.map_map]; rfl),?_⟩
    have en : (z.map fun c => decide (97 ≤ c ∧ c ≤ 122)).all id = decide (isName z) := by
     rw [Bool.eq_iff_iff,List.all_eq_true,decide_eq_true_iff]
     unfold isName
     constructor
     ·intro q
      exact ⟨e1,e2,fun c hc => of_decide_eq_true (q _ (List.mem_map.mpr ⟨c,hc,rfl⟩))⟩
     ·rintro ⟨_,_,q⟩ b hb
      obtain ⟨c,hc,rfl⟩ := List.mem_map.mp hb
      exact decide_eq_true (q c hc)
    rw [en]
    exact k H' s'
   ·rintro i c ys H' hc ⟨rfl,s'⟩ hD'
    have hi : i < (S z).cps.size := (Array.getElem?_eq_some_iff.mp hc).1
    have hc' : z[i]? = some c := by
     have : (S z).cps.toList[i]? = some c := by simpa using hc
     rwa [S_list] at this
    refine ⟨rfl,_,rfl,_,_,rfl,rfl,?_⟩
    refine (show (_ : Prop) from ?_)
    rw [show (!(Builtin.Str.occurrences (Str.ofString "abcdefghijklmnopqrstuvwxyz") (⟨#[c]⟩ : Str) 0 (Str.ofString "abcdefghijklmnopqrstuvwxyz").length 1).isEmpty) = decide (97 ≤ c ∧ c ≤ 122) from inLET c]
    refine ⟨hD',?_,nx hi ⟨?_,?_⟩⟩
    ·rw [List.length_map,List.length_take]
     exact Nat.lt_of_le_of_lt (show _ ≤ 8 by omega) (by decide)
    ·rw [List.take_add_one,hc',List.map_append]
     rfl
    ·intro b o e
     rw [upd_ne (ne_of_none e hD)]
     exact s' b o e
  ·rw [decide_eq_true (show (8 : Int) < ((S z).length : Int) by rw [S_len]; omega)]
   exact iteT (no fun q => e2 q.2.1)
theorem ok_sgn (L : Lk K mg "_law_sign" s_sign ["_law_hand"] f fd) (T : Txt mg) (C__law_draw : Callee P w K mg base "_law_draw" ["_law_hand","_law_many"] 1 spDraw) : Callee P w K mg base "_law_sign" ["_law_hand"] 2 spSgn := by
 refine L.callee (L.F.ok sc_sign (fun vs H Q E h => ?_) (fun cdv A outer s H vs Q E hr h => ?_))
 ·obtain ⟨p,c,rfl,_⟩ := h
  rfl
 ·obtain ⟨p,c,rfl,hh,k⟩ := h
  have hqq : QB ((cxOf CX0 P w K mg base ["_law_hand","_law_some"] "_law_sign" (defScope s_sign) f cdv A outer s H E).nox) (defBody s_sign) _ := (qb_cn (qs_set (i := 1) sc_sign.nd rfl (Or.inl rfl) qe_str)
   (qb_cn (qs_if (qt_cmpR op_eq (qe_callee C__law_draw (hr.mono (by first | decide | omega)) (by rfl) (qa_cn (qv 0) (qa_cn qe_int qa_nil))) qe_int (nomark _)) (qb_one (qs_ret (qe_ix ix_str (qv 1) (qe_callee C__law_draw (hr.mono (by first | decide | omega)) (by rfl) (qa_cn (qv 0) (qa_cn (qe_callB call_len_str (by rfl) T.len PySem.boot_len (qa_cn (qv 1) qa_nil)) qa_nil))) (fun _ _ => rfl)))) qb_nil)
   (qb_one (qs_ret (qe_ix ix_str qe_str (qe_callee C__law_draw (hr.mono (by first | decide | omega)) (by rfl) (qa_cn (qv 0) (qa_cn qe_int qa_nil))) (fun _ _ => rfl))))))
  (with_reducible refine ⟨_,hqq.p,?_⟩)
  refine ⟨_,rfl,p,c,3,rfl,hh,by decide,by decide,fun r H1 r0 r1 h1 b1 => ⟨rfl,_,rfl,ite2 (fun _ => ?_) (fun _ => ?_)⟩⟩
  ·refine ⟨_,rfl,_,rfl,_,rfl,_,rfl,by decide,p,c,_,rfl,h1,by decide +kernel,by decide +kernel,fun r2 H2 q0 q1 h2 b2 => ?_⟩
   obtain ⟨d,hd⟩ := at_inS ((" !\"#$&'()*+,-./0123456789:;<=>?@ABCDEFGHIJKLMNOPQRSTUVWXYZ[\\]^_`abcdefghijklmnopqrstuvwxyz{|}~\n" : Str).cps.toList) q0 (by rw [str_len]; exact q1)
   exact ⟨_,_,_,rfl,rfl,by decide,hd,k [d] _ (Nat.le_refl _) h2 (b1.trans b2)⟩
  ·refine ⟨_,rfl,p,c,_,rfl,h1,by decide +kernel,by decide +kernel,fun r2 H2 q0 q1 h2 b2 => ?_⟩
   obtain ⟨d,hd⟩ := at_inS (("  \n0019-abz" : Str).cps.toList) q0 (by rw [show (("  \n0019-abz" : Str).cps.toList).length = 11 by decide +kernel]; exact q1)
   exact ⟨_,_,_,rfl,rfl,by decide,hd,k [d] _ (Nat.le_refl _) h2 (b1.trans b2)⟩
theorem ok_odd (L : Lk K mg "_law_odd" s_odd ["_law_hand","_law_names_here"] f fd) (T : Txt mg) (C__law_draw : Callee P w K mg base "_law_draw" ["_law_hand","_law_many"] 1 spDraw) : Callee P w K mg base "_law_odd" ["_law_hand","_law_names_here"] 2 spOdd := by
 refine L.callee (L.F.ok sc_odd (fun vs H Q E h => ?_) (fun cdv A outer s H vs Q E hr h => ?_))
 ·obtain ⟨p,c,na,zs,rfl,_⟩ := h
  rfl
 ·obtain ⟨p,c,na,zs,rfl,hh,hna,np,zl,z8,k⟩ := h
  have hqq : QB ((cxOf CX0 P w K mg base ["_law_hand","_law_names_here","_law_way","_law_some"] "_law_odd" (defScope s_odd) f cdv A outer s H E).nox) (defBody s_odd) _ := (qb_cn (qs_set (i := 2) sc_odd.nd rfl (Or.inl rfl) (qe_callee C__law_draw (hr.mono (by first | decide | omega)) (by rfl) (qa_cn (qv 0) (qa_cn qe_int qa_nil))))
   (qb_cn (qs_if (qt_cmpR op_eq (qv 2) qe_int (nomark _)) (qb_one (qs_ret (qe_ix ix_list (qv 1) (qe_callee C__law_draw (hr.mono (by first | decide | omega)) (by rfl) (qa_cn (qv 0) (qa_cn qe_int qa_nil))) (fun _ _ => rfl)))) qb_nil)
   (qb_cn (qs_if (qt_cmpR op_eq (qv 2) qe_int (nomark _)) (qb_one (qs_ret (qe_ix ix_list (qe_lst (qa_cn qe_str (qa_cn qe_str (qa_cn qe_str (qa_cn qe_str (qa_cn qe_str (qa_cn qe_str (qa_cn qe_str (qa_cn qe_str (qa_cn qe_str (qa_cn (qe_callTy call_str_int (by rfl) T.str boot_str (qa_cn (qe_op op_pow qe_int qe_int) qa_nil)) (qa_cn (qe_callTy call_str_int (by rfl) T.str boot_str (qa_cn (qe_un un_neg (qe_op op_pow qe_int qe_int)) qa_nil)) qa_nil)))))))))))) (qe_callee C__law_draw (hr.mono (by first | decide | omega)) (by rfl) (qa_cn (qv 0) (qa_cn qe_int qa_nil))) (fun _ _ => rfl)))) qb_nil)
   (qb_cn (qs_if (qt_cmpR op_eq (qv 2) qe_int (nomark _)) (qb_one (qs_ret (qe_ix ix_list (qe_lst (qa_cn qe_str (qa_cn qe_str (qa_cn qe_str (qa_cn qe_str (qa_cn qe_str (qa_cn qe_str (qa_cn qe_str (qa_cn qe_str (qa_cn (qe_op op_rep_str qe_str qe_int) (qa_cn (qe_op op_add_str qe_str (qe_op op_rep_str qe_str qe_int)) (qa_cn (qe_op op_rep_str qe_str qe_int) qa_nil)))))))))))) (qe_callee C__law_draw (hr.mono (by first | decide | omega)) (by rfl) (qa_cn (qv 0) (qa_cn qe_int qa_nil))) (fun _ _ => rfl)))) qb_nil)
   (qb_cn (qs_set (i := 3) sc_odd.nd rfl (Or.inl rfl) (qe_lst (qa_cn qe_str (qa_cn qe_str (qa_cn qe_str (qa_cn qe_str (qa_cn qe_str (qa_cn qe_str (qa_cn qe_str (qa_cn qe_str (qa_cn qe_str (qa_cn qe_str (qa_cn qe_str (qa_cn qe_str qa_nil))))))))))))))
   (qb_one (qs_ret (qe_ix ix_list (qv 3) (qe_callee C__law_draw (hr.mono (by first | decide | omega)) (by rfl) (qa_cn (qv 0) (qa_cn qe_int qa_nil))) (fun _ _ => rfl)))))))))
  (with_reducible refine ⟨_,hqq.p,?_⟩)
  have big : ((10 : Int) ^ (60 : Int).toNat).natAbs < 10 ^ 61 := by rw [ten60]; decide +kernel
  have bigN : (-(10 : Int) ^ (60 : Int).toNat).natAbs < 10 ^ 61 := by rw [ten60]; decide +kernel
  refine ⟨_,rfl,p,c,4,rfl,hh,by decide,by decide,fun r H1 _ _ h1 b1 => ?_⟩
  refine ⟨_,rfl,rfl,_,rfl,ite2 (fun _ => ?_) (fun _ => ?_)⟩
  ·refine ⟨_,rfl,_,rfl,p,c,14,rfl,h1,by decide,by decide,fun r2 H2 q0 q1 h2 b2 => ?_⟩
   obtain ⟨y,hy,my⟩ := at_in (namV zs) q0 (by unfold namV; rw [List.length_map,zl]; exact q1)
   obtain ⟨z,hz,rfl⟩ := List.mem_map.mp my
   exact ⟨na,_,_,_,rfl,rfl,SqL.of (b2 _ _ (b1 _ _ hna np) np),hy,k z H2 (Nat.le_trans (z8 z hz) (by decide)) h2 (b1.trans b2)⟩
  have fin : ∀ (l : List V) (n : Int),(∀ x ∈ l,ShortT x) → (l.length : Int) = n → 0 < n → n < 1000 → ∀ D,H1 D = none → ∀ (r2 : Int) (H2 : Hp),0 ≤ r2 → r2 < n → Hand H2 p c → But p (upd H1 D (.lst l)) H2 → rIxL K (.ref D) (.int r2) H2 Q := fun l n hl el n0 n1 D hD r2 H2 q0 q1 h2 b2 => by
   obtain ⟨y,hy,my⟩ := at_in l q0 (by omega)
   obtain ⟨t,rfl,t4⟩ := hl y my
   exact ⟨D,_,_,_,rfl,rfl,SqL.of (b2 _ _ upd_same (h1.nef hD)),hy,k t H2 t4 h2 (b1.trans ((But.new _ hD).trans b2))⟩
  refine ⟨_,rfl,rfl,_,rfl,ite2 (fun _ => ?_) (fun _ => ?_)⟩
  ·refine ⟨_,_,rfl,rfl,⟨by decide,by decide,by decide⟩,_,rfl,log_num (lt300 big),_,_,rfl,rfl,⟨by decide,by decide,by decide⟩,_,rfl,_,rfl,log_num (lt300 bigN),by show 11 ≤ sizeLine; decide,fun D1 e1 => ⟨_,rfl,p,c,11,rfl,h1.new _ e1,by decide,by decide,fun r2 H2 q0 q1 h2 b2 => ?_⟩⟩
   refine fin _ 11 ?_ rfl (by decide) (by decide) D1 e1 r2 H2 q0 q1 h2 b2
   intro x hx
   simp only [List.mem_cons,List.not_mem_nil,or_false] at hx
   rcases hx with rfl | rfl | rfl | rfl | rfl | rfl | rfl | rfl | rfl | rfl | rfl
   all_goals first | exact short_lit _ (by decide +kernel) | exact short_num _ big | exact short_num _ bigN
  refine ⟨_,rfl,rfl,_,rfl,ite2 (fun _ => ?_) (fun _ => ?_)⟩
  ·refine ⟨[57],70,rfl,rfl,by decide,by decide,[57],61,rfl,rfl,by decide,by decide,S [45],S _,rfl,rfl,two_len _ _ (by rw [rep_len]; decide),?_⟩
   rw [← S_app]
   refine ⟨[57],3900,rfl,rfl,by decide,by decide,by show 11 ≤ sizeLine; decide,fun D1 e1 => ⟨_,rfl,p,c,11,rfl,h1.new _ e1,by decide,by decide,fun r2 H2 q0 q1 h2 b2 => ?_⟩⟩
   refine fin _ 11 ?_ rfl (by decide) (by decide) D1 e1 r2 H2 q0 q1 h2 b2
   intro x hx
   simp only [List.mem_cons,List.not_mem_nil,or_false] at hx
   rcases hx with rfl | rfl | rfl | rfl | rfl | rfl | rfl | rfl | rfl | rfl | rfl
   all_goals first | exact ⟨_,rfl,by rw [rep_len]; decide⟩ | exact ⟨_,rfl,by rw [List.length_append,rep_len]; decide⟩ | exact short_lit _ (by decide +kernel)
  ·refine ⟨by show 12 ≤ sizeLine; decide,fun D1 e1 => ⟨_,rfl,_,rfl,p,c,12,rfl,h1.new _ e1,by decide,by decide,fun r2 H2 q0 q1 h2 b2 => ?_⟩⟩
   refine fin _ 12 ?_ rfl (by decide) (by decide) D1 e1 r2 H2 q0 q1 h2 b2
   intro x hx
   simp only [List.mem_cons,List.not_mem_nil,or_false] at hx
   rcases hx with rfl | rfl | rfl | rfl | rfl | rfl | rfl | rfl | rfl | rfl | rfl | rfl
   all_goals exact short_lit _ (by decide +kernel)
end
end K85
end
section
set_option maxHeartbeats 4000000
namespace K85
open PySem L2 PyProof.Rows
abbrev s_spoilt : Stmt := top 59
theorem sc_spoilt : FnScope ["_law_hand","_law_words_here","_law_names_here","_law_way","_law_at","_law_lines","_law_k","_law_parts","_law_other","_law_one"] ["_law_hand","_law_words_here","_law_names_here"] (defScope s_spoilt) := ⟨rfl,rfl,rfl,by decide +kernel,rfl,by decide +kernel,by decide +kernel⟩
def tot (ws : List (List Nat)) : Nat := (ws.map List.length).sum + ws.length
theorem tot_cons (w : List Nat) (ws : List (List Nat)) : tot (w :: ws) = w.length + 1 + tot ws := by
 unfold tot
 rw [List.map_cons,List.sum_cons,List.length_cons]
 omega
theorem tot_app : ∀ (a b : List (List Nat)),tot (a ++ b) = tot a + tot b
 | [],b => by show tot b = 0 + tot b; omega
 | w :: a,b => by rw [List.cons_append,tot_cons,tot_cons,tot_app a b]; omega
theorem tot_join (c : Nat) : ∀ {ws : List (List Nat)},ws ≠ [] → tot ws = (joinL c ws).length + 1
 | [],h => absurd rfl h
 | [w],_ => by rw [tot_cons]; rfl
 | w :: v :: r,_ => by
  rw [tot_cons,tot_join c (List.cons_ne_nil v r)]
  show _ = (w ++ (c :: joinL c (v :: r))).length + 1
  rw [List.length_append,List.length_cons]
  omega
theorem join_tot (c : Nat) (ws : List (List Nat)) : (joinL c ws).length ≤ tot ws := by
 cases ws with
 | nil => exact Nat.zero_le _
 | cons w ws =>
  have := tot_join c (List.cons_ne_nil w ws)
  omega
theorem tot_cut (ws : List (List Nat)) (i : Nat) : tot (ws.take i) + tot (ws.drop i) = tot ws := by rw [← tot_app,List.take_append_drop]
theorem tot_len (ws : List (List Nat)) : ws.length ≤ tot ws := by unfold tot; omega
theorem tot_mem {ws : List (List Nat)} {w : List Nat} (h : w ∈ ws) : w.length + 1 ≤ tot ws := by
 obtain ⟨a,b,rfl⟩ := List.append_of_mem h
 rw [tot_app,tot_cons]
 omega
theorem tot_set : ∀ (ws : List (List Nat)) (i : Nat) (w x : List Nat),ws[i]? = some w → tot (ws.set i x) + w.length = tot ws + x.length
 | [],i,w,x,h => by simp at h
 | v :: ws,0,w,x,h => by
  cases h
  rw [List.set_cons_zero,tot_cons,tot_cons]
  omega
 | v :: ws,i + 1,w,x,h => by
  have := tot_set ws i w x h
  rw [List.set_cons_succ,tot_cons,tot_cons]
  omega
theorem sum_tot : ∀ (ws : List (List Nat)),((ws.map S).map (·.length)).sum + (ws.map S).length * 1 = tot ws
 | [] => rfl
 | w :: ws => by
  have := sum_tot ws
  rw [tot_cons,← this,List.map_cons,List.map_cons,List.sum_cons,S_len,List.length_cons]
  omega
theorem wv (ws : List (List Nat)) : (ws.map S).map V.str = namV ws := by
 unfold namV
 rw [List.map_map]
 rfl
theorem namV_len (ws : List (List Nat)) : (namV ws).length = ws.length := by unfold namV; rw [List.length_map]
theorem namV_app (a b : List (List Nat)) : namV a ++ namV b = namV (a ++ b) := by unfold namV; rw [List.map_append]
theorem namV_to (ws : List (List Nat)) (j : Nat) (h : j ≤ ws.length) : cutV (namV ws) none (some (j : Int)) = namV (ws.take j) := by
 rw [cut_to (namV ws) j (by rw [namV_len]; exact h)]
 unfold namV
 rw [List.map_take]
theorem namV_from (ws : List (List Nat)) (j : Nat) (h : j ≤ ws.length) : cutV (namV ws) (some (j : Int)) none = namV (ws.drop j) := by
 rw [cut_from (namV ws) j (by rw [namV_len]; exact h)]
 unfold namV
 rw [List.map_drop]
theorem namV_set (ws : List (List Nat)) (j : Nat) (x : List Nat) : (namV ws).set j (.str (S x)) = namV (ws.set j x) := by
 unfold namV
 rw [List.map_set]
theorem ixN_nat {n j : Nat} (h : j < n) : ixN n (j : Int) = some j := by
 unfold ixN
 rw [if_pos (by omega),if_pos (by omega)]
 rfl
theorem sub_go {σ : L2.St} {H : Hp} {t : TS} {D : Ends} (h : t D σ H) : (fun H1 => ({ D with nx := t D } : Ends).nx σ H1) H := h
def spSpoilt : Sp := fun vs H Q _ => ∃ (p c na : Addr) (zs : List (List Nat)) (l : List Nat),vs = [.ref p,.str (S l),.ref na] ∧ Hand H p c ∧ H na = some (.lst (namV zs)) ∧ na ≠ p ∧ zs.length = 14 ∧ (∀ z ∈ zs,z.length ≤ 8) ∧ l.length ≤ 100000 ∧ TellsT p c (2 * l.length + 9000) H Q
section
variable {P : Program} {w : World} {K : PySem.W.Frag} {mg : Str → Option Value} {base : Heap} {f : Addr} {fd : FuncData}
theorem ok_spoilt (L : Lk K mg "_law_spoilt" s_spoilt ["_law_hand","_law_words_here","_law_names_here"] f fd) (T : Txt mg) (C__law_draw : Callee P w K mg base "_law_draw" ["_law_hand","_law_many"] 1 spDraw) (C__law_sign : Callee P w K mg base "_law_sign" ["_law_hand"] 2 spSgn) (C__law_odd : Callee P w K mg base "_law_odd" ["_law_hand","_law_names_here"] 2 spOdd) : Callee P w K mg base "_law_spoilt" ["_law_hand","_law_words_here","_law_names_here"] 3 spSpoilt := by
 refine L.callee (L.F.ok sc_spoilt (fun vs H Q E h => ?_) (fun cdv A outer s H vs Q E hr h => ?_))
 ·obtain ⟨p,c,na,zs,l,rfl,_⟩ := h
  rfl
 ·obtain ⟨p,c,na,zs,l,rfl,hh,hna,np,zl,z8,hl,k⟩ := h
  have hqq : QB ((cxOf CX0 P w K mg base ["_law_hand","_law_words_here","_law_names_here","_law_way","_law_at","_law_lines","_law_k","_law_parts","_law_other","_law_one"] "_law_spoilt" (defScope s_spoilt) f cdv A outer s H E).nox) (defBody s_spoilt) _ := (qb_cn (qs_set (i := 3) sc_spoilt.nd rfl (Or.inl rfl) (qe_callee C__law_draw (hr.mono (by first | decide | omega)) (by rfl) (qa_cn (qv 0) (qa_cn qe_int qa_nil))))
   (qb_cn (qs_if (qt_cmpR op_lt (qv 3) qe_int (nomark _)) (qb_cn (qs_set (i := 4) sc_spoilt.nd rfl (Or.inl rfl) (qe_callee C__law_draw (hr.mono (by first | decide | omega)) (by rfl) (qa_cn (qv 0) (qa_cn (qe_op op_add (qe_callB call_len_str (by rfl) T.len PySem.boot_len (qa_cn (qv 1) qa_nil)) qe_int) qa_nil))))
   (qb_one (qs_ret (qe_op op_add_str (qe_op op_add_str (qe_slice sl_str (qv 1) qo_none (qo_some (qv 4))) (qe_callee C__law_sign (hr.mono (by first | decide | omega)) (by rfl) (qa_cn (qv 0) qa_nil))) (qe_slice sl_str (qv 1) (qo_some (qe_op op_add (qv 4) (qv 3))) qo_none))))) qb_nil)
   (qb_cn (qs_set (i := 5) sc_spoilt.nd rfl (Or.inl rfl) (qe_bm PySem.F.plainAttrs_str PySem.F.slot_str_split PySem.F.type_str_split mt_split (qv 1) (qa_cn qe_str qa_nil)))
   (qb_cn (qs_set (i := 6) sc_spoilt.nd rfl (Or.inl rfl) (qe_callee C__law_draw (hr.mono (by first | decide | omega)) (by rfl) (qa_cn (qv 0) (qa_cn (qe_callB call_len_seq (by rfl) T.len PySem.boot_len (qa_cn (qv 5) qa_nil)) qa_nil))))
   (qb_cn (qs_set (i := 7) sc_spoilt.nd rfl (Or.inl rfl) (qe_bm PySem.F.plainAttrs_str PySem.F.slot_str_split PySem.F.type_str_split mt_split (qe_ix ix_list (qv 5) (qv 6) (fun _ _ => rfl)) (qa_cn qe_str qa_nil)))
   (qb_cn (qs_set (i := 4) sc_spoilt.nd rfl (Or.inl rfl) (qe_callee C__law_draw (hr.mono (by first | decide | omega)) (by rfl) (qa_cn (qv 0) (qa_cn (qe_callB call_len_seq (by rfl) T.len PySem.boot_len (qa_cn (qv 7) qa_nil)) qa_nil))))
   (qb_cn (qs_if (qt_cmpR op_eq (qv 3) qe_int (nomark _)) (qb_one (qs_set (i := 7) sc_spoilt.nd rfl (Or.inl rfl) (qe_op op_cat (qe_slice sl_list (qv 7) qo_none (qo_some (qv 4))) (qe_slice sl_list (qv 7) (qo_some (qe_op op_add (qv 4) qe_int)) qo_none)))) (qb_one (qs_if (qt_cmpR op_eq (qv 3) qe_int (nomark _)) (qb_one (qs_set (i := 7) sc_spoilt.nd rfl (Or.inl rfl) (qe_op op_cat (qe_op op_cat (qe_slice sl_list (qv 7) qo_none (qo_some (qv 4))) (qe_lst (qa_cn (qe_callee C__law_odd (hr.mono (by first | decide | omega)) (by rfl) (qa_cn (qv 0) (qa_cn (qv 2) qa_nil))) qa_nil))) (qe_slice sl_list (qv 7) (qo_some (qv 4)) qo_none)))) (qb_one (qs_if (qt_cmpR op_lt (qv 3) qe_int (nomark _)) (qb_one (qs_asg (qe_callee C__law_odd (hr.mono (by first | decide | omega)) (by rfl) (qa_cn (qv 0) (qa_cn (qv 2) qa_nil))) (qg_sub (qv 7) (qv 4) set_list))) qb_nil)))))
   (qb_cn (qs_asg (qe_bm PySem.F.plainAttrs_str PySem.F.slot_str_join PySem.F.type_str_join mt_join qe_str (qa_cn (qv 7) qa_nil)) (qg_sub (qv 5) (qv 6) set_list))
   (qb_cn (qs_if (qt_cmpR op_eq (qv 3) qe_int (nomark _)) (qb_cn (qs_set (i := 8) sc_spoilt.nd rfl (Or.inl rfl) (qe_callee C__law_draw (hr.mono (by first | decide | omega)) (by rfl) (qa_cn (qv 0) (qa_cn (qe_callB call_len_seq (by rfl) T.len PySem.boot_len (qa_cn (qv 5) qa_nil)) qa_nil))))
   (qb_cn (qs_set (i := 9) sc_spoilt.nd rfl (Or.inl rfl) (qe_ix ix_list (qv 5) (qv 6) (fun _ _ => rfl)))
   (qb_cn (qs_asg (qe_ix ix_list (qv 5) (qv 8) (fun _ _ => rfl)) (qg_sub (qv 5) (qv 6) set_list))
   (qb_one (qs_asg (qv 9) (qg_sub (qv 5) (qv 8) set_list)))))) qb_nil)
   (qb_cn (qs_if (qt_cmpR op_eq (qv 3) qe_int (nomark _)) (qb_one (qs_set (i := 5) sc_spoilt.nd rfl (Or.inl rfl) (qe_op op_cat (qe_op op_cat (qe_slice sl_list (qv 5) qo_none (qo_some (qv 6))) (qe_lst (qa_cn (qe_ix ix_list (qe_lst (qa_cn qe_str (qa_cn (qe_ix ix_list (qv 5) (qv 6) (fun _ _ => rfl)) qa_nil))) (qe_callee C__law_draw (hr.mono (by first | decide | omega)) (by rfl) (qa_cn (qv 0) (qa_cn qe_int qa_nil))) (fun _ _ => rfl)) qa_nil))) (qe_slice sl_list (qv 5) (qo_some (qv 6)) qo_none)))) qb_nil)
   (qb_one (qs_ret (qe_bm PySem.F.plainAttrs_str PySem.F.slot_str_join PySem.F.type_str_join mt_join qe_str (qa_cn (qv 5) qa_nil))))))))))))))
  (with_reducible refine ⟨_,hqq.p,?_⟩)
  have ll : (S l).length ≤ sizeLine := by rw [S_len]; exact Nat.le_trans hl (by decide)
  refine ⟨_,rfl,p,c,9,rfl,hh,by decide,by decide,fun r H1 r0 r1 h1 b1 => ?_⟩
  refine ⟨_,rfl,_,_,rfl,rfl,_,rfl,ite2 (fun _ => ?_) (fun _ => ?_)⟩
  ·refine ⟨_,rfl,_,rfl,S l,rfl,ll,_,_,rfl,rfl,p,c,_,rfl,h1,by rw [S_len]; omega,by rw [S_len]; omega,fun at' H2 a0 a1 h2 b2 => ?_⟩
   obtain ⟨x,ex,lx⟩ := slice_some (S l) none (some at')
   obtain ⟨z,ez,lz⟩ := slice_some (S l) (some (at' + r)) none
   rw [S_len] at lx lz
   refine ⟨_,rfl,_,rfl,_,rfl,S l,rfl,ll,?_⟩
   rw [ex]
   refine ⟨_,rfl,p,c,rfl,h2,fun y H3 y1 h3 b3 => ?_⟩
   refine ⟨S x,S y,rfl,rfl,two_len _ _ (by omega),?_⟩
   rw [← S_app]
   refine ⟨_,rfl,_,rfl,_,rfl,_,_,rfl,rfl,_,rfl,S l,rfl,ll,?_⟩
   rw [ez]
   refine ⟨S _,S z,rfl,rfl,two_len _ _ (by rw [List.length_append]; omega),?_⟩
   rw [← S_app]
   exact k _ _ (by rw [List.length_append,List.length_append]; omega) h3 ((b1.trans b2).trans b3)
  ·refine ⟨_,rfl,rfl,l,10,rfl,rfl,by omega,fun ws w0 w1 w2 la hla => ?_⟩
   rw [wv ws]
   have tw : tot ws = l.length + 1 := by rw [← w2]; exact tot_join 10 w0
   have ws1 := List.length_pos_iff.mpr w0
   have tl := tot_len ws
   have nla : H la = none := h1.free b1 hla
   have lap := h1.nef hla
   have lac := h1.nec hla
   generalize e2 : upd H1 la (.lst (namV ws)) = H2
   have hla2 : H2 la = some (.lst (namV ws)) := by rw [← e2]; exact upd_same
   have s2 : Same H1 H2 := by rw [← e2]; exact Same.new _ hla
   have h2 := h1.same s2
   have b2 : But p H H2 := b1.trans (Same.but s2)
   refine ⟨_,rfl,_,rfl,la,_,rfl,.inl (SqL.of hla2),p,c,_,rfl,h2,by rw [namV_len]; omega,by rw [namV_len]; omega,fun kk H3 k0 k1 h3 b3 => ?_⟩
   rw [namV_len] at k1
   obtain ⟨j,rfl⟩ := Int.eq_ofNat_of_zero_le k0
   have hj : j < ws.length := by omega
   obtain ⟨ln,hln⟩ : ∃ ln,ws[j]? = some ln := ⟨_,List.getElem?_eq_getElem hj⟩
   have lnl := tot_mem (List.mem_of_getElem? hln)
   have hla3 := b3 _ _ hla2 lap
   have b3 : But p H H3 := b2.trans b3
   refine ⟨_,rfl,_,rfl,la,_,_,_,rfl,rfl,SqL.of hla3,nam_at hln,rfl,ln,32,rfl,rfl,by omega,fun ps p0 p1 p2 pa hpa => ?_⟩
   rw [wv ps]
   have tp : tot ps = ln.length + 1 := by rw [← p2]; exact tot_join 32 p0
   have ps1 := List.length_pos_iff.mpr p0
   have pl := tot_len ps
   have pap := h3.nef hpa
   have pac := h3.nec hpa
   have pla : pa ≠ la := (ne_of_none hla3 hpa).symm
   have npa : H pa = none := h3.free b3 hpa
   generalize e4 : upd H3 pa (.lst (namV ps)) = H4
   have hpa4 : H4 pa = some (.lst (namV ps)) := by rw [← e4]; exact upd_same
   have s4 : Same H3 H4 := by rw [← e4]; exact Same.new _ hpa
   have h4 := h3.same s4
   have b4 : But p H H4 := b3.trans (Same.but s4)
   have hla4 := s4 _ _ hla3
   refine ⟨_,rfl,_,rfl,pa,_,rfl,.inl (SqL.of hpa4),p,c,_,rfl,h4,by rw [namV_len]; omega,by rw [namV_len]; omega,fun aa H5 a0 a1 h5 b5 => ?_⟩
   rw [namV_len] at a1
   obtain ⟨i,rfl⟩ := Int.eq_ofNat_of_zero_le a0
   have hi : i < ps.length := by omega
   obtain ⟨wd,hwd⟩ : ∃ wd,ps[i]? = some wd := ⟨_,List.getElem?_eq_getElem hi⟩
   have hla5 := b5 _ _ hla4 lap
   have hpa5 := b5 _ _ hpa4 pap
   have b5 : But p H H5 := b4.trans b5
   have hna5 := b5 _ _ hna np
   have cutp := tot_cut ps i
   refine asg_go ?_
   refine seq_by (fun σ H' => ∃ (pa' : Addr) (ps' : List (List Nat)),σ = [some (.ref p),some (.str (S l)),some (.ref na),some (.int r),some (.int (i : Int)),some (.ref la),some (.int (j : Int)),some (.ref pa'),none,none] ∧ H' pa' = some (.lst (namV ps')) ∧ tot ps' ≤ ln.length + 4010 ∧ H' la = some (.lst (namV ws)) ∧ Hand H' p c ∧ But p H H') (fun D' hD' => ?_) ?_
   ·refine ⟨_,rfl,rfl,_,rfl,ite2 (fun _ => ?_) (fun _ => ?_)⟩
    ·refine ⟨_,rfl,_,rfl,_,rfl,pa,_,rfl,SqL.of hpa5,fun q1 hq1 => ?_⟩
     rw [namV_to ps i (by omega)]
     have n6 := Same.new (.lst (namV (ps.take i))) hq1
     have hq6 : (upd H5 q1 (.lst (namV (ps.take i)))) q1 = some (.lst (namV (ps.take i))) := upd_same
     generalize upd H5 q1 (.lst (namV (ps.take i))) = H6 at n6 hq6 ⊢
     refine ⟨_,rfl,_,rfl,_,_,rfl,rfl,_,rfl,pa,_,rfl,SqL.of (n6 _ _ hpa5),fun q2 hq2 => ?_⟩
     rw [show ((i : Int) + 1) = ((i + 1 : Nat) : Int) from rfl,namV_from ps (i + 1) (by omega)]
     have n7 := Same.new (.lst (namV (ps.drop (i + 1)))) hq2
     have hq7 : (upd H6 q2 (.lst (namV (ps.drop (i + 1))))) q2 = some (.lst (namV (ps.drop (i + 1)))) := upd_same
     generalize upd H6 q2 (.lst (namV (ps.drop (i + 1)))) = H7 at n7 hq7 ⊢
     refine ⟨q1,q2,_,_,rfl,rfl,n7 _ _ hq6,hq7,?_,fun q3 hq3 => ?_⟩
     ·rw [namV_len,namV_len,List.length_take,List.length_drop]
      exact Nat.le_trans (show _ ≤ 200002 by omega) (by decide)
     rw [namV_app]
     have n8 := Same.new (.lst (namV (ps.take i ++ ps.drop (i + 1)))) hq3
     have n58 := (n6.trans n7).trans n8
     refine hD' _ _ ⟨q3,ps.take i ++ ps.drop (i + 1),rfl,upd_same,?_,n58 _ _ hla5,h5.same n58,b5.trans (Same.but n58)⟩
     have e1 : ps.drop i = wd :: ps.drop (i + 1) := by
      obtain ⟨hi',e⟩ := List.getElem?_eq_some_iff.mp hwd
      rw [List.drop_eq_getElem_cons hi',e]
     rw [e1,tot_cons] at cutp
     rw [tot_app]
     omega
    refine ⟨_,rfl,rfl,_,rfl,ite2 (fun _ => ?_) (fun _ => ?_)⟩
    ·refine ⟨_,rfl,_,rfl,_,rfl,pa,_,rfl,SqL.of hpa5,fun q1 hq1 => ?_⟩
     rw [namV_to ps i (by omega)]
     have n6 := Same.new (.lst (namV (ps.take i))) hq1
     have hq6 : (upd H5 q1 (.lst (namV (ps.take i)))) q1 = some (.lst (namV (ps.take i))) := upd_same
     have q1p := h5.nef hq1
     generalize upd H5 q1 (.lst (namV (ps.take i))) = H6 at n6 hq6 ⊢
     refine ⟨_,rfl,_,rfl,p,c,na,zs,rfl,h5.same n6,n6 _ _ hna5,np,zl,z8,fun t H7 t4 h7 b7 => ⟨by show 1 ≤ sizeLine; decide,fun q2 hq2 => ?_⟩⟩
     have n8 := Same.new (.lst [.str (S t)]) hq2
     have hq8 : (upd H7 q2 (.lst [.str (S t)])) q2 = some (.lst (namV [t])) := upd_same
     generalize upd H7 q2 (.lst [.str (S t)]) = H8 at n8 hq8 ⊢
     refine ⟨q1,q2,_,_,rfl,rfl,n8 _ _ (b7 _ _ hq6 q1p),hq8,?_,fun q3 hq3 => ?_⟩
     ·rw [namV_len,namV_len,List.length_take]
      exact Nat.le_trans (show _ ≤ 200002 by show _ + 1 ≤ _; omega) (by decide)
     rw [namV_app]
     have n9 := Same.new (.lst (namV (ps.take i ++ [t]))) hq3
     have hq9 : (upd H8 q3 (.lst (namV (ps.take i ++ [t])))) q3 = some (.lst (namV (ps.take i ++ [t]))) := upd_same
     generalize upd H8 q3 (.lst (namV (ps.take i ++ [t]))) = H9 at n9 hq9 ⊢
     have n79 := n8.trans n9
     have hpa9 := n79 _ _ (b7 _ _ (n6 _ _ hpa5) pap)
     refine ⟨_,rfl,_,rfl,_,rfl,pa,_,rfl,SqL.of hpa9,fun q4 hq4 => ?_⟩
     rw [namV_from ps i (by omega)]
     have n10 := Same.new (.lst (namV (ps.drop i))) hq4
     have hq10 : (upd H9 q4 (.lst (namV (ps.drop i)))) q4 = some (.lst (namV (ps.drop i))) := upd_same
     generalize upd H9 q4 (.lst (namV (ps.drop i))) = H10 at n10 hq10 ⊢
     refine ⟨q3,q4,_,_,rfl,rfl,n10 _ _ hq9,hq10,?_,fun q5 hq5 => ?_⟩
     ·rw [namV_len,namV_len,List.length_append,List.length_take,List.length_drop]
      exact Nat.le_trans (show _ ≤ 200002 by show _ + 1 + _ ≤ _; omega) (by decide)
     rw [namV_app]
     have n11 := Same.new (.lst (namV (ps.take i ++ [t] ++ ps.drop i))) hq5
     have n711 := (n79.trans n10).trans n11
     refine hD' _ _ ⟨q5,ps.take i ++ [t] ++ ps.drop i,rfl,upd_same,?_,n711 _ _ (b7 _ _ (n6 _ _ hla5) lap),h7.same n711,b5.trans ((Same.but n6).trans (b7.trans (Same.but n711)))⟩
     rw [tot_app,tot_app,tot_cons]
     show tot (ps.take i) + (t.length + 1 + 0) + _ ≤ _
     omega
    refine ⟨_,rfl,_,_,rfl,rfl,_,rfl,ite2 (fun _ => ?_) (fun _ => ?_)⟩
    ·refine ⟨_,rfl,_,rfl,p,c,na,zs,rfl,h5,hna5,np,zl,z8,fun t H7 t4 h7 b7 => ?_⟩
     have hpa7 := b7 _ _ hpa5 pap
     refine ⟨_,rfl,_,rfl,pa,_,(i : Int),i,rfl,rfl,hpa7,by rw [namV_len]; exact ixN_nat hi,?_⟩
     rw [namV_set]
     refine hD' _ _ ⟨pa,ps.set i t,rfl,upd_same,?_,by rw [upd_ne pla.symm]; exact b7 _ _ hla5 lap,h7.other _ pap pac,fun b o e ne => ?_⟩
     ·have := tot_set ps i wd t hwd
      omega
     ·rw [upd_ne (ne_of_none e npa)]
      exact b7 _ _ (b5 _ _ e ne) ne
    ·exact hD' _ _ ⟨pa,ps,rfl,hpa5,by omega,hla5,h5,b5⟩
   ·rintro σ H6 ⟨pa',ps',rfl,hpa6,tp6,hla6,h6,b6⟩
    refine ⟨rfl,_,rfl,_,pa',ps'.map S,rfl,rfl,SqL.of (by rw [wv]; exact hpa6),?_,?_⟩
    ·have := sum_tot ps'
     have e1 : (" " : Str).length = 1 := by decide
     rw [e1]
     omega
    rw [show (" " : Str) = S [32] from rfl,joinT_S]
    have jl := join_tot 32 ps'
    generalize joinL 32 ps' = jn at jl ⊢
    refine ⟨_,rfl,_,rfl,la,_,(j : Int),j,rfl,rfl,hla6,by rw [namV_len]; exact ixN_nat hj,?_⟩
    rw [namV_set]
    have hla7 : (upd H6 la (.lst (namV (ws.set j jn)))) la = some (.lst (namV (ws.set j jn))) := upd_same
    have h7 : Hand (upd H6 la (.lst (namV (ws.set j jn)))) p c := h6.other _ lap lac
    have b7 : But p H (upd H6 la (.lst (namV (ws.set j jn)))) := fun b o e ne => by
     rw [upd_ne (ne_of_none e nla)]
     exact b6 _ _ e ne
    have tw7 := tot_set ws j ln jn hln
    have wl7 : (ws.set j jn).length = ws.length := List.length_set
    generalize upd H6 la (.lst (namV (ws.set j jn))) = H7 at hla7 h7 b7 ⊢
    generalize ws.set j jn = w7 at hla7 tw7 wl7 ⊢
    have tb7 : tot w7 ≤ l.length + 4011 := by omega
    have tl7 := tot_len w7
    refine sub_go ?_
    refine seq_by (fun σ H' => ∃ (w8 : List (List Nat)) (o8 o9 : Option V),σ = [some (.ref p),some (.str (S l)),some (.ref na),some (.int r),some (.int (i : Int)),some (.ref la),some (.int (j : Int)),some (.ref pa'),o8,o9] ∧ H' la = some (.lst (namV w8)) ∧ tot w8 ≤ l.length + 4011 ∧ w8.length = ws.length ∧ Hand H' p c ∧ But p H H') (fun D' hD' => ?_) ?_
    ·refine ⟨_,rfl,rfl,_,rfl,ite2 (fun _ => ?_) (fun _ => ?_)⟩
     ·refine ⟨_,rfl,_,rfl,la,_,rfl,.inl (SqL.of hla7),p,c,_,rfl,h7,by rw [namV_len]; omega,by rw [namV_len]; omega,fun oo H8 a0 a1 h8 b8 => ?_⟩
      rw [namV_len] at a1
      obtain ⟨m,rfl⟩ := Int.eq_ofNat_of_zero_le a0
      have hm : m < w7.length := by omega
      obtain ⟨u,hu⟩ : ∃ u,w7[j]? = some u := ⟨_,List.getElem?_eq_getElem (by omega)⟩
      obtain ⟨v,hv⟩ : ∃ v,w7[m]? = some v := ⟨_,List.getElem?_eq_getElem hm⟩
      have hla8 := b8 _ _ hla7 lap
      refine ⟨_,rfl,_,rfl,la,_,_,_,rfl,rfl,SqL.of hla8,nam_at hu,?_⟩
      refine ⟨_,rfl,_,rfl,la,_,_,_,rfl,rfl,SqL.of hla8,nam_at hv,?_⟩
      refine ⟨_,rfl,_,rfl,la,_,(j : Int),j,rfl,rfl,hla8,by rw [namV_len]; exact ixN_nat (by omega),?_⟩
      rw [namV_set]
      refine ⟨_,rfl,_,rfl,_,rfl,la,_,(m : Int),m,rfl,rfl,upd_same,by rw [namV_len,List.length_set]; exact ixN_nat hm,?_⟩
      rw [namV_set,upd_upd]
      have hv2 : (w7.set j v)[m]? = some v := by
       by_cases e : j = m
       ·rw [e,List.getElem?_set_self hm]
       ·rw [List.getElem?_set_ne e]; exact hv
      have t1 := tot_set w7 j u v hu
      have t2 := tot_set (w7.set j v) m v u hv2
      refine hD' _ _ ⟨(w7.set j v).set m u,_,_,rfl,upd_same,by omega,by rw [List.length_set,List.length_set]; exact wl7,h8.other _ lap lac,fun b o e ne => ?_⟩
      rw [upd_ne (ne_of_none e nla)]
      exact b8 _ _ (b7 _ _ e ne) ne
     ·exact hD' _ _ ⟨w7,none,none,rfl,hla7,tb7,wl7,h7,b7⟩
    ·rintro σ H8 ⟨w8,o8,o9,rfl,hla8,tb8,wl8,h8,b8⟩
     have tl8 := tot_len w8
     refine seq_by (fun σ H' => ∃ (la' : Addr) (w9 : List (List Nat)),σ = [some (.ref p),some (.str (S l)),some (.ref na),some (.int r),some (.int (i : Int)),some (.ref la'),some (.int (j : Int)),some (.ref pa'),o8,o9] ∧ H' la' = some (.lst (namV w9)) ∧ tot w9 ≤ 2 * l.length + 9000 ∧ Hand H' p c ∧ But p H H') (fun D' hD' => ?_) ?_
     ·refine ⟨_,rfl,rfl,_,rfl,ite2 (fun _ => ?_) (fun _ => ?_)⟩
      ·refine ⟨_,rfl,_,rfl,_,rfl,la,_,rfl,SqL.of hla8,fun q1 hq1 => ?_⟩
       rw [namV_to w8 j (by omega)]
       have n9 := Same.new (.lst (namV (w8.take j))) hq1
       have hq9 : (upd H8 q1 (.lst (namV (w8.take j)))) q1 = some (.lst (namV (w8.take j))) := upd_same
       have q1p := h8.nef hq1
       generalize upd H8 q1 (.lst (namV (w8.take j))) = H9 at n9 hq9 ⊢
       obtain ⟨u,hu⟩ : ∃ u,w8[j]? = some u := ⟨_,List.getElem?_eq_getElem (by omega)⟩
       have ul := tot_mem (List.mem_of_getElem? hu)
       have hla9 := n9 _ _ hla8
       refine ⟨_,rfl,_,rfl,la,_,_,_,rfl,rfl,SqL.of hla9,nam_at hu,by show 2 ≤ sizeLine; decide,fun q2 hq2 => ?_⟩
       have n10 := Same.new (.lst [.str "",.str (S u)]) hq2
       have hq10 : (upd H9 q2 (.lst [.str "",.str (S u)])) q2 = some (.lst (namV [[],u])) := upd_same
       have q2p := (h8.same n9).nef hq2
       have h10 := (h8.same n9).new (.lst [.str "",.str (S u)]) hq2
       generalize upd H9 q2 (.lst [.str "",.str (S u)]) = H10 at n10 hq10 h10 ⊢
       refine ⟨_,rfl,p,c,2,rfl,h10,by decide,by decide,fun rr H11 q0 q1' h11 b11 => ?_⟩
       obtain ⟨y,hy,my⟩ := at_in (namV [[],u]) q0 q1'
       obtain ⟨t,mt,rfl⟩ := List.mem_map.mp my
       have t1 : t.length ≤ u.length := by
        rcases List.mem_cons.mp mt with rfl | mt
        ·exact Nat.zero_le _
        ·rw [List.mem_singleton.mp mt]; exact Nat.le_refl _
       refine ⟨q2,_,_,_,rfl,rfl,SqL.of (b11 _ _ hq10 q2p),hy,by show 1 ≤ sizeLine; decide,fun q3 hq3 => ?_⟩
       have n12 := Same.new (.lst [.str (S t)]) hq3
       have hq12 : (upd H11 q3 (.lst [.str (S t)])) q3 = some (.lst (namV [t])) := upd_same
       generalize upd H11 q3 (.lst [.str (S t)]) = H12 at n12 hq12 ⊢
       refine ⟨q1,q3,_,_,rfl,rfl,n12 _ _ (b11 _ _ (n10 _ _ hq9) q1p),hq12,?_,fun q4 hq4 => ?_⟩
       ·rw [namV_len,namV_len,List.length_take]
        exact Nat.le_trans (show _ ≤ 200002 by show _ + 1 ≤ _; omega) (by decide)
       rw [namV_app]
       have n13 := Same.new (.lst (namV (w8.take j ++ [t]))) hq4
       have hq13 : (upd H12 q4 (.lst (namV (w8.take j ++ [t])))) q4 = some (.lst (namV (w8.take j ++ [t]))) := upd_same
       generalize upd H12 q4 (.lst (namV (w8.take j ++ [t]))) = H13 at n13 hq13 ⊢
       have n1113 := n12.trans n13
       have hla13 := n1113 _ _ (b11 _ _ (n10 _ _ hla9) lap)
       refine ⟨_,rfl,_,rfl,_,rfl,la,_,rfl,SqL.of hla13,fun q5 hq5 => ?_⟩
       rw [namV_from w8 j (by omega)]
       have n14 := Same.new (.lst (namV (w8.drop j))) hq5
       have hq14 : (upd H13 q5 (.lst (namV (w8.drop j)))) q5 = some (.lst (namV (w8.drop j))) := upd_same
       generalize upd H13 q5 (.lst (namV (w8.drop j))) = H14 at n14 hq14 ⊢
       refine ⟨q4,q5,_,_,rfl,rfl,n14 _ _ hq13,hq14,?_,fun q6 hq6 => ?_⟩
       ·rw [namV_len,namV_len,List.length_append,List.length_take,List.length_drop]
        exact Nat.le_trans (show _ ≤ 400002 by show _ + 1 + _ ≤ _; omega) (by decide)
       rw [namV_app]
       have n15 := Same.new (.lst (namV (w8.take j ++ [t] ++ w8.drop j))) hq6
       have n1115 := (n1113.trans n14).trans n15
       refine hD' _ _ ⟨q6,w8.take j ++ [t] ++ w8.drop j,rfl,upd_same,?_,h11.same n1115,b8.trans ((Same.but (n9.trans n10)).trans (b11.trans (Same.but n1115)))⟩
       have cut8 := tot_cut w8 j
       rw [tot_app,tot_app,tot_cons]
       show tot (w8.take j) + (t.length + 1 + 0) + _ ≤ _
       omega
      ·exact hD' _ _ ⟨la,w8,rfl,hla8,by omega,h8,b8⟩
     ·rintro σ H9 ⟨la',w9,rfl,hla9,tb9,h9,b9⟩
      refine ⟨rfl,_,rfl,_,la',w9.map S,rfl,rfl,SqL.of (by rw [wv]; exact hla9),?_,?_⟩
      ·have := sum_tot w9
       have e1 : ("\n" : Str).length = 1 := by decide
       rw [e1]
       omega
      rw [show ("\n" : Str) = S [10] from rfl,joinT_S]
      exact k _ _ (Nat.le_trans (join_tot 10 w9) tb9) h9 b9
end
end K85
end
section
set_option maxHeartbeats 4000000
namespace K85
open PySem L2 PyProof.Rows
abbrev s_number : Stmt := top 60
theorem sc_number : FnScope ["_law_word","_law_body"] ["_law_word"] (defScope s_number) := ⟨rfl,rfl,rfl,by decide +kernel,rfl,by decide +kernel,by decide +kernel⟩
theorem inDIG (c : Nat) : (!(Builtin.Str.occurrences (Str.ofString "0123456789") (⟨#[c]⟩ : Str) 0 (Str.ofString "0123456789").length 1).isEmpty) = decide (48 ≤ c ∧ c ≤ 57) := by
 by_cases h : 48 ≤ c ∧ c ≤ 57
 ·have : c = 48 ∨ c = 49 ∨ c = 50 ∨ c = 51 ∨ c = 52 ∨ c = 53 ∨ c = 54 ∨ c = 55 ∨ c = 56 ∨ c = 57 := by omega
  rcases this with rfl | rfl | rfl | rfl | rfl | rfl | rfl | rfl | rfl | rfl <;> decide +kernel
 ·rw [decide_eq_false h,PySem.W.occ_nil_of_no (Str.ofString "0123456789") (⟨#[c]⟩ : Str) 1 fun i hi => ?_]
  ·rfl
  ·unfold Builtin.Str.subAt
   refine beq_eq_false_iff_ne.mpr fun z => h ?_
   have z := congrArg Array.toList z
   have z : ((Str.ofString "0123456789").cps.extract i (i + 1)).toList = [c] := z
   have m : c ∈ (Str.ofString "0123456789").cps.toList := by
    have : c ∈ ((Str.ofString "0123456789").cps.extract i (i + 1)).toList := by rw [z]; exact List.mem_cons_self
    rw [Array.toList_extract] at this
    simp only [List.extract_eq_drop_take] at this
    exact List.mem_of_mem_drop (List.mem_of_mem_take this)
   have ma : ∀ c ∈ (Str.ofString "0123456789").cps.toList,48 ≤ c ∧ c ≤ 57 := by decide +kernel
   exact ma c m
theorem num_body {l : List Nat} {i : Int} (h : l = numL i) : (∃ m : Nat,0 < m ∧ l = 45 :: digs m ∧ i = -(m : Int)) ∨ ∃ m : Nat,l = digs m ∧ i = (m : Int) := by
 by_cases h0 : 0 ≤ i
 ·obtain ⟨m,rfl⟩ := Int.eq_ofNat_of_zero_le h0
  exact .inr ⟨m,by rw [h,num_pos],rfl⟩
 ·obtain ⟨m,rfl⟩ : ∃ m : Nat,i = -(m : Int) := ⟨i.natAbs,by omega⟩
  exact .inl ⟨m,by omega,by rw [h,num_neg m (by omega)],rfl⟩
theorem digs_ne (m : Nat) : digs m ≠ [] := by
 by_cases h : m = 0
 ·subst h; decide
 ·obtain ⟨c,r,e,_⟩ := dig_head m (by omega)
  rw [e]
  exact List.cons_ne_nil _ _
def Body (l b : List Nat) : Prop := l = 45 :: b ∨ (l.take 1 ≠ [45] ∧ l = b)
theorem Body.num {l b : List Nat} {i : Int} (h : Body l b) (e : l = numL i) : b = digs i.natAbs ∧ (l = 45 :: b → i < 0) := by
 rcases num_body e with ⟨m,m0,e1,rfl⟩ | ⟨m,e1,rfl⟩
 ·rcases h with h | ⟨h,_⟩
  ·rw [h] at e1
   refine ⟨?_,fun _ => by omega⟩
   rw [(List.cons.inj e1).2]
   congr 1
   omega
  ·rw [e1] at h
   exact absurd rfl h
 ·have d := dig_in m
  rw [← e1] at d
  rcases h with h | ⟨_,h⟩
  ·have := d 45 (by rw [h]; exact List.mem_cons_self)
   have := this.1
   omega
  ·refine ⟨?_,fun z => ?_⟩
   ·rw [← h,e1]
    congr 1
   ·have := d 45 (by rw [z]; exact List.mem_cons_self)
    have := this.1
    omega
def NoNum (l : List Nat) : Prop := ∀ i,numOf l = some i → 10 ^ 60 ≤ i.natAbs
theorem noNum_of {l : List Nat} (h : ∀ i : Int,l ≠ numL i) : NoNum l := fun i e => absurd (numOf_some e).2 (h i)
theorem no_empty {l : List Nat} (h : Body l []) : NoNum l := noNum_of fun i e => digs_ne _ (h.num e).1.symm
theorem no_sign {l b : List Nat} {c : Nat} (h : Body l b) (m : c ∈ b) (hc : ¬ (48 ≤ c ∧ c ≤ 57)) : NoNum l := noNum_of fun i e => by
 rw [(h.num e).1] at m
 exact hc (dig_in _ c m)
theorem no_zero {l r : List Nat} (h : Body l (48 :: r)) (hl : l ≠ [48]) : NoNum l := noNum_of fun i e => by
 obtain ⟨e1,e2⟩ := h.num e
 by_cases z : i.natAbs = 0
 ·rw [z,show digs 0 = [48] from rfl] at e1
  rw [e1] at h
  rcases h with h | ⟨_,h⟩
  ·have := e2 (by rw [h,e1])
   omega
  ·exact hl h
 ·obtain ⟨c,r',q,hc⟩ := dig_head i.natAbs (by omega)
  rw [q] at e1
  have := (List.cons.inj e1).1
  have := hc.1
  omega
theorem is_num {l b : List Nat} (h : Body l b) (h0 : b ≠ []) (hd : ∀ c ∈ b,48 ≤ c ∧ c ≤ 57) (hz : ∀ r,b = 48 :: r → l = [48]) (hb : b.length ≤ 60) : ∃ i : Int,i.natAbs < 10 ^ 60 ∧ l = numL i ∧ PySem.intText? (S l) = some i := by
 by_cases z : l = [48]
 ·subst z
  exact ⟨0,by decide,rfl,by decide +kernel⟩
 ·obtain ⟨m,m0,m1,m2⟩ := digs_of (b.length - 1) b (by have := List.length_pos_iff.mpr h0; omega) hd fun c r e => by
   by_cases q : c = 48
   ·exact absurd (hz r (by rw [e,q])) z
   ·have := (hd c (by rw [e]; exact List.mem_cons_self)).1
    omega
  have m60 : m < 10 ^ 60 := Nat.lt_of_lt_of_le m2 (Nat.pow_le_pow_right (by decide) (by omega))
  rcases h with h | ⟨_,h⟩
  ·refine ⟨-(m : Int),by omega,by rw [h,num_neg m m0,m1],?_⟩
   rw [h,← m1]
   exact int_neg m m0 (small60 m60)
  ·refine ⟨(m : Int),by omega,by rw [h,num_pos,m1],?_⟩
   rw [h,← m1]
   exact int_pos m m0 (small60 m60)
theorem no_long {l b : List Nat} (h : Body l b) (hb : 60 < b.length) : NoNum l := fun i e => by
 obtain ⟨_,e1⟩ := numOf_some e
 obtain ⟨e2,_⟩ := h.num e1
 by_cases q : i.natAbs < 10 ^ 60
 ·have := dig_len 59 i.natAbs q
  rw [e2] at hb
  omega
 ·omega
theorem slice_toA (l : List Nat) (j : Nat) : Txt.slice (S l) none (some (j : Int)) = S (l.take j) := by
 by_cases h : j ≤ l.length
 ·exact slice_to l h
 ·have cl : clip l.length l.length (some (j : Int)) = l.length := by
   show (max 0 (min (if (j : Int) < 0 then (j : Int) + l.length else (j : Int)) l.length)).toNat = l.length
   omega
  rw [slice_any,cl]
  show S ((l.drop 0).take (l.length - 0)) = S (l.take j)
  rw [List.drop_zero,Nat.sub_zero,List.take_of_length_le (Nat.le_refl _),List.take_of_length_le (by omega)]
theorem nxt_go {σ : L2.St} {H : Hp} {t : TS} {D : Ends} (h : t D σ H) : tNext { D with nx := t D } σ H := h
theorem seq_rt {a b : TS} {D : Ends} {σ : L2.St} {H : Hp} (J : L2.St → Hp → Prop) (h1 : ∀ D' : Ends,D'.rt = D.rt → (∀ σ H,J σ H → D'.nx σ H) → a D' σ H) (h2 : ∀ σ H,J σ H → b D σ H) : tSeq a b D σ H := h1 _ rfl h2
def BIG : Int := 10000000000000000000000000000000000000000000000000000000000000000000000
def spNumber : Sp := fun vs H Q _ => ∃ l : List Nat,vs = [.str (S l)] ∧ l.length ≤ 1000000 ∧ (∀ i H',numOf l = some i → i.natAbs < 10 ^ 60 → Same H H' → Q (.int i) H') ∧ (NoNum l → ∀ H',Same H H' → Q .non H' ∧ Q (.int BIG) H')
section
variable {P : Program} {w : World} {K : PySem.W.Frag} {mg : Str → Option Value} {base : Heap} {f : Addr} {fd : FuncData}
theorem ok_number (L : Lk K mg "_law_number" s_number ["_law_word"] f fd) (T : Txt mg) : Callee P w K mg base "_law_number" ["_law_word"] 1 spNumber := by
 refine L.callee (L.F.ok sc_number (fun vs H Q E h => ?_) (fun cdv A outer s H vs Q E hr h => ?_))
 ·obtain ⟨l,rfl,_⟩ := h
  rfl
 ·obtain ⟨l,rfl,hl,kQ,kN⟩ := h
  have hqq : QB ((cxOf CX0 P w K mg base ["_law_word","_law_body"] "_law_number" (defScope s_number) f cdv A outer s H E).nox) (defBody s_number) _ := (qb_cn (qs_set (i := 1) sc_number.nd rfl (Or.inl rfl) (qv 0))
   (qb_cn (qs_if (qt_cmpR op_eq (qe_slice sl_str (qv 0) qo_none (qo_some qe_int)) qe_str (nomark _)) (qb_one (qs_set (i := 1) sc_number.nd rfl (Or.inl rfl) (qe_slice sl_str (qv 0) (qo_some qe_int) qo_none))) qb_nil)
   (qb_cn (qs_if (qw_pt (qw_or (qt_cmpR op_eq (qv 1) qe_str (nomark _)) (qw_or1 (qt_not (qt_val (qe_callB (call_all_list hr.hd) (by rfl) T.all boot_all (qa_cn (qe_comp ["_law_sign_here"] [] [] ["_law_word","_law_body"] (defScope s_number).names rfl (qi_str (qv 1)) (fun _ _ _ _ _ => (qg_name (i := 0) (show (["_law_sign_here"] : List Str).Nodup by decide +kernel) rfl (Or.inl rfl))) (fun _ _ _ _ _ => qts_nil) (fun _ _ _ _ _ => (qe_cmpR op_in_str (qv 0) qe_str rfl))) qa_nil))))))) (qb_one (qs_ret qe_non)) qb_nil)
   (qb_cn (qs_if (qw_pt (qw_and (qt_cmpR op_eq (qe_ix ix_str (qv 1) qe_int (fun _ _ => rfl)) qe_str (nomark _)) (qw_and1 (qt_cmpR op_ne (qv 0) qe_str (nomark _))))) (qb_one (qs_ret qe_non)) qb_nil)
   (qb_cn (qs_if (qt_cmpR op_gt (qe_callB call_len_str (by rfl) T.len PySem.boot_len (qa_cn (qv 1) qa_nil)) qe_int (nomark _)) (qb_one (qs_ret (qe_op op_mul (qe_op op_pow qe_int qe_int) (qe_op op_pow qe_int qe_int)))) qb_nil)
   (qb_one (qs_ret (qe_callTy call_int_text (by rfl) T.int boot_int (qa_cn (qv 0) qa_nil)))))))))
  (with_reducible refine ⟨_,hqq.p,?_⟩)
  have ll : (S l).length ≤ sizeLine := by rw [S_len]; exact Nat.le_trans hl (by decide)
  refine ⟨_,rfl,?_⟩
  refine asg_go ?_
  refine seq_by (fun σ H' => ∃ b : List Nat,σ = [some (.str (S l)),some (.str (S b))] ∧ Same H H' ∧ Body l b ∧ b.length ≤ l.length) (fun D' hD' => ?_) ?_
  ·refine ⟨_,rfl,_,rfl,S l,rfl,ll,rfl,_,rfl,?_⟩
   refine (show if decide (V.str (Txt.slice (S l) none (some 1)) = V.str (S [45])) = true then _ else _ from ?_)
   rw [show Txt.slice (S l) none (some 1) = S (l.take 1) from slice_toA l 1]
   by_cases e : l.take 1 = [45]
   ·rw [e,decide_eq_true rfl]
    obtain ⟨b,rfl⟩ : ∃ b,l = 45 :: b := by
     cases l with
     | nil => cases e
     | cons x b => exact ⟨b,by rw [show x = 45 from (List.cons.inj e).1]⟩
    refine iteT ⟨_,rfl,_,rfl,S (45 :: b),rfl,ll,?_⟩
    rw [show Txt.slice (S (45 :: b)) (some 1) none = S b from slice_from (45 :: b) (j := 1) (by show 1 ≤ b.length + 1; omega)]
    exact hD' _ _ ⟨b,rfl,Same.refl H,.inl rfl,by show b.length ≤ b.length + 1; omega⟩
   ·rw [decide_eq_false (fun q => e (S_inj (V.str.inj q)))]
    exact iteF (hD' _ _ ⟨l,rfl,Same.refl H,.inr ⟨e,rfl⟩,Nat.le_refl _⟩)
  ·rintro σ H0 ⟨b,rfl,s0,hb,bl⟩
   have lb : (S b).length ≤ sizeLine := by rw [S_len]; exact Nat.le_trans (Nat.le_trans bl hl) (by decide)
   refine ⟨_,rfl,rfl,_,rfl,?_⟩
   refine (show if decide (V.str (S b) = V.str (S [])) = true then _ else _ from ?_)
   by_cases e0 : b = []
   ·rw [decide_eq_true (congrArg (fun l => V.str (S l)) e0)]
    subst e0
    exact iteT (iteT (kN (no_empty hb) H0 s0).1)
   rw [decide_eq_false (fun q => e0 (S_inj (V.str.inj q)))]
   refine iteF ⟨_,rfl,S b,rfl,fun D hD => ?_⟩
   refine comp_str (fun i ys H' => ys = ((b.take i).map fun c => V.bl (decide (48 ≤ c ∧ c ≤ 57))) ∧ Same H0 H') ⟨rfl,Same.new _ hD⟩ ?_ ?_
   ·rintro ys H1 ⟨rfl,s1⟩ hD'
    have e : b.take (S b).cps.size = b := List.take_of_length_le (by show b.length ≤ b.toArray.size; simp)
    rw [e] at hD'
    refine ⟨D,b.map fun c => decide (48 ≤ c ∧ c ≤ 57),rfl,SqL.of (by rw [hD',List.map_map]; rfl),_,rfl,?_⟩
    by_cases ad : ∀ c ∈ b,48 ≤ c ∧ c ≤ 57
    ·have ea : (b.map fun c => decide (48 ≤ c ∧ c ≤ 57)).all id = true := by
      rw [List.all_eq_true]
      intro x hx
      obtain ⟨c,hc,rfl⟩ := List.mem_map.mp hx
      exact decide_eq_true (ad c hc)
     rw [ea]
     refine iteF ?_
     obtain ⟨c0,r0,eb⟩ : ∃ c0 r0,b = c0 :: r0 := by
      cases b with
      | nil => exact absurd rfl e0
      | cons c0 r0 => exact ⟨c0,r0,rfl⟩
     refine nxt_go ?_
     refine seq_rt (fun σ' H' => σ' = [some (.str (S l)),some (.str (S b))] ∧ Same H H' ∧ ∀ r,b = 48 :: r → l = [48]) (fun D' hrt hD' => ?_) ?_
     ·refine ⟨_,rfl,S b,_,c0,rfl,rfl,lb,by rw [S_list,eb]; exact atI_nat (j := 0) rfl,rfl,_,rfl,?_⟩
      refine (show if decide (V.str (S [c0]) = V.str (S [48])) = true then _ else _ from ?_)
      by_cases c48 : c0 = 48
      ·rw [decide_eq_true (by rw [c48])]
       refine iteT ⟨_,rfl,rfl,_,rfl,?_⟩
       refine (show if (!decide (V.str (S l) = V.str (S [48]))) = true then _ else _ from ?_)
       by_cases l48 : l = [48]
       ·rw [decide_eq_true (congrArg (fun l => V.str (S l)) l48)]
        exact iteF (hD' _ _ ⟨rfl,s0.trans s1,fun _ _ => l48⟩)
       ·rw [decide_eq_false (fun q => l48 (S_inj (V.str.inj q)))]
        refine iteT (show D'.rt .non H1 from ?_)
        rw [hrt]
        exact (kN (no_zero (r := r0) (by rw [eb,c48] at hb; exact hb) l48) H1 (s0.trans s1)).1
      ·rw [decide_eq_false (fun q => c48 (List.cons.inj (S_inj (V.str.inj q))).1)]
       exact iteF (iteF (hD' _ _ ⟨rfl,s0.trans s1,fun r e => absurd (by rw [eb] at e; exact (List.cons.inj e).1) c48⟩))
     ·rintro σ' H2 ⟨rfl,s2,hz⟩
      refine ⟨_,rfl,S b,rfl,lb,_,_,rfl,rfl,_,rfl,?_⟩
      by_cases b60 : 60 < b.length
      ·rw [decide_eq_true (show (60 : Int) < ((S b).length : Int) by rw [S_len]; omega)]
       refine iteT ⟨_,_,rfl,rfl,⟨by decide,by decide,by decide⟩,_,_,rfl,rfl,⟨by decide,by decide,by decide⟩,_,_,rfl,rfl,mulR (by decide +kernel) (by decide +kernel),?_⟩
       have := (kN (no_long hb b60) H2 s2).2
       rw [show BIG = (10 : Int) ^ (60 : Int).toNat * (10 : Int) ^ (10 : Int).toNat by decide +kernel] at this
       exact this
      ·rw [decide_eq_false (show ¬ (60 : Int) < ((S b).length : Int) by rw [S_len]; omega)]
       obtain ⟨i,i1,i2,i3⟩ := is_num hb e0 ad hz (by omega)
       have l61 : l.length ≤ 61 := by
        rcases hb with h | ⟨_,h⟩
        ·rw [h]; show b.length + 1 ≤ 61; omega
        ·rw [h]; omega
       refine iteF ⟨_,rfl,S l,i,rfl,i3,by rw [S_len]; omega,kQ i H2 ?_ i1 s2⟩
       rw [i2]
       exact numOf_num (small60 i1)
    ·have ea : (b.map fun c => decide (48 ≤ c ∧ c ≤ 57)).all id = false := by
      rw [Bool.eq_false_iff]
      intro z
      rw [List.all_eq_true] at z
      exact ad fun c hc => of_decide_eq_true (z _ (List.mem_map.mpr ⟨c,hc,rfl⟩))
     rw [ea]
     obtain ⟨c,hc⟩ := Classical.not_forall.mp ad
     obtain ⟨hc,nc⟩ := Classical.not_imp.mp hc
     exact iteT (kN (no_sign hb hc nc) H1 (s0.trans s1)).1
   ·rintro i c ys H1 hc ⟨rfl,s1⟩ hD'
    have hi : i < (S b).cps.size := (Array.getElem?_eq_some_iff.mp hc).1
    have hc' : b[i]? = some c := by
     have : (S b).cps.toList[i]? = some c := by simpa using hc
     rwa [S_list] at this
    refine ⟨rfl,_,rfl,_,_,rfl,rfl,?_⟩
    rw [inDIG]
    refine ⟨hD',?_,nx hi ⟨?_,?_⟩⟩
    ·rw [List.length_map,List.length_take]
     exact Nat.lt_of_le_of_lt (show _ ≤ 1000000 by omega) (by decide)
    ·rw [List.take_add_one,hc',List.map_append]
     rfl
    ·intro b o e
     rw [upd_ne (ne_of_none e hD)]
     exact s1 b o e
end
end K85
end
section
set_option maxHeartbeats 4000000
namespace K85
open PySem L2 PyProof.Rows
abbrev s_shape : Stmt := top 61
theorem sc_shape : FnScope ["_law_kind","_law_sums"] ["_law_kind"] (defScope s_shape) := ⟨rfl,rfl,rfl,by decide +kernel,rfl,by decide +kernel,by decide +kernel⟩
def manyN : Nat → Nat
 | 2 => 2 | 7 => 2 | 8 => 2 | _ => 1
def nrN : Nat → Nat
 | 0 => 2 | 1 => 2 | 2 => 0 | 3 => 2 | 6 => 0 | _ => 1
def loN : Nat → Int
 | 0 => -((10 : Int) ^ (60 : Int).toNat) + 1 | 1 => -((10 : Int) ^ (6 : Int).toNat) | 3 => 1 | 5 => 2 | _ => 0
def hiN : Nat → Int
 | 0 => (10 : Int) ^ (60 : Int).toNat - 1 | 5 => 60 | _ => (10 : Int) ^ (6 : Int).toNat
def rngN (n : Nat) : List Int := (List.replicate (nrN n) [loN n,hiN n]).flatten
def wdsN : Nat → List (List Nat)
 | 3 => sumW | 4 => sumW | 5 => sumW | 6 => sumW | 7 => howW | _ => []
def nkN : Nat → Kd
 | 0 => .val | 1 => .fac | 3 => .len | 5 => .many | _ => .dis
def wkN : Nat → Kd
 | 7 => .how | _ => .sum
theorem form_parts : ∀ n,n < 9 → formK n = List.replicate (manyN n) .frm ++ (List.replicate (nrN n) (nkN n) ++ (if wdsN n = [] then [] else [wkN n])) := by decide
theorem rng_len (n : Nat) : (rngN n).length = 2 * nrN n := by
 unfold rngN
 rw [List.length_flatten,List.map_replicate,List.sum_replicate_nat]
 show nrN n * 2 = _
 omega
theorem within_range {n : Nat} (h : n < 9) (i : Int) : within (nkN n) i ↔ loN n ≤ i ∧ i ≤ hiN n := by
 have : n = 0 ∨ n = 1 ∨ n = 2 ∨ n = 3 ∨ n = 4 ∨ n = 5 ∨ n = 6 ∨ n = 7 ∨ n = 8 := by omega
 rcases this with rfl | rfl | rfl | rfl | rfl | rfl | rfl | rfl | rfl
 ·show i.natAbs < 10 ^ 60 ↔ -((10 : Int) ^ (60 : Int).toNat) + 1 ≤ i ∧ i ≤ (10 : Int) ^ (60 : Int).toNat - 1
  rw [ten60,ten60n]
  omega
 ·show i.natAbs ≤ 1000000 ↔ -((10 : Int) ^ (6 : Int).toNat) ≤ i ∧ i ≤ (10 : Int) ^ (6 : Int).toNat
  rw [ten6]
  omega
 all_goals first
  | (show 2 ≤ i ∧ i ≤ 60 ↔ 2 ≤ i ∧ i ≤ 60; omega)
  | (show 1 ≤ i ∧ i ≤ 1000000 ↔ 1 ≤ i ∧ i ≤ (10 : Int) ^ (6 : Int).toNat; rw [ten6])
  | (show 0 ≤ i ∧ i ≤ 1000000 ↔ 0 ≤ i ∧ i ≤ (10 : Int) ^ (6 : Int).toNat; rw [ten6])
theorem hi_big {n : Nat} (h : n < 9) : hiN n < BIG := by
 have : ∀ n,n < 9 → hiN n < BIG := by decide +kernel
 exact this n h
def spShape : Sp := fun vs H Q _ => ∃ z : List Nat,vs = [.str (S z)] ∧ (formOf z = none → ∀ H',Same H H' → Q .non H') ∧
 ∀ n,formOf z = some n → ∀ (t ra wa : Addr) (H' : Hp),Same H H' → H' t = some (.tup [.int (manyN n : Int),.ref ra,.ref wa]) → H' ra = some (.lst ((rngN n).map V.int)) → H' wa = some (.lst (namV (wdsN n))) → Q (.ref t) H'
section
variable {P : Program} {w : World} {K : PySem.W.Frag} {mg : Str → Option Value} {base : Heap} {f : Addr} {fd : FuncData}
theorem ok_shape (L : Lk K mg "_law_shape" s_shape ["_law_kind"] f fd) (T : Txt mg) : Callee P w K mg base "_law_shape" ["_law_kind"] 1 spShape := by
 refine L.callee (L.F.ok sc_shape (fun vs H Q E h => ?_) (fun cdv A outer s H vs Q E hr h => ?_))
 ·obtain ⟨z,rfl,_⟩ := h
  rfl
 ·obtain ⟨z,rfl,kN,kQ⟩ := h
  have hqq : QB ((cxOf CX0 P w K mg base ["_law_kind","_law_sums"] "_law_shape" (defScope s_shape) f cdv A outer s H E).nox) (defBody s_shape) _ := (qb_cn (qs_set (i := 1) sc_shape.nd rfl (Or.inl rfl) (qe_lst (qa_cn qe_str (qa_cn qe_str (qa_cn qe_str (qa_cn qe_str (qa_cn qe_str (qa_cn qe_str qa_nil))))))))
   (qb_cn (qs_if (qt_cmpR op_eq (qv 0) qe_str (nomark _)) (qb_one (qs_ret (qe_tup (qa_cn qe_int (qa_cn (qe_lst (qa_cn (qe_op op_add (qe_un un_neg (qe_op op_pow qe_int qe_int)) qe_int) (qa_cn (qe_op op_sub (qe_op op_pow qe_int qe_int) qe_int) (qa_cn (qe_op op_add (qe_un un_neg (qe_op op_pow qe_int qe_int)) qe_int) (qa_cn (qe_op op_sub (qe_op op_pow qe_int qe_int) qe_int) qa_nil))))) (qa_cn (qe_lst qa_nil) qa_nil)))))) qb_nil)
   (qb_cn (qs_if (qt_cmpR op_eq (qv 0) qe_str (nomark _)) (qb_one (qs_ret (qe_tup (qa_cn qe_int (qa_cn (qe_lst (qa_cn (qe_un un_neg (qe_op op_pow qe_int qe_int)) (qa_cn (qe_op op_pow qe_int qe_int) (qa_cn (qe_un un_neg (qe_op op_pow qe_int qe_int)) (qa_cn (qe_op op_pow qe_int qe_int) qa_nil))))) (qa_cn (qe_lst qa_nil) qa_nil)))))) qb_nil)
   (qb_cn (qs_if (qt_cmpR op_eq (qv 0) qe_str (nomark _)) (qb_one (qs_ret (qe_tup (qa_cn qe_int (qa_cn (qe_lst qa_nil) (qa_cn (qe_lst qa_nil) qa_nil)))))) qb_nil)
   (qb_cn (qs_if (qt_cmpR op_eq (qv 0) qe_str (nomark _)) (qb_one (qs_ret (qe_tup (qa_cn qe_int (qa_cn (qe_lst (qa_cn qe_int (qa_cn (qe_op op_pow qe_int qe_int) (qa_cn qe_int (qa_cn (qe_op op_pow qe_int qe_int) qa_nil))))) (qa_cn (qv 1) qa_nil)))))) qb_nil)
   (qb_cn (qs_if (qt_cmpR op_eq (qv 0) qe_str (nomark _)) (qb_one (qs_ret (qe_tup (qa_cn qe_int (qa_cn (qe_lst (qa_cn qe_int (qa_cn (qe_op op_pow qe_int qe_int) qa_nil))) (qa_cn (qv 1) qa_nil)))))) qb_nil)
   (qb_cn (qs_if (qt_cmpR op_eq (qv 0) qe_str (nomark _)) (qb_one (qs_ret (qe_tup (qa_cn qe_int (qa_cn (qe_lst (qa_cn qe_int (qa_cn qe_int qa_nil))) (qa_cn (qv 1) qa_nil)))))) qb_nil)
   (qb_cn (qs_if (qt_cmpR op_eq (qv 0) qe_str (nomark _)) (qb_one (qs_ret (qe_tup (qa_cn qe_int (qa_cn (qe_lst qa_nil) (qa_cn (qv 1) qa_nil)))))) qb_nil)
   (qb_cn (qs_if (qt_cmpR op_eq (qv 0) qe_str (nomark _)) (qb_one (qs_ret (qe_tup (qa_cn qe_int (qa_cn (qe_lst (qa_cn qe_int (qa_cn (qe_op op_pow qe_int qe_int) qa_nil))) (qa_cn (qe_lst (qa_cn qe_str (qa_cn qe_str (qa_cn qe_str (qa_cn qe_str qa_nil))))) qa_nil)))))) qb_nil)
   (qb_cn (qs_if (qt_cmpR op_eq (qv 0) qe_str (nomark _)) (qb_one (qs_ret (qe_tup (qa_cn qe_int (qa_cn (qe_lst (qa_cn qe_int (qa_cn (qe_op op_pow qe_int qe_int) qa_nil))) (qa_cn (qe_lst qa_nil) qa_nil)))))) qb_nil)
   (qb_one (qs_ret qe_non))))))))))))
  (with_reducible refine ⟨_,hqq.p,?_⟩)
  refine ⟨by show 6 ≤ sizeLine; decide,fun sa hsa => ?_⟩
  have s1 := Same.new (.lst [.str "count",.str "total",.str "least",.str "greatest",.str "last",.str "unlike"]) hsa
  have hs1 : (upd H sa (.lst [.str "count",.str "total",.str "least",.str "greatest",.str "last",.str "unlike"])) sa = some (.lst (namV sumW)) := upd_same
  generalize e1 : upd H sa (.lst [.str (Str.ofString "count"),.str (Str.ofString "total"),.str (Str.ofString "least"),.str (Str.ofString "greatest"),.str (Str.ofString "last"),.str (Str.ofString "unlike")]) = H1 at s1 hs1 ⊢
  cases hz : formOf z with
  | none =>
   have no : ∀ n,n < 9 → decide (V.str (S z) = V.str (S (formW n))) = false := fun n hn => decide_eq_false fun q => formOf_none hz hn (S_inj (V.str.inj q))
   refine ⟨_,rfl,rfl,_,rfl,?_⟩
   refine (show if decide (V.str (S z) = V.str (S (formW 0))) = true then _ else _ from ?_)
   rw [no 0 (by decide)]
   refine iteF ⟨_,rfl,rfl,_,rfl,?_⟩
   refine (show if decide (V.str (S z) = V.str (S (formW 1))) = true then _ else _ from ?_)
   rw [no 1 (by decide)]
   refine iteF ⟨_,rfl,rfl,_,rfl,?_⟩
   refine (show if decide (V.str (S z) = V.str (S (formW 2))) = true then _ else _ from ?_)
   rw [no 2 (by decide)]
   refine iteF ⟨_,rfl,rfl,_,rfl,?_⟩
   refine (show if decide (V.str (S z) = V.str (S (formW 3))) = true then _ else _ from ?_)
   rw [no 3 (by decide)]
   refine iteF ⟨_,rfl,rfl,_,rfl,?_⟩
   refine (show if decide (V.str (S z) = V.str (S (formW 4))) = true then _ else _ from ?_)
   rw [no 4 (by decide)]
   refine iteF ⟨_,rfl,rfl,_,rfl,?_⟩
   refine (show if decide (V.str (S z) = V.str (S (formW 5))) = true then _ else _ from ?_)
   rw [no 5 (by decide)]
   refine iteF ⟨_,rfl,rfl,_,rfl,?_⟩
   refine (show if decide (V.str (S z) = V.str (S (formW 6))) = true then _ else _ from ?_)
   rw [no 6 (by decide)]
   refine iteF ⟨_,rfl,rfl,_,rfl,?_⟩
   refine (show if decide (V.str (S z) = V.str (S (formW 7))) = true then _ else _ from ?_)
   rw [no 7 (by decide)]
   refine iteF ⟨_,rfl,rfl,_,rfl,?_⟩
   refine (show if decide (V.str (S z) = V.str (S (formW 8))) = true then _ else _ from ?_)
   rw [no 8 (by decide)]
   exact iteF (kN hz H1 s1)
  | some n =>
   obtain ⟨hn,rfl⟩ := formOf_some hz
   have kQ := kQ n hz
   have fin0 : ∀ {ra wa t : Addr} {H2 H3 : Hp},Same H1 H2 → H2 ra = none → (upd H2 ra (.lst ((rngN n).map V.int))) wa = none → wdsN n = [] → H3 = upd (upd H2 ra (.lst ((rngN n).map V.int))) wa (.lst []) → H3 t = none → Q (.ref t) (upd H3 t (.tup [.int (manyN n : Int),.ref ra,.ref wa])) := fun {ra wa t H2 H3} s2 hra hwa ew e3 ht => by
    have n3 := Same.new (.lst ((rngN n).map V.int)) hra
    have n4 := Same.new (.lst []) hwa
    rw [← e3] at n4
    have n5 := Same.new (.tup [.int (manyN n : Int),.ref ra,.ref wa]) ht
    refine kQ t ra wa _ (s1.trans (s2.trans (n3.trans (n4.trans n5)))) upd_same (n5 _ _ (n4 _ _ upd_same)) (n5 _ _ ?_)
    rw [e3,ew]
    exact upd_same
   have finS : ∀ {ra t : Addr},H1 ra = none → wdsN n = sumW → (upd H1 ra (.lst ((rngN n).map V.int))) t = none → Q (.ref t) (upd (upd H1 ra (.lst ((rngN n).map V.int))) t (.tup [.int (manyN n : Int),.ref ra,.ref sa])) := fun {ra t} hra ew ht => by
    have n3 := Same.new (.lst ((rngN n).map V.int)) hra
    have n5 := Same.new (.tup [.int (manyN n : Int),.ref ra,.ref sa]) ht
    refine kQ t ra sa _ (s1.trans (n3.trans n5)) upd_same (n5 _ _ upd_same) ?_
    rw [ew]
    exact n5 _ _ (n3 _ _ hs1)
   have : n = 0 ∨ n = 1 ∨ n = 2 ∨ n = 3 ∨ n = 4 ∨ n = 5 ∨ n = 6 ∨ n = 7 ∨ n = 8 := by omega
   rcases this with rfl | rfl | rfl | rfl | rfl | rfl | rfl | rfl | rfl
   ·refine ⟨_,rfl,rfl,_,rfl,iteT ?_⟩
    refine ⟨_,_,rfl,rfl,⟨by decide,by decide,by decide⟩,_,rfl,_,_,rfl,rfl,_,_,rfl,rfl,⟨by decide,by decide,by decide⟩,_,_,rfl,rfl,_,_,rfl,rfl,⟨by decide,by decide,by decide⟩,_,rfl,_,_,rfl,rfl,_,_,rfl,rfl,⟨by decide,by decide,by decide⟩,_,_,rfl,rfl,by show 4 ≤ sizeLine; decide,fun ra hra => ⟨by show 0 ≤ sizeLine; decide,fun wa hwa => ⟨by show 3 ≤ sizeLine; decide,fun t ht => ?_⟩⟩⟩
    exact fin0 (Same.refl H1) hra hwa rfl rfl ht
   ·refine ⟨_,rfl,rfl,_,rfl,iteF ⟨_,rfl,rfl,_,rfl,iteT ?_⟩⟩
    refine ⟨_,_,rfl,rfl,⟨by decide,by decide,by decide⟩,_,rfl,_,_,rfl,rfl,⟨by decide,by decide,by decide⟩,_,_,rfl,rfl,⟨by decide,by decide,by decide⟩,_,rfl,_,_,rfl,rfl,⟨by decide,by decide,by decide⟩,by show 4 ≤ sizeLine; decide,fun ra hra => ⟨by show 0 ≤ sizeLine; decide,fun wa hwa => ⟨by show 3 ≤ sizeLine; decide,fun t ht => ?_⟩⟩⟩
    exact fin0 (Same.refl H1) hra hwa rfl rfl ht
   ·refine ⟨_,rfl,rfl,_,rfl,iteF ⟨_,rfl,rfl,_,rfl,iteF ⟨_,rfl,rfl,_,rfl,iteT ?_⟩⟩⟩
    refine ⟨by show 0 ≤ sizeLine; decide,fun ra hra => ⟨by show 0 ≤ sizeLine; decide,fun wa hwa => ⟨by show 3 ≤ sizeLine; decide,fun t ht => ?_⟩⟩⟩
    exact fin0 (Same.refl H1) hra hwa rfl rfl ht
   ·refine ⟨_,rfl,rfl,_,rfl,iteF ⟨_,rfl,rfl,_,rfl,iteF ⟨_,rfl,rfl,_,rfl,iteF ⟨_,rfl,rfl,_,rfl,iteT ?_⟩⟩⟩⟩
    refine ⟨_,_,rfl,rfl,⟨by decide,by decide,by decide⟩,_,_,rfl,rfl,⟨by decide,by decide,by decide⟩,by show 4 ≤ sizeLine; decide,fun ra hra => ⟨_,rfl,by show 3 ≤ sizeLine; decide,fun t ht => ?_⟩⟩
    exact finS hra rfl ht
   ·refine ⟨_,rfl,rfl,_,rfl,iteF ⟨_,rfl,rfl,_,rfl,iteF ⟨_,rfl,rfl,_,rfl,iteF ⟨_,rfl,rfl,_,rfl,iteF ⟨_,rfl,rfl,_,rfl,iteT ?_⟩⟩⟩⟩⟩
    refine ⟨_,_,rfl,rfl,⟨by decide,by decide,by decide⟩,by show 2 ≤ sizeLine; decide,fun ra hra => ⟨_,rfl,by show 3 ≤ sizeLine; decide,fun t ht => ?_⟩⟩
    exact finS hra rfl ht
   ·refine ⟨_,rfl,rfl,_,rfl,iteF ⟨_,rfl,rfl,_,rfl,iteF ⟨_,rfl,rfl,_,rfl,iteF ⟨_,rfl,rfl,_,rfl,iteF ⟨_,rfl,rfl,_,rfl,iteF ⟨_,rfl,rfl,_,rfl,iteT ?_⟩⟩⟩⟩⟩⟩
    refine ⟨by show 2 ≤ sizeLine; decide,fun ra hra => ⟨_,rfl,by show 3 ≤ sizeLine; decide,fun t ht => ?_⟩⟩
    exact finS hra rfl ht
   ·refine ⟨_,rfl,rfl,_,rfl,iteF ⟨_,rfl,rfl,_,rfl,iteF ⟨_,rfl,rfl,_,rfl,iteF ⟨_,rfl,rfl,_,rfl,iteF ⟨_,rfl,rfl,_,rfl,iteF ⟨_,rfl,rfl,_,rfl,iteF ⟨_,rfl,rfl,_,rfl,iteT ?_⟩⟩⟩⟩⟩⟩⟩
    refine ⟨by show 0 ≤ sizeLine; decide,fun ra hra => ⟨_,rfl,by show 3 ≤ sizeLine; decide,fun t ht => ?_⟩⟩
    exact finS hra rfl ht
   ·refine ⟨_,rfl,rfl,_,rfl,iteF ⟨_,rfl,rfl,_,rfl,iteF ⟨_,rfl,rfl,_,rfl,iteF ⟨_,rfl,rfl,_,rfl,iteF ⟨_,rfl,rfl,_,rfl,iteF ⟨_,rfl,rfl,_,rfl,iteF ⟨_,rfl,rfl,_,rfl,iteF ⟨_,rfl,rfl,_,rfl,iteT ?_⟩⟩⟩⟩⟩⟩⟩⟩
    refine ⟨_,_,rfl,rfl,⟨by decide,by decide,by decide⟩,by show 2 ≤ sizeLine; decide,fun ra hra => ⟨by show 4 ≤ sizeLine; decide,fun wa hwa => ⟨by show 3 ≤ sizeLine; decide,fun t ht => ?_⟩⟩⟩
    have n3 := Same.new (.lst ((rngN 7).map V.int)) hra
    have n4 := Same.new (.lst (namV howW)) hwa
    have n5 := Same.new (.tup [.int (manyN 7 : Int),.ref ra,.ref wa]) ht
    exact kQ t ra wa _ (s1.trans (n3.trans (n4.trans n5))) upd_same (n5 _ _ (n4 _ _ upd_same)) (n5 _ _ upd_same)
   ·refine ⟨_,rfl,rfl,_,rfl,iteF ⟨_,rfl,rfl,_,rfl,iteF ⟨_,rfl,rfl,_,rfl,iteF ⟨_,rfl,rfl,_,rfl,iteF ⟨_,rfl,rfl,_,rfl,iteF ⟨_,rfl,rfl,_,rfl,iteF ⟨_,rfl,rfl,_,rfl,iteF ⟨_,rfl,rfl,_,rfl,iteF ⟨_,rfl,rfl,_,rfl,iteT ?_⟩⟩⟩⟩⟩⟩⟩⟩⟩
    refine ⟨_,_,rfl,rfl,⟨by decide,by decide,by decide⟩,by show 2 ≤ sizeLine; decide,fun ra hra => ⟨by show 0 ≤ sizeLine; decide,fun wa hwa => ⟨by show 3 ≤ sizeLine; decide,fun t ht => ?_⟩⟩⟩
    exact fin0 (Same.refl H1) hra hwa rfl rfl ht
end
end K85
end
section
set_option maxHeartbeats 4000000
namespace K85
open PySem L2 PyProof.Rows
theorem parts_none {kn : List (List Nat)} : ∀ {ks : List Kd} {ls : List (List Nat)} {i : Nat} {k : Kd} {l : List Nat},ks[i]? = some k → ls[i]? = some l → rdPart kn k l = none → rdParts kn ks ls = none
 | [],_,_,_,_,h,_,_ => by simp at h
 | _ :: _,[],_,_,_,_,h,_ => by simp at h
 | k :: ks,l :: ls,0,_,_,h1,h2,h => by
  cases h1
  cases h2
  unfold rdParts
  rw [h]
 | k :: ks,l :: ls,i + 1,_,_,h1,h2,h => by
  have := parts_none (ks := ks) (ls := ls) (i := i) h1 h2 h
  unfold rdParts
  rw [this]
  cases rdPart kn k l <;> rfl
theorem parts_some {kn : List (List Nat)} : ∀ {ks : List Kd} {ls : List (List Nat)} {ps : List Pt},ks.length = ls.length → ks.length = ps.length → (∀ (i : Nat) (k : Kd) (l : List Nat) (p : Pt),ks[i]? = some k → ls[i]? = some l → ps[i]? = some p → rdPart kn k l = some p) → rdParts kn ks ls = some ps
 | [],[],[],_,_,_ => rfl
 | [],_ :: _,_,h,_,_ => by cases h
 | [],[],_ :: _,_,h,_ => by cases h
 | _ :: _,[],_,h,_,_ => by cases h
 | _ :: _,_ :: _,[],_,h,_ => by cases h
 | k :: ks,l :: ls,p :: ps,h1,h2,h => by
  have a := h 0 k l p rfl rfl rfl
  have b := parts_some (ks := ks) (ls := ls) (ps := ps) (by simpa using h1) (by simpa using h2) fun i k l p e1 e2 e3 => h (i + 1) k l p e1 e2 e3
  exact rdParts_cons a b
def hwN (n : Nat) : Nat := if wdsN n = [] then 0 else 1
theorem form_len3 {n : Nat} (h : n < 9) : (formK n).length = manyN n + nrN n + hwN n := by
 have : ∀ n,n < 9 → (formK n).length = manyN n + nrN n + hwN n := by decide
 exact this n h
theorem form_frm {n i : Nat} (h : n < 9) (hi : i < manyN n) : (formK n)[i]? = some .frm := by
 rw [form_parts n h,List.getElem?_append_left (by rw [List.length_replicate]; exact hi),List.getElem?_replicate,if_pos hi]
theorem form_num {n i : Nat} (h : n < 9) (hi : i < nrN n) : (formK n)[manyN n + i]? = some (nkN n) := by
 rw [form_parts n h,List.getElem?_append_right (by rw [List.length_replicate]; omega),List.length_replicate,Nat.add_sub_cancel_left,List.getElem?_append_left (by rw [List.length_replicate]; exact hi),List.getElem?_replicate,if_pos hi]
theorem form_word {n : Nat} (h : n < 9) (hw : wdsN n ≠ []) : (formK n)[manyN n + nrN n]? = some (wkN n) := by
 rw [form_parts n h,List.getElem?_append_right (by rw [List.length_replicate]; omega),List.length_replicate,Nat.add_sub_cancel_left,List.getElem?_append_right (by rw [List.length_replicate]; omega),List.length_replicate,Nat.sub_self,if_neg hw]
 rfl
theorem num_kind {n : Nat} (h : n < 9) (hn : 0 < nrN n) {kn : List (List Nat)} (l : List Nat) : rdPart kn (nkN n) l = rdNum (nkN n) l := by
 have : n = 0 ∨ n = 1 ∨ n = 2 ∨ n = 3 ∨ n = 4 ∨ n = 5 ∨ n = 6 ∨ n = 7 ∨ n = 8 := by omega
 rcases this with rfl | rfl | rfl | rfl | rfl | rfl | rfl | rfl | rfl <;> rfl
theorem word_kind {n : Nat} (h : n < 9) (hw : wdsN n ≠ []) {kn : List (List Nat)} (l : List Nat) : rdPart kn (wkN n) l = rdNam (wdsN n) l := by
 have : n = 0 ∨ n = 1 ∨ n = 2 ∨ n = 3 ∨ n = 4 ∨ n = 5 ∨ n = 6 ∨ n = 7 ∨ n = 8 := by omega
 rcases this with rfl | rfl | rfl | rfl | rfl | rfl | rfl | rfl | rfl <;> first | rfl | exact absurd rfl hw
theorem rdNum_no {k : Kd} {l : List Nat} (h : NoNum l) : rdNum k l = none := by
 unfold rdNum
 split
 ·rename_i i e
  have := h i e
  rw [if_neg fun q => by have := within_small q; omega]
 ·rfl
theorem row_no {kn : List (List Nat)} {z f : List Nat} {ls : List (List Nat)} {n : Nat} (hf : formOf f = some n) (h : rdParts kn (formK n) ls = none) : rdRow kn (z :: f :: ls) = none := by
 show rdRest kn z ls (formOf f) = none
 rw [hf]
 show rdIn kn z n ls = none
 unfold rdIn
 rw [h]
 split <;> rfl
theorem row_yes {kn : List (List Nat)} {z f : List Nat} {ls : List (List Nat)} {n : Nat} {ps : List Pt} (hf : formOf f = some n) (hz : isName z) (hk : z ∉ kn) (h : rdParts kn (formK n) ls = some ps) : rdRow kn (z :: f :: ls) = if goes n ps then some ⟨z,n,ps⟩ else none := by
 show rdRest kn z ls (formOf f) = _
 rw [hf]
 show rdIn kn z n ls = _
 unfold rdIn
 rw [if_pos ⟨hz,hk⟩,h]
def psOf (n : Nat) (ls : List (List Nat)) (nums : List Int) : List Pt := (ls.take (manyN n)).map Pt.nam ++ (nums.map Pt.num ++ (ls.drop (manyN n + nrN n)).map Pt.nam)
theorem ps_read {kn : List (List Nat)} {n : Nat} {ls : List (List Nat)} {nums : List Int} (h : n < 9) (hl : ls.length = (formK n).length) (hk : ∀ u ∈ ls.take (manyN n),u ∈ kn) (nl : nums.length = nrN n)
  (hn : ∀ (j : Nat) (u : List Nat) (v : Int),ls[manyN n + j]? = some u → nums[j]? = some v → numOf u = some v ∧ within (nkN n) v) (hw : wdsN n = [] ∨ ∀ x,ls[manyN n + nrN n]? = some x → x ∈ wdsN n) : rdParts kn (formK n) ls = some (psOf n ls nums) := by
 have f3 := form_len3 h
 have tl : (ls.take (manyN n)).length = manyN n := by rw [List.length_take]; omega
 have dl : (ls.drop (manyN n + nrN n)).length = hwN n := by rw [List.length_drop]; omega
 refine parts_some hl.symm ?_ fun i k l p e1 e2 e3 => ?_
 ·unfold psOf
  rw [List.length_append,List.length_append,List.length_map,List.length_map,List.length_map,tl,dl,nl,f3]
  omega
 ·unfold psOf at e3
  by_cases c1 : i < manyN n
  ·rw [form_frm h c1] at e1
   cases e1
   rw [List.getElem?_append_left (by rw [List.length_map,tl]; exact c1),List.getElem?_map,List.getElem?_take,if_pos c1,e2] at e3
   cases e3
   exact rdNam_of (hk l (by
    refine List.mem_of_getElem? (i := i) ?_
    rw [List.getElem?_take,if_pos c1,e2]))
  ·obtain ⟨j,rfl⟩ : ∃ j,i = manyN n + j := ⟨i - manyN n,by omega⟩
   rw [List.getElem?_append_right (by rw [List.length_map,tl]; omega),List.length_map,tl,Nat.add_sub_cancel_left] at e3
   by_cases c2 : j < nrN n
   ·rw [form_num h c2] at e1
    cases e1
    rw [List.getElem?_append_left (by rw [List.length_map,nl]; exact c2),List.getElem?_map] at e3
    cases q : nums[j]? with
    | none => rw [q] at e3; cases e3
    | some v =>
     rw [q] at e3
     cases e3
     obtain ⟨g1,g2⟩ := hn j l v e2 q
     rw [num_kind h (by omega),rdNum_some g1,if_pos g2]
   ·obtain ⟨m,rfl⟩ : ∃ m,j = nrN n + m := ⟨j - nrN n,by omega⟩
    rw [List.getElem?_append_right (by rw [List.length_map,nl]; omega),List.length_map,nl,Nat.add_sub_cancel_left,List.getElem?_map,List.getElem?_drop] at e3
    have il := (List.getElem?_eq_some_iff.mp e2).1
    have hw1 : wdsN n ≠ [] := fun z => by
     have : hwN n = 0 := by unfold hwN; rw [if_pos z]
     omega
    have h1 : hwN n = 1 := by unfold hwN; rw [if_neg hw1]
    have m0 : m = 0 := by omega
    subst m0
    rw [show manyN n + (nrN n + 0) = manyN n + nrN n by omega] at e1 e2
    rw [show manyN n + nrN n + 0 = manyN n + nrN n by omega,e2] at e3
    cases e3
    rw [form_word h hw1] at e1
    cases e1
    rw [word_kind h hw1]
    rcases hw with z | z
    ·exact absurd z hw1
    ·exact rdNam_of (z l e2)
theorem rng_at : ∀ (m : Nat) (a b : Int) (i : Nat),i < m → (List.replicate m [a,b]).flatten[2 * i]? = some a ∧ (List.replicate m [a,b]).flatten[2 * i + 1]? = some b
 | 0,_,_,_,h => by omega
 | m + 1,a,b,0,_ => ⟨rfl,rfl⟩
 | m + 1,a,b,i + 1,h => by
  obtain ⟨h1,h2⟩ := rng_at m a b i (by omega)
  rw [List.replicate_succ,List.flatten_cons]
  exact ⟨h1,h2⟩
theorem set_mid {α : Type} (a b c : List α) (x v : α) : (a ++ (b ++ x :: c)).set (a.length + b.length) v = a ++ (b ++ [v] ++ c) := by
 rw [List.set_append_right _ _ (by omega),Nat.add_sub_cancel_left,List.set_append_right _ _ (Nat.le_refl _),Nat.sub_self,List.set_cons_zero,List.append_assoc]
 rfl
end K85
end
section
set_option maxHeartbeats 4000000
namespace K85
open PySem L2 PyProof.Rows
abbrev s_row_of : Stmt := top 63
theorem sc_row_of : FnScope ["_law_line","_law_known","_law_parts","_law_shape_here","_law_many","_law_ranges","_law_words_here","_law_row_here","_law_numbers","_law_k","_law_number_here"] ["_law_line","_law_known"] (defScope s_row_of) := ⟨rfl,rfl,rfl,by decide +kernel,rfl,by decide +kernel,by decide +kernel⟩
theorem seq_c {v : V} {j : Nat} {b : TS} {D : Ends} {σ : L2.St} {H : Hp} (h : b D (σ.set j (some v)) H) : tSeq (tAsg (tC v) (gName j)) b D σ H := h
theorem row_nm {kn : List (List Nat)} {z f : List Nat} {ls : List (List Nat)} (h : ¬ (isName z ∧ z ∉ kn)) : rdRow kn (z :: f :: ls) = none := by
 show rdRest kn z ls (formOf f) = none
 cases formOf f with
 | none => rfl
 | some n => exact if_neg h
theorem form_pos : ∀ n,n < 9 → 0 ≠ (formK n).length := by decide
theorem row_short {kn ws : List (List Nat)} (h : ¬ 2 < ws.length) : rdRow kn ws = none := by
 match ws,h with
 | [],_ => rfl
 | [_],_ => rfl
 | [z,f],_ =>
  cases e : formOf f with
  | none =>
   show rdRest kn z [] (formOf f) = none
   rw [e]
   rfl
  | some n => exact row_no e (rdParts_no (form_pos n (formOf_some e).1))
 | _ :: _ :: _ :: _,h => exact absurd (show 2 < _ + 1 + 1 + 1 by omega) h
theorem two_of {l : List Int} (h : l.length = 2) : ∃ a b,l = [a,b] := by
 match l,h with
 | [a,b],_ => exact ⟨a,b,rfl⟩
theorem three_of {ws : List (List Nat)} (h : 2 < ws.length) : ∃ z fw ls,ws = z :: fw :: ls := by
 match ws,h with
 | z :: fw :: ls,_ => exact ⟨z,fw,ls,rfl⟩
theorem goes_pick {n : Nat} {ls : List (List Nat)} {nums : List Int} {a b : Int} (n0 : n = 0) (el : ls.length = (formK n).length) (e : nums = [a,b]) : goes n (psOf n ls nums) = decide (a ≤ b) := by
 subst n0
 subst e
 match ls,el with
 | [_,_,_],_ => rfl
theorem goes_time {n : Nat} {ls : List (List Nat)} {nums : List Int} {a b : Int} (n3 : n = 3) (el : ls.length = (formK n).length) (e : nums = [a,b]) : goes n (psOf n ls nums) = decide (a ≤ 60 * b) := by
 subst n3
 subst e
 match ls,el with
 | [_,_,_,_],_ => rfl
theorem goes_else {n : Nat} {qs : List Pt} (h : n < 9) (n0 : ¬ n = 0) (n3 : ¬ n = 3) : goes n qs = true := by
 have : n = 1 ∨ n = 2 ∨ n = 4 ∨ n = 5 ∨ n = 6 ∨ n = 7 ∨ n = 8 := by omega
 rcases this with rfl | rfl | rfl | rfl | rfl | rfl | rfl <;> rfl
theorem eqL_nil (ws : List (List Nat)) : eqL (namV ws) [] = decide (ws = []) := by
 cases ws with
 | nil => rfl
 | cons w ws => rfl
theorem row_list (z : List Nat) (n : Nat) (ls : List (List Nat)) (nums : List Int) : rowV ⟨z,n,psOf n ls nums⟩ = namV (z :: formW n :: ls.take (manyN n)) ++ (nums.map V.int ++ namV (ls.drop (manyN n + nrN n))) := by
 unfold rowV psOf namV
 simp only [List.map_append,List.map_map,List.map_cons,List.cons_append]
 rfl
theorem neg_last (a : List (List Nat)) (x : List Nat) : atI (namV (a ++ [x])) (-1) = some (.str (S x)) := by
 rw [← namV_app]
 exact at_last (namV a) (.str (S x))
theorem cut_mid (z f : List Nat) (ls : List (List Nat)) (m : Nat) (h : m ≤ ls.length) : cutV (namV (z :: f :: ls)) (some 2) (some (2 + (m : Int))) = namV (ls.take m) := by
 unfold cutV
 have e1 : HT.sIx (namV (z :: f :: ls)).length 0 (some 2) = 2 := by
  have := HT.sIx_nat (namV (z :: f :: ls)).length 0 2
  rw [show (some 2 : Option Int) = some ((2 : Nat) : Int) from rfl,this,namV_len,List.length_cons,List.length_cons]
  omega
 have e2 : HT.sIx (namV (z :: f :: ls)).length (namV (z :: f :: ls)).length (some (2 + (m : Int))) = 2 + m := by
  have := HT.sIx_nat (namV (z :: f :: ls)).length (namV (z :: f :: ls)).length (2 + m)
  rw [show (some (2 + (m : Int)) : Option Int) = some ((2 + m : Nat) : Int) from congrArg some (by omega),this,namV_len,List.length_cons,List.length_cons]
  omega
 rw [e1,e2,Nat.add_sub_cancel_left]
 unfold namV
 rw [List.map_take]
 rfl
theorem end_go {σ : L2.St} {H : Hp} {t : TS} {D : Ends} (h : t D σ H) : ({ D with nx := t D } : Ends).nx σ H := h
def spRowOf : Sp := fun vs H Q _ => ∃ (kn : List (List Nat)) (l : List Nat) (ka : Addr),vs = [.str (S l),.ref ka] ∧ H ka = some (.lst (namV kn)) ∧ l.length ≤ 1000000 ∧
 (∀ r,rdRow kn (cutL 32 l) = some r → ∀ t H',H' t = some (.tup (rowV r)) → Same H H' → Q (.ref t) H') ∧ (rdRow kn (cutL 32 l) = none → ∀ H',Same H H' → Q .non H')
section
variable {P : Program} {w : World} {K : PySem.W.Frag} {mg : Str → Option Value} {base : Heap} {f : Addr} {fd : FuncData}
theorem ok_rowof (L : Lk K mg "_law_row_of" s_row_of ["_law_line","_law_known"] f fd) (T : Txt mg) (C__law_is_name : Callee P w K mg base "_law_is_name" ["_law_word"] 1 spName) (C__law_shape : Callee P w K mg base "_law_shape" ["_law_kind"] 1 spShape) (C__law_number : Callee P w K mg base "_law_number" ["_law_word"] 1 spNumber) : Callee P w K mg base "_law_row_of" ["_law_line","_law_known"] 2 spRowOf := by
 refine L.callee (L.F.ok sc_row_of (fun vs H Q E h => ?_) (fun cdv A outer s H vs Q E hr h => ?_))
 ·obtain ⟨kn,l,ka,rfl,_⟩ := h
  rfl
 ·obtain ⟨kn,l,ka,rfl,hka,hl,kQ,kN⟩ := h
  have hqq : QB ((cxOf CX0 P w K mg base ["_law_line","_law_known","_law_parts","_law_shape_here","_law_many","_law_ranges","_law_words_here","_law_row_here","_law_numbers","_law_k","_law_number_here"] "_law_row_of" (defScope s_row_of) f cdv A outer s H E).nox) (defBody s_row_of) _ := (qb_cn (qs_set (i := 2) sc_row_of.nd rfl (Or.inl rfl) (qe_bm PySem.F.plainAttrs_str PySem.F.slot_str_split PySem.F.type_str_split mt_split (qv 0) (qa_cn qe_str qa_nil)))
   (qb_cn (qs_set (i := 3) sc_row_of.nd rfl (Or.inl rfl) qe_non)
   (qb_cn (qs_if (qw_pt (qw_and (qt_cmpR op_gt (qe_callB call_len_seq (by rfl) T.len PySem.boot_len (qa_cn (qv 2) qa_nil)) qe_int (nomark _)) (qw_and (qt_val (qe_callee C__law_is_name (hr.mono (by first | decide | omega)) (by rfl) (qa_cn (qe_ix ix_list (qv 2) qe_int (fun _ _ => rfl)) qa_nil))) (qw_and1 (qt_cmpR op_notIn_seq (qe_ix ix_list (qv 2) qe_int (fun _ _ => rfl)) (qv 1) rfl))))) (qb_one (qs_set (i := 3) sc_row_of.nd rfl (Or.inl rfl) (qe_callee C__law_shape (hr.mono (by first | decide | omega)) (by rfl) (qa_cn (qe_ix ix_list (qv 2) qe_int (fun _ _ => rfl)) qa_nil)))) qb_nil)
   (qb_cn (qs_if (qt_cmpR op_isN (qv 3) qe_non (nomark _)) (qb_one (qs_ret qe_non)) qb_nil)
   (qb_cn (qs_asg (qv 3) (qg_tup rfl (qgs_cons (qg_name (i := 4) sc_row_of.nd rfl (Or.inl rfl)) (qgs_cons (qg_name (i := 5) sc_row_of.nd rfl (Or.inl rfl)) (qgs_cons (qg_name (i := 6) sc_row_of.nd rfl (Or.inl rfl)) qgs_nil)))))
   (qb_cn (qs_if (qt_cmpR op_ne (qe_callB call_len_seq (by rfl) T.len PySem.boot_len (qa_cn (qv 2) qa_nil)) (qe_op op_add (qe_op op_add (qe_op op_add qe_int (qv 4)) (qe_op op_fdiv (qe_callB call_len_seq (by rfl) T.len PySem.boot_len (qa_cn (qv 5) qa_nil)) qe_int)) (qe_callTy call_int1 (by rfl) T.int boot_int (qa_cn (qe_cmpR (op_neL (hu0 hr)) (qv 6) (qe_lst qa_nil) (nomark _)) qa_nil))) (nomark _)) (qb_one (qs_ret qe_non)) qb_nil)
   (qb_cn (qs_if (qw_pt (qw_and (qt_cmpR (op_neL (hu0 hr)) (qv 6) (qe_lst qa_nil) (nomark _)) (qw_and1 (qt_cmpR op_notIn_seq (qe_ix ix_list (qv 2) (qe_un un_neg qe_int) (fun _ _ => rfl)) (qv 6) rfl)))) (qb_one (qs_ret qe_non)) qb_nil)
   (qb_cn (qs_if (qt_not (qt_val (qe_callB (call_all_list hr.hd) (by rfl) T.all boot_all (qa_cn (qe_comp ["_law_part"] ["_law_known"] [1] ["_law_line","_law_known","_law_parts","_law_shape_here","_law_many","_law_ranges","_law_words_here","_law_row_here","_law_numbers","_law_k","_law_number_here"] (defScope s_row_of).names rfl (qi_list (qe_slice sl_list (qv 2) (qo_some qe_int) (qo_some (qe_op op_add qe_int (qv 4))))) (fun _ _ _ _ _ => (qg_name (i := 0) (show (["_law_part","_law_known"] : List Str).Nodup by decide +kernel) rfl (Or.inl rfl))) (fun _ _ _ _ _ => qts_nil) (fun _ _ _ _ _ => (qe_cmpR (op_in_seqK K rfl) (qv 0) (qv 1) rfl))) qa_nil)))) (qb_one (qs_ret qe_non)) qb_nil)
   (qb_cn (qs_set (i := 7) sc_row_of.nd rfl (Or.inl rfl) (qe_callTy call_list_of (by rfl) T.list boot_list (qa_cn (qv 2) qa_nil)))
   (qb_cn (qs_set (i := 8) sc_row_of.nd rfl (Or.inl rfl) (qe_lst qa_nil))
   (qb_cn (qs_for PassesOwn.never rfl (qi_range1 rfl T.range (qa_cn (qe_op op_fdiv (qe_callB call_len_seq (by rfl) T.len PySem.boot_len (qa_cn (qv 5) qa_nil)) qe_int) qa_nil)) (qg_name (i := 9) sc_row_of.nd rfl (Or.inl rfl)) (qb_cn (qs_set (i := 10) sc_row_of.nd rfl (Or.inl rfl) (qe_callee C__law_number (hr.mono (by first | decide | omega)) (by rfl) (qa_cn (qe_ix ix_list (qv 2) (qe_op op_add (qe_op op_add qe_int (qv 4)) (qv 9)) (fun _ _ => rfl)) qa_nil)))
   (qb_cn (qs_if (qw_pt (qw_or (qt_cmpR op_isN (qv 10) qe_non (nomark _)) (qw_or (qt_cmpR op_lt (qv 10) (qe_ix ix_list (qv 5) (qe_op op_mul qe_int (qv 9)) (fun _ _ => rfl)) (nomark _)) (qw_or1 (qt_cmpR op_gt (qv 10) (qe_ix ix_list (qv 5) (qe_op op_add (qe_op op_mul qe_int (qv 9)) qe_int) (fun _ _ => rfl)) (nomark _)))))) (qb_one (qs_ret qe_non)) qb_nil)
   (qb_cn (qs_asg (qv 10) (qg_sub (qv 7) (qe_op op_add (qe_op op_add qe_int (qv 4)) (qv 9)) set_list))
   (qb_one (qs_expr (qe_bm PySem.F.plainAttrs_list PySem.F.slot_list_append PySem.F.type_list_append mt_append (qv 8) (qa_cn (qv 10) qa_nil))))))))
   (qb_cn (qs_if (qw_pt (qw_or (qw_pt (qw_and (qt_cmpR op_eq (qe_ix ix_list (qv 2) qe_int (fun _ _ => rfl)) qe_str (nomark _)) (qw_and1 (qt_cmpR op_gt (qe_ix ix_list (qv 8) qe_int (fun _ _ => rfl)) (qe_ix ix_list (qv 8) qe_int (fun _ _ => rfl)) (nomark _))))) (qw_or1 (qw_pt (qw_and (qt_cmpR op_eq (qe_ix ix_list (qv 2) qe_int (fun _ _ => rfl)) qe_str (nomark _)) (qw_and1 (qt_cmpR op_gt (qe_ix ix_list (qv 8) qe_int (fun _ _ => rfl)) (qe_op op_mul qe_int (qe_ix ix_list (qv 8) qe_int (fun _ _ => rfl))) (nomark _)))))))) (qb_one (qs_ret qe_non)) qb_nil)
   (qb_one (qs_ret (qe_callTy call_tuple_of (by rfl) T.tuple boot_tuple (qa_cn (qv 7) qa_nil))))))))))))))))
  (with_reducible refine ⟨_,hqq.p,?_⟩)
  refine ⟨_,rfl,rfl,l,32,rfl,rfl,hl,fun ws w0 w1 w2 pa hpa => ?_⟩
  obtain rfl := cutL_eq w0 w1 w2
  rw [wv]
  have lw : ∀ u ∈ cutL 32 l,u.length ≤ 1000000 := fun u hu => Nat.le_trans (joinL_le 32 hu) (by rw [w2]; exact hl)
  have wl : (cutL 32 l).length ≤ 1000001 := by
   have := joinL_many 32 w0
   rw [w2] at this
   omega
  have s1 := Same.new (.lst (namV (cutL 32 l))) hpa
  have hp1 : (upd H pa (.lst (namV (cutL 32 l)))) pa = some (.lst (namV (cutL 32 l))) := upd_same
  generalize upd H pa (.lst (namV (cutL 32 l))) = H1 at s1 hp1 ⊢
  clear w1 w2
  generalize cutL 32 l = ws at lw wl w0 hp1 kQ kN
  have hka1 := s1 _ _ hka
  refine asg_go ?_
  refine seq_c ?_
  refine seq_rt (fun σ H' => Same H1 H' ∧ ((σ = [some (.str (S l)),some (.ref ka),some (.ref pa),some .non,none,none,none,none,none,none,none] ∧ rdRow kn ws = none) ∨ ∃ (z fw : List Nat) (ls : List (List Nat)) (n : Nat) (t ra wa : Addr),ws = z :: fw :: ls ∧ isName z ∧ z ∉ kn ∧ formOf fw = some n ∧ σ = [some (.str (S l)),some (.ref ka),some (.ref pa),some (.ref t),none,none,none,none,none,none,none] ∧ H' t = some (.tup [.int (manyN n : Int),.ref ra,.ref wa]) ∧ H' ra = some (.lst ((rngN n).map V.int)) ∧ H' wa = some (.lst (namV (wdsN n))))) (fun D' hrt hD' => ?_) ?_
  ·refine ⟨_,rfl,pa,_,rfl,.inl (SqL.of hp1),_,_,rfl,rfl,_,rfl,?_⟩
   refine (show if decide (((namV ws).length : Int) > 2) = true then _ else _ from ?_)
   by_cases l2 : 2 < ws.length
   ·rw [decide_eq_true (show ((namV ws).length : Int) > 2 by rw [namV_len]; omega)]
    obtain ⟨z,fw,ls,rfl⟩ := three_of l2
    have at0 : atI (namV (z :: fw :: ls)) 0 = some (.str (S z)) := nam_at (i := 0) rfl
    have at1 : atI (namV (z :: fw :: ls)) 1 = some (.str (S fw)) := nam_at (i := 1) rfl
    refine iteT ⟨_,rfl,pa,_,_,_,rfl,rfl,SqL.of hp1,at0,z,rfl,lw z List.mem_cons_self,fun H2 s2 => ⟨_,rfl,?_⟩⟩
    by_cases nm : isName z
    ·rw [decide_eq_true nm]
     refine iteT ⟨_,rfl,pa,_,_,_,rfl,rfl,SqL.of (s2 _ _ hp1),at0,_,rfl,ka,_,rfl,.inl (SqL.of (s2 _ _ hka1)),rfl,namV_flat kn,_,rfl,?_⟩
     refine (show if (!inV (.str (S z)) (namV kn)) = true then _ else _ from ?_)
     rw [inV_str]
     by_cases mk : z ∈ kn
     ·rw [decide_eq_true mk]
      exact iteF (hD' _ _ ⟨s2,.inl ⟨rfl,row_nm fun q => q.2 mk⟩⟩)
     ·rw [decide_eq_false mk]
      refine iteT ⟨_,rfl,pa,_,_,_,rfl,rfl,SqL.of (s2 _ _ hp1),at1,fw,rfl,fun en H3 s3 => ?_,fun n en t ra wa H3 s3 ht hra hwa => ?_⟩
      ·refine hD' _ _ ⟨s2.trans s3,.inl ⟨rfl,?_⟩⟩
       show rdRest kn z ls (formOf fw) = none
       rw [en]
       rfl
      ·exact hD' _ _ ⟨s2.trans s3,.inr ⟨z,fw,ls,n,t,ra,wa,rfl,nm,mk,en,rfl,ht,hra,hwa⟩⟩
    ·rw [decide_eq_false nm]
     exact iteF (iteF (hD' _ _ ⟨s2,.inl ⟨rfl,row_nm fun q => nm q.1⟩⟩))
   ·rw [decide_eq_false (show ¬ ((namV ws).length : Int) > 2 by rw [namV_len]; omega)]
    exact iteF (iteF (hD' _ _ ⟨Same.refl H1,.inl ⟨rfl,row_short l2⟩⟩))
  ·rintro σ H2 ⟨s2,⟨rfl,en⟩ | ⟨z,fw,ls,n,t,ra,wa,rfl,nm,mk,en,rfl,ht,hra,hwa⟩⟩
   ·exact ⟨_,rfl,rfl,_,rfl,iteT (kN en H2 (s1.trans s2))⟩
   ·refine ⟨_,rfl,rfl,_,rfl,iteF ?_⟩
    obtain ⟨n9,efw⟩ := formOf_some en
    have s02 := s1.trans s2
    have hp2 := s2 _ _ hp1
    have hka2 := s2 _ _ hka1
    have at1 : atI (namV (z :: fw :: ls)) 1 = some (.str (S fw)) := nam_at (i := 1) rfl
    have f3 := form_len3 n9
    have er : (((rngN n).map V.int).length : Int) / 2 = (nrN n : Int) := by
     rw [List.length_map,rng_len]
     omega
    have hwE : (if (!eqL (namV (wdsN n)) []) = true then (1 : Int) else 0) = (hwN n : Int) := by
     rw [eqL_nil]
     unfold hwN
     by_cases q : wdsN n = []
     ·rw [decide_eq_true q,if_pos q]; rfl
     ·rw [decide_eq_false q,if_neg q]; rfl
    refine ⟨_,rfl,t,_,rfl,SqT.of ht,rfl,_,_,rfl,_,_,rfl,_,_,rfl,rfl,?_⟩
    refine ⟨_,rfl,pa,_,rfl,.inl (SqL.of hp2),_,rfl,_,_,rfl,rfl,_,rfl,ra,_,rfl,.inl (SqL.of hra),_,_,rfl,rfl,⟨by decide,by decide⟩,_,_,rfl,rfl,_,rfl,by show 0 ≤ sizeLine; decide,fun ea hea => ?_⟩
    have n3 := Same.new (.lst []) hea
    have he3 : (upd H2 ea (.lst [])) ea = some (.lst []) := upd_same
    generalize upd H2 ea (.lst []) = H3 at n3 he3 ⊢
    refine ⟨wa,ea,_,_,rfl,rfl,SqL.of (n3 _ _ hwa),SqL.of he3,namV_flat _,rfl,.inr ⟨_,rfl,_,_,rfl,rfl,rfl,_,rfl,?_⟩⟩
    refine (show if (!decide (V.int ((namV (z :: fw :: ls)).length : Int) = V.int (2 + (manyN n : Int) + (((rngN n).map V.int).length : Int) / 2 + (if (!eqL (namV (wdsN n)) []) = true then (1 : Int) else 0)))) = true then _ else _ from ?_)
    rw [er,hwE]
    by_cases el : ls.length = (formK n).length
    ·rw [decide_eq_true (show V.int ((namV (z :: fw :: ls)).length : Int) = V.int (2 + (manyN n : Int) + (nrN n : Int) + (hwN n : Int)) by
      rw [namV_len,List.length_cons,List.length_cons]
      congr 1
      omega)]
     refine iteF (nxt_go ?_)
     refine seq_rt (fun σ H' => σ = [some (.str (S l)),some (.ref ka),some (.ref pa),some (.ref t),some (.int (manyN n : Int)),some (.ref ra),some (.ref wa),none,none,none,none] ∧ Same H2 H' ∧ (wdsN n = [] ∨ ∀ x,ls[manyN n + nrN n]? = some x → x ∈ wdsN n)) (fun D' hrt hD' => ?_) ?_
     ·refine ⟨_,rfl,by show 0 ≤ sizeLine; decide,fun eb heb => ?_⟩
      have n4 := n3.trans (Same.new (.lst []) heb)
      have he4 : (upd H3 eb (.lst [])) eb = some (.lst []) := upd_same
      generalize upd H3 eb (.lst []) = H4 at n4 he4 ⊢
      refine ⟨wa,eb,_,_,rfl,rfl,SqL.of (n4 _ _ hwa),SqL.of he4,namV_flat _,rfl,_,rfl,?_⟩
      refine (show if (!eqL (namV (wdsN n)) []) = true then _ else _ from ?_)
      rw [eqL_nil]
      by_cases hw : wdsN n = []
      ·rw [decide_eq_true hw]
       exact iteF (iteF (hD' _ _ ⟨rfl,n4,.inl hw⟩))
      ·rw [decide_eq_false hw]
       have h1 : hwN n = 1 := by unfold hwN; rw [if_neg hw]
       obtain ⟨ls',x,ex⟩ : ∃ ls' x,ls = ls' ++ [x] := by
        rcases List.eq_nil_or_concat ls with q | ⟨ls',x,q⟩
        ·rw [q] at el
         have : 0 = (formK n).length := el
         omega
        ·exact ⟨ls',x,by rw [q,List.concat_eq_append]⟩
       have ll' : ls'.length = manyN n + nrN n := by
        have : ls.length = ls'.length + 1 := by rw [ex,List.length_append]; rfl
        omega
       have hx : ls[manyN n + nrN n]? = some x := by rw [ex,← ll',List.getElem?_concat_length]
       have atl : atI (namV (z :: fw :: ls)) (-1) = some (.str (S x)) := by
        rw [ex]
        exact neg_last (z :: fw :: ls') x
       refine iteT ⟨_,rfl,_,rfl,pa,_,_,_,rfl,rfl,SqL.of (n4 _ _ hp2),atl,_,rfl,wa,_,rfl,.inl (SqL.of (n4 _ _ hwa)),rfl,namV_flat _,_,rfl,?_⟩
       refine (show if (!inV (.str (S x)) (namV (wdsN n))) = true then _ else _ from ?_)
       rw [inV_str]
       by_cases mx : x ∈ wdsN n
       ·rw [decide_eq_true mx]
        exact iteF (hD' _ _ ⟨rfl,n4,.inr fun y hy => by rw [hx] at hy; cases hy; exact mx⟩)
       ·rw [decide_eq_false mx]
        refine iteT (show D'.rt .non H4 from ?_)
        rw [hrt]
        refine kN (row_no en (parts_none (form_word n9 hw) hx ?_)) H4 (s02.trans n4)
        rw [word_kind n9 hw]
        exact if_neg mx
     ·rintro σ H4 ⟨rfl,s4,hw4⟩
      refine seq_rt (fun σ H' => σ = [some (.str (S l)),some (.ref ka),some (.ref pa),some (.ref t),some (.int (manyN n : Int)),some (.ref ra),some (.ref wa),none,none,none,none] ∧ Same H2 H' ∧ ∀ u ∈ ls.take (manyN n),u ∈ kn) (fun D' hrt hD' => ?_) ?_
      ·refine ⟨_,rfl,_,rfl,_,rfl,_,_,rfl,rfl,_,rfl,pa,_,rfl,SqL.of (s4 _ _ hp2),fun qa hqa => ?_⟩
       rw [cut_mid z fw ls (manyN n) (by omega)]
       have n5 := s4.trans (Same.new (.lst (namV (ls.take (manyN n)))) hqa)
       have hq5 : (upd H4 qa (.lst (namV (ls.take (manyN n))))) qa = some (.lst (namV (ls.take (manyN n)))) := upd_same
       generalize upd H4 qa (.lst (namV (ls.take (manyN n)))) = H5 at n5 hq5 ⊢
       have tl : (ls.take (manyN n)).length = manyN n := by rw [List.length_take]; omega
       have m2 : manyN n ≤ 2 := by
        have : ∀ n,n < 9 → manyN n ≤ 2 := by decide
        exact this n n9
       obtain ⟨sl,esl⟩ : ∃ sl,ls.take (manyN n) = sl := ⟨_,rfl⟩
       rw [esl] at hq5 tl hD'
       refine ⟨qa,rfl,⟨_,SqL.of hq5⟩,fun D hD => ?_⟩
       refine comp_list (K := K) (a := qa) (xs := namV sl) (fun i ys H' => ys = ((sl.take i).map fun u => V.bl (decide (u ∈ kn))) ∧ Same H5 H') ⟨rfl,Same.new _ hD⟩ (fun i ys H' _ ⟨_,s'⟩ => SqL.of (s' _ _ hq5)) ?_ ?_
       ·rintro ys H6 ⟨rfl,s6⟩ hD6
        rw [namV_len,List.take_length] at hD6
        refine ⟨D,sl.map fun u => decide (u ∈ kn),rfl,SqL.of (by rw [hD6,List.map_map]; rfl),_,rfl,?_⟩
        by_cases ak : ∀ u ∈ sl,u ∈ kn
        ·rw [show (sl.map fun u => decide (u ∈ kn)).all id = true by
          rw [List.all_eq_true]
          intro b hb
          obtain ⟨u,hu,rfl⟩ := List.mem_map.mp hb
          exact decide_eq_true (ak u hu)]
         exact iteF (hD' _ _ ⟨rfl,n5.trans s6,ak⟩)
        ·rw [show (sl.map fun u => decide (u ∈ kn)).all id = false by
          rw [Bool.eq_false_iff]
          intro q
          rw [List.all_eq_true] at q
          exact ak fun u hu => of_decide_eq_true (q _ (List.mem_map.mpr ⟨u,hu,rfl⟩))]
         refine iteT (show D'.rt .non H6 from ?_)
         rw [hrt]
         obtain ⟨u,hu⟩ := Classical.not_forall.mp ak
         obtain ⟨hu,nu⟩ := Classical.not_imp.mp hu
         obtain ⟨j,hj⟩ := List.getElem?_of_mem hu
         have jm : j < manyN n := by
          have := (List.getElem?_eq_some_iff.mp hj).1
          omega
         rw [← esl,List.getElem?_take,if_pos jm] at hj
         exact kN (row_no en (parts_none (form_frm n9 jm) hj (if_neg nu))) H6 (s02.trans (n5.trans s6))
       ·rintro i x ys H6 hx ⟨rfl,s6⟩ hD6
        have hi : i < (namV sl).length := (List.getElem?_eq_some_iff.mp hx).1
        unfold namV at hx
        rw [List.getElem?_map] at hx
        obtain ⟨u,hu,rfl⟩ : ∃ u,sl[i]? = some u ∧ V.str (S u) = x := by
         cases e : sl[i]? with
         | none => rw [e] at hx; cases hx
         | some u => rw [e] at hx; exact ⟨u,rfl,Option.some.inj hx⟩
        refine ⟨rfl,_,rfl,_,rfl,ka,_,rfl,.inl (SqL.of (s6 _ _ (n5 _ _ hka2))),rfl,namV_flat kn,?_⟩
        rw [show (if false = true then !inV (V.str (S u)) (namV kn) else inV (V.str (S u)) (namV kn)) = decide (u ∈ kn) from inV_str u kn]
        refine ⟨hD6,?_,nx hi ⟨?_,?_⟩⟩
        ·rw [List.length_map,List.length_take]
         exact Nat.lt_of_le_of_lt (show _ ≤ 2 by omega) (by decide)
        ·rw [take_snocS hu,List.map_append]
         rfl
        ·intro b o e
         rw [upd_ne (ne_of_none e hD)]
         exact s6 b o e
      ·rintro σ H5 ⟨rfl,s5,hk5⟩
       have hp5 := s5 _ _ hp2
       have hra5 := s5 _ _ hra
       have s05 := s02.trans s5
       refine ⟨_,rfl,pa,_,rfl,.inl (SqL.of hp5),fun rw_ hrw => ⟨by show 0 ≤ sizeLine; decide,fun nu hnu => ?_⟩⟩
       have n6 := Same.new (.lst (namV (z :: fw :: ls))) hrw
       have hr6 : (upd H5 rw_ (.lst (namV (z :: fw :: ls)))) rw_ = some (.lst (namV (z :: fw :: ls))) := upd_same
       generalize upd H5 rw_ (.lst (namV (z :: fw :: ls))) = H6 at n6 hr6 hnu ⊢
       have nnu : H5 nu = none := none_of n6 hnu
       have rn : rw_ ≠ nu := ne_of_none hr6 hnu
       have n7 := Same.new (.lst []) hnu
       have hn7 : (upd H6 nu (.lst [])) nu = some (.lst []) := upd_same
       generalize upd H6 nu (.lst []) = H7 at n7 hn7 ⊢
       have s7 := n6.trans n7
       have ntake : namV (z :: fw :: ls) = namV (z :: fw :: ls.take (manyN n)) ++ ((([] : List Int)).map V.int ++ namV (ls.drop (manyN n + 0))) := by
        rw [List.map_nil,List.nil_append,namV_app,Nat.add_zero]
        show namV (z :: fw :: ls) = namV (z :: fw :: (ls.take (manyN n) ++ ls.drop (manyN n)))
        rw [List.take_append_drop]
       have nr2 : nrN n ≤ 2 := by
        have : ∀ n,n < 9 → nrN n ≤ 2 := by decide
        exact this n n9
       refine ⟨_,rfl,ra,_,rfl,.inl (SqL.of (s7 _ _ hra5)),_,_,rfl,rfl,⟨by decide,by decide⟩,(nrN n : Int),congrArg (fun x : Int => [V.int x]) er,by omega,by omega,?_⟩
       refine for_range (n := nrN n) (fun i σ H' => ∃ (nums : List Int) (o9 o10 : Option V),σ = [some (.str (S l)),some (.ref ka),some (.ref pa),some (.ref t),some (.int (manyN n : Int)),some (.ref ra),some (.ref wa),some (.ref rw_),some (.ref nu),o9,o10] ∧ nums.length = i ∧ H' rw_ = some (.lst (namV (z :: fw :: ls.take (manyN n)) ++ (nums.map V.int ++ namV (ls.drop (manyN n + i))))) ∧ H' nu = some (.lst (nums.map V.int)) ∧ Same H5 H' ∧
        ∀ (j : Nat) (u : List Nat) (v : Int),ls[manyN n + j]? = some u → nums[j]? = some v → numOf u = some v ∧ within (nkN n) v) ⟨[],none,none,rfl,rfl,by rw [← ntake]; exact n7 _ _ hr6,hn7,s7,fun j u v _ h => by simp at h⟩ ?_ ?_
       ·rintro i σ H8 hi ⟨nums,o9,o10,rfl,nl,hr8,hn8,s8,hv⟩
        have hi : i < nrN n := hi
        have hp8 := s8 _ _ hp5
        have hra8 := s8 _ _ hra5
        have lo_hi : loN n ≤ hiN n := by
         have : ∀ n,n < 9 → loN n ≤ hiN n := by decide +kernel
         exact this n n9
        obtain ⟨u,hu⟩ : ∃ u,ls[manyN n + i]? = some u := ⟨_,List.getElem?_eq_getElem (by omega)⟩
        have ul : u.length ≤ 1000000 := lw u (List.mem_cons_of_mem _ (List.mem_cons_of_mem _ (List.mem_of_getElem? hu)))
        have atu : atI (namV (z :: fw :: ls)) (2 + (manyN n : Int) + (0 + (i : Int))) = some (.str (S u)) := by
         have := nam_at (kn := z :: fw :: ls) (i := manyN n + i + 1 + 1) (z := u) hu
         rw [show ((manyN n + i + 1 + 1 : Nat) : Int) = 2 + (manyN n : Int) + (0 + (i : Int)) by omega] at this
         exact this
        obtain ⟨r1,r2⟩ := rng_at (nrN n) (loN n) (hiN n) i hi
        have atlo : atI ((rngN n).map V.int) (2 * (0 + (i : Int))) = some (.int (loN n)) := by
         have := atI_nat (xs := (rngN n).map V.int) (j := 2 * i) (v := .int (loN n)) (by rw [List.getElem?_map]; unfold rngN; rw [r1]; rfl)
         rw [show ((2 * i : Nat) : Int) = 2 * (0 + (i : Int)) by omega] at this
         exact this
        have athi : atI ((rngN n).map V.int) (2 * (0 + (i : Int)) + 1) = some (.int (hiN n)) := by
         have := atI_nat (xs := (rngN n).map V.int) (j := 2 * i + 1) (v := .int (hiN n)) (by rw [List.getElem?_map]; unfold rngN; rw [r2]; rfl)
         rw [show ((2 * i + 1 : Nat) : Int) = 2 * (0 + (i : Int)) + 1 by omega] at this
         exact this
        have bad : rdNum (nkN n) u = none → rdRow kn (z :: fw :: ls) = none := fun h => row_no en (parts_none (form_num n9 hi) hu (by rw [num_kind n9 (by omega)]; exact h))
        refine ⟨_,rfl,_,rfl,_,_,rfl,rfl,_,rfl,_,_,rfl,rfl,pa,_,_,_,rfl,rfl,SqL.of hp8,atu,u,rfl,ul,fun j H9 ej j60 s9 => ?_,fun no H9 s9 => ⟨?_,?_⟩⟩
        ·have hra9 := s9 _ _ hra8
         refine ⟨_,rfl,rfl,_,rfl,iteF ⟨_,rfl,_,rfl,_,rfl,_,_,rfl,rfl,mulL (by decide) (by decide),ra,_,_,_,rfl,rfl,SqL.of hra9,atlo,_,_,rfl,rfl,_,rfl,?_⟩⟩
         by_cases c1 : j < loN n
         ·rw [decide_eq_true c1]
          exact iteT (iteT (kN (bad (by rw [rdNum_some ej,if_neg fun q => by have := ((within_range n9 j).mp q).1; omega])) H9 (s05.trans (s8.trans s9))))
         rw [decide_eq_false c1]
         refine iteF ⟨_,rfl,_,rfl,_,rfl,_,_,rfl,rfl,mulL (by decide) (by decide),_,_,rfl,rfl,ra,_,_,_,rfl,rfl,SqL.of hra9,athi,_,_,rfl,rfl,_,rfl,?_⟩
         refine (show if decide (j > hiN n) = true then _ else _ from ?_)
         by_cases c2 : j > hiN n
         ·rw [decide_eq_true c2]
          exact iteT (kN (bad (by rw [rdNum_some ej,if_neg fun q => by have := ((within_range n9 j).mp q).2; omega])) H9 (s05.trans (s8.trans s9)))
         rw [decide_eq_false c2]
         have tl : (ls.take (manyN n)).length = manyN n := by rw [List.length_take]; omega
         have eA : (namV (z :: fw :: ls.take (manyN n))).length = 2 + manyN n := by rw [namV_len,List.length_cons,List.length_cons,tl]; omega
         have ed : ls.drop (manyN n + i) = u :: ls.drop (manyN n + (i + 1)) := by
          obtain ⟨hi',e⟩ := List.getElem?_eq_some_iff.mp hu
          rw [List.drop_eq_getElem_cons hi',e]
          rfl
         have eM : (nums.map V.int).length = i := by rw [List.length_map,nl]
         have hr9 := s9 _ _ hr8
         have hn9 := s9 _ _ hn8
         rw [ed] at hr9
         have eset : (namV (z :: fw :: ls.take (manyN n)) ++ (nums.map V.int ++ namV (u :: ls.drop (manyN n + (i + 1))))).set (2 + manyN n + i) (.int j) = namV (z :: fw :: ls.take (manyN n)) ++ ((nums ++ [j]).map V.int ++ namV (ls.drop (manyN n + (i + 1)))) := by
          have := set_mid (namV (z :: fw :: ls.take (manyN n))) (nums.map V.int) (namV (ls.drop (manyN n + (i + 1)))) (.str (S u)) (.int j)
          rw [eA,eM] at this
          rw [List.map_append]
          exact this
         refine iteF ⟨_,rfl,_,rfl,_,rfl,_,_,rfl,rfl,_,rfl,_,_,rfl,rfl,rw_,_,_,2 + manyN n + i,rfl,rfl,hr9,?_,?_⟩
         ·have := ixN_nat (n := (namV (z :: fw :: ls.take (manyN n)) ++ (nums.map V.int ++ namV (u :: ls.drop (manyN n + (i + 1))))).length) (j := 2 + manyN n + i) (by
           rw [List.length_append,List.length_append,eA,eM,namV_len,List.length_cons]
           omega)
          rw [show ((2 + manyN n + i : Nat) : Int) = 2 + (manyN n : Int) + (0 + (i : Int)) by omega] at this
          exact this
         rw [eset]
         have hr10 : (upd H9 rw_ (.lst (namV (z :: fw :: ls.take (manyN n)) ++ ((nums ++ [j]).map V.int ++ namV (ls.drop (manyN n + (i + 1))))))) rw_ = some (.lst (namV (z :: fw :: ls.take (manyN n)) ++ ((nums ++ [j]).map V.int ++ namV (ls.drop (manyN n + (i + 1)))))) := upd_same
         have hn10 : (upd H9 rw_ (.lst (namV (z :: fw :: ls.take (manyN n)) ++ ((nums ++ [j]).map V.int ++ namV (ls.drop (manyN n + (i + 1))))))) nu = some (.lst (nums.map V.int)) := by rw [upd_ne rn.symm]; exact hn9
         have s10 : Same H5 (upd H9 rw_ (.lst (namV (z :: fw :: ls.take (manyN n)) ++ ((nums ++ [j]).map V.int ++ namV (ls.drop (manyN n + (i + 1))))))) := fun b o e => by
          rw [upd_ne (ne_of_none e hrw)]
          exact s9 _ _ (s8 _ _ e)
         generalize upd H9 rw_ (.lst (namV (z :: fw :: ls.take (manyN n)) ++ ((nums ++ [j]).map V.int ++ namV (ls.drop (manyN n + (i + 1)))))) = H10 at hr10 hn10 s10 ⊢
         refine ⟨_,rfl,.inl ⟨rfl,_,SqL.of hn10⟩,_,rfl,nu,_,_,rfl,rfl,hn10,by rw [eM]; exact Nat.lt_of_le_of_lt (show i ≤ 2 by omega) (by decide),?_⟩
         refine ⟨nums ++ [j],_,_,rfl,by rw [List.length_append,nl]; rfl,by rw [upd_ne rn]; exact hr10,by rw [upd_same,List.map_append]; rfl,fun b o e => ?_,fun m u' v hu' hv' => ?_⟩
         ·rw [upd_ne (ne_of_none e nnu)]
          exact s10 _ _ e
         ·rw [List.getElem?_append] at hv'
          split at hv'
          ·exact hv m u' v hu' hv'
          ·rename_i ge
           have m0 : m - nums.length = 0 := by
            cases q : m - nums.length with
            | zero => rfl
            | succ x => rw [q] at hv'; cases hv'
           rw [m0] at hv'
           cases hv'
           obtain rfl : m = i := by omega
           rw [hu] at hu'
           cases hu'
           exact ⟨ej,(within_range n9 _).mpr ⟨by omega,by omega⟩⟩
        ·exact ⟨_,rfl,rfl,_,rfl,iteT (iteT (kN (bad (rdNum_no no)) H9 (s05.trans (s8.trans s9))))⟩
        ·have hra9 := s9 _ _ hra8
         have hb := hi_big n9
         refine ⟨_,rfl,rfl,_,rfl,iteF ⟨_,rfl,_,rfl,_,rfl,_,_,rfl,rfl,mulL (by decide) (by decide),ra,_,_,_,rfl,rfl,SqL.of hra9,atlo,_,_,rfl,rfl,_,rfl,?_⟩⟩
         rw [decide_eq_false (show ¬ BIG < loN n by omega)]
         refine iteF ⟨_,rfl,_,rfl,_,rfl,_,_,rfl,rfl,mulL (by decide) (by decide),_,_,rfl,rfl,ra,_,_,_,rfl,rfl,SqL.of hra9,athi,_,_,rfl,rfl,_,rfl,?_⟩
         refine (show if decide (BIG > hiN n) = true then _ else _ from ?_)
         rw [decide_eq_true (show BIG > hiN n from hb)]
         exact iteT (kN (bad (rdNum_no no)) H9 (s05.trans (s8.trans s9)))
       ·rintro σ H8 ⟨nums,o9,o10,rfl,nl,hr8,hn8,s8,hv⟩
        have rd := ps_read n9 el hk5 nl hv hw4
        have ry := row_yes (z := z) en nm mk rd
        have hp8 := s8 _ _ hp5
        have s08 := s05.trans s8
        have eP : ∀ m,m < 9 → decide (V.str (S fw) = V.str (S (formW m))) = decide (n = m) := fun m hm => by
         rw [← efw,Bool.eq_iff_iff,decide_eq_true_iff,decide_eq_true_iff]
         exact ⟨fun q => form_inj n9 hm (S_inj (V.str.inj q)),fun q => by rw [q]⟩
        refine end_go ?_
        refine seq_rt (fun σ H' => σ = [some (.str (S l)),some (.ref ka),some (.ref pa),some (.ref t),some (.int (manyN n : Int)),some (.ref ra),some (.ref wa),some (.ref rw_),some (.ref nu),o9,o10] ∧ H' = H8 ∧ goes n (psOf n ls nums) = true) (fun D' hrt hD' => ?_) ?_
        ·refine ⟨_,rfl,pa,_,_,_,rfl,rfl,SqL.of hp8,at1,rfl,_,rfl,?_⟩
         refine (show if decide (V.str (S fw) = V.str (S (formW 0))) = true then _ else _ from ?_)
         rw [eP 0 (by decide)]
         by_cases n0 : n = 0
         ·rw [decide_eq_true n0]
          obtain ⟨a,b,enum⟩ := two_of (l := nums) (by rw [nl,n0]; rfl)
          have hg := goes_pick n0 el enum
          have i0 : atI (nums.map V.int) 0 = some (.int a) := by rw [enum]; rfl
          have i1 : atI (nums.map V.int) 1 = some (.int b) := by rw [enum]; rfl
          refine iteT ⟨_,rfl,nu,_,_,_,rfl,rfl,SqL.of hn8,i0,_,rfl,nu,_,_,_,rfl,rfl,SqL.of hn8,i1,_,_,rfl,rfl,_,rfl,?_⟩
          refine (show if decide (a > b) = true then _ else _ from ?_)
          by_cases ab : a > b
          ·rw [decide_eq_true ab]
           refine iteT (iteT (show D'.rt .non H8 from ?_))
           rw [hrt]
           exact kN (by rw [ry,hg,decide_eq_false (by omega)]; rfl) H8 s08
          ·rw [decide_eq_false ab]
           refine iteF ⟨_,rfl,pa,_,_,_,rfl,rfl,SqL.of hp8,at1,rfl,_,rfl,?_⟩
           refine (show if decide (V.str (S fw) = V.str (S (formW 3))) = true then _ else _ from ?_)
           rw [eP 3 (by decide),decide_eq_false (show ¬ n = 3 by omega)]
           exact iteF (iteF (hD' _ _ ⟨rfl,rfl,by rw [hg]; exact decide_eq_true (by omega)⟩))
         ·rw [decide_eq_false n0]
          refine iteF (iteF ⟨_,rfl,pa,_,_,_,rfl,rfl,SqL.of hp8,at1,rfl,_,rfl,?_⟩)
          refine (show if decide (V.str (S fw) = V.str (S (formW 3))) = true then _ else _ from ?_)
          rw [eP 3 (by decide)]
          by_cases n3 : n = 3
          ·rw [decide_eq_true n3]
           obtain ⟨a,b,enum⟩ := two_of (l := nums) (by rw [nl,n3]; rfl)
           have hg := goes_time n3 el enum
           have i0 : atI (nums.map V.int) 0 = some (.int a) := by rw [enum]; rfl
           have i1 : atI (nums.map V.int) 1 = some (.int b) := by rw [enum]; rfl
           refine iteT ⟨_,rfl,nu,_,_,_,rfl,rfl,SqL.of hn8,i0,_,rfl,nu,_,_,_,rfl,rfl,SqL.of hn8,i1,_,_,rfl,rfl,mulL (by decide) (by decide),_,_,rfl,rfl,_,rfl,?_⟩
           refine (show if decide (a > 60 * b) = true then _ else _ from ?_)
           by_cases ab : a > 60 * b
           ·rw [decide_eq_true ab]
            refine iteT (show D'.rt .non H8 from ?_)
            rw [hrt]
            exact kN (by rw [ry,hg,decide_eq_false (by omega)]; rfl) H8 s08
           ·rw [decide_eq_false ab]
            exact iteF (hD' _ _ ⟨rfl,rfl,by rw [hg]; exact decide_eq_true (by omega)⟩)
          ·rw [decide_eq_false n3]
           exact iteF (iteF (hD' _ _ ⟨rfl,rfl,goes_else n9 n0 n3⟩))
        ·rintro σ H9 ⟨rfl,rfl,hg⟩
         refine ⟨_,rfl,rw_,_,rfl,.inl ⟨SqL.of hr8,fun t' ht' => ?_⟩⟩
         refine kQ ⟨z,n,psOf n ls nums⟩ (by rw [ry,if_pos hg]) t' _ ?_ (s08.trans (Same.new _ ht'))
         rw [upd_same,row_list,efw]
    ·rw [decide_eq_false (show ¬ V.int ((namV (z :: fw :: ls)).length : Int) = V.int (2 + (manyN n : Int) + (nrN n : Int) + (hwN n : Int)) from fun q => el (by
      have q := V.int.inj q
      rw [namV_len,List.length_cons,List.length_cons] at q
      omega))]
     exact iteT (kN (row_no en (rdParts_no el)) H3 (s02.trans n3))
end
end K85
end
section
set_option maxHeartbeats 4000000
namespace K85
open PySem L2 PyProof.Rows
abbrev s_due : Stmt := top 64
theorem sc_due : FnScope ["_law_words_here","_law_streams","_law_rows_here","_law_pairs","_law_line","_law_row_here"] ["_law_words_here","_law_streams"] (defScope s_due) := ⟨rfl,rfl,rfl,by decide +kernel,rfl,by decide +kernel,by decide +kernel⟩
abbrev s_told : Stmt := top 65
theorem sc_told : FnScope ["_law_words_here","_law_streams","_law_told_here","e"] ["_law_words_here","_law_streams"] (defScope s_told) := ⟨rfl,rfl,rfl,by decide +kernel,rfl,by decide +kernel,by decide +kernel⟩
abbrev s_refused : Stmt := top 66
theorem sc_refused : FnScope ["_law_words_here","_law_streams","e"] ["_law_words_here","_law_streams"] (defScope s_refused) := ⟨rfl,rfl,rfl,by decide +kernel,rfl,by decide +kernel,by decide +kernel⟩
theorem rdRow_four {kn ws : List (List Nat)} {r : Row} (h : rdRow kn ws = some r) : r.ps.length ≤ 4 := by
 obtain ⟨_,n9,_,_,e⟩ := rdRow_some h
 rw [e]
 exact form_len n9
def spDue : Sp := fun vs H Q _ => ∃ (kn : List (List Nat)) (l : List Nat) (sa : Addr),vs = [.str (S l),.ref sa] ∧ H sa = some (.lst (namV kn)) ∧ kn.length ≤ 1000 ∧ l.length ≤ 1000000 ∧
 (∀ rs,rdText kn l = .inr rs → rs.length ≤ 100 → (∀ r ∈ rs,r.ps.length ≤ 4) → ∀ t D us H',H' t = some (.tup [.str "told",.ref D]) → H' D = some (.lst us) → TupsAt H' us rs → Same H H' → Q (.ref t) H') ∧
 ∀ at_ : Nat,rdText kn l = .inl at_ → ∀ t H',H' t = some (.tup [.str "refused",.int (at_ : Int)]) → Same H H' → Q (.ref t) H'
def spTold : Sp := fun vs H Q _ => ∃ (kn : List (List Nat)) (l : List Nat) (sa : Addr),vs = [.str (S l),.ref sa] ∧ H sa = some (.lst (namV kn)) ∧ kn.length ≤ 1000 ∧ l.length ≤ 1000000 ∧
 (∀ rs,rdText kn l = .inr rs → ∀ t D us H',H' t = some (.tup [.str "told",.ref D]) → H' D = some (.lst us) → TupsAt H' us rs → SameX H H' → Q (.ref t) H') ∧
 ∀ at_ : Nat,rdText kn l = .inl at_ → ∀ t H',H' t = some (.tup [.str "refused",.int (at_ : Int)]) → SameX H H' → Q (.ref t) H'
def spRefused : Sp := fun vs H Q _ => ∃ (kn : List (List Nat)) (l : List Nat) (sa : Addr) (at_ : Nat),vs = [.str (S l),.ref sa] ∧ H sa = some (.lst (namV kn)) ∧ kn.length ≤ 1000 ∧ l.length ≤ 1000000 ∧ rdText kn l = .inl at_ ∧ ∀ H',SameX H H' → Q (.bl true) H'
structure DInv (kn : List (List Nat)) (l : List Nat) (ra la : Addr) (H : Hp) (i : Nat) (H' : Hp) (rs : List Row) (us : List V) : Prop where
 la : H' la = some (.lst (namV (cutL 10 l)))
 ra : H' ra = some (.lst us)
 tu : TupsAt H' us rs
 ln : rs.length = i
 i8 : i ≤ 8
 sm : Same H H'
 p4 : ∀ r ∈ rs,r.ps.length ≤ 4
 rd : rdQ (kn ++ rs.map Row.z) rs ((cutL 10 l).drop i) = rdText kn l
theorem Same.tx {H H' : Hp} (s : Same H H') : TupX H H' := fun t vs h => s _ _ h
section
variable {P : Program} {w : World} {K : PySem.W.Frag} {mg : Str → Option Value} {base : Heap} {f : Addr} {fd : FuncData} {NT W NQ : Addr}
theorem ok_due (L : Lk K mg "_law_due" s_due ["_law_words_here","_law_streams"] f fd) (T : Txt mg) (C__law_row_of : Callee P w K mg base "_law_row_of" ["_law_line","_law_known"] 2 spRowOf) : Callee P w K mg base "_law_due" ["_law_words_here","_law_streams"] 3 spDue := by
 refine L.callee (L.F.ok sc_due (fun vs H Q E h => ?_) (fun cdv A outer s H vs Q E hr h => ?_))
 ·obtain ⟨kn,l,sa,rfl,_⟩ := h
  rfl
 ·obtain ⟨kn,l,sa,rfl,hsa,hkn,hl,kQ,kE⟩ := h
  have hqq : QB ((cxOf CX0 P w K mg base ["_law_words_here","_law_streams","_law_rows_here","_law_pairs","_law_line","_law_row_here"] "_law_due" (defScope s_due) f cdv A outer s H E).nox) (defBody s_due) _ := (qb_cn (qs_set (i := 2) sc_due.nd rfl (Or.inl rfl) (qe_lst qa_nil))
   (qb_cn (qs_set (i := 3) sc_due.nd rfl (Or.inl rfl) qe_int)
   (qb_cn (qs_for PassesOwn.never rfl (qi_list (qe_bm PySem.F.plainAttrs_str PySem.F.slot_str_split PySem.F.type_str_split mt_split (qv 0) (qa_cn qe_str qa_nil))) (qg_name (i := 4) sc_due.nd rfl (Or.inl rfl)) (qb_cn (qs_set (i := 5) sc_due.nd rfl (Or.inl rfl) (qe_callee C__law_row_of (hr.mono (by first | decide | omega)) (by rfl) (qa_cn (qv 4) (qa_cn (qe_op op_cat (qv 1) (qe_comp ["_law_one"] [] [] ["_law_words_here","_law_streams","_law_rows_here","_law_pairs","_law_line","_law_row_here"] (defScope s_due).names rfl (qi_list (qv 2)) (fun _ _ _ _ _ => (qg_name (i := 0) (show (["_law_one"] : List Str).Nodup by decide +kernel) rfl (Or.inl rfl))) (fun _ _ _ _ _ => qts_nil) (fun _ _ _ _ _ => (qe_ix (ix_tupK K rfl) (qv 0) qe_int (fun _ _ => rfl))))) qa_nil))))
   (qb_cn (qs_if (qw_pt (qw_and (qt_cmpR op_notN (qv 5) qe_non (nomark _)) (qw_and1 (qt_cmpR op_eq (qe_ix ix_tup (qv 5) qe_int (fun _ _ => rfl)) qe_str (nomark _))))) (qb_one (qs_set (i := 3) sc_due.nd rfl (Or.inl rfl) (qe_op op_add (qv 3) qe_int))) qb_nil)
   (qb_cn (qs_if (qw_pt (qw_or (qt_cmpR op_isN (qv 5) qe_non (nomark _)) (qw_or (qt_cmpR op_eq (qe_callB call_len_seq (by rfl) T.len PySem.boot_len (qa_cn (qv 2) qa_nil)) qe_int (nomark _)) (qw_or1 (qt_cmpR op_gt (qv 3) qe_int (nomark _)))))) (qb_one (qs_ret (qe_tup (qa_cn qe_str (qa_cn (qe_callB call_len_seq (by rfl) T.len PySem.boot_len (qa_cn (qv 2) qa_nil)) qa_nil))))) qb_nil)
   (qb_one (qs_expr (qe_bm PySem.F.plainAttrs_list PySem.F.slot_list_append PySem.F.type_list_append mt_append (qv 2) (qa_cn (qv 5) qa_nil))))))))
   (qb_one (qs_ret (qe_tup (qa_cn qe_str (qa_cn (qv 2) qa_nil))))))))
  (with_reducible refine ⟨_,hqq.p,?_⟩)
  refine ⟨by show 0 ≤ sizeLine; decide,fun ra hra => ?_⟩
  have n1 := Same.new (.lst []) hra
  have hra1 : (upd H ra (.lst [])) ra = some (.lst []) := upd_same
  generalize upd H ra (.lst []) = H1 at n1 hra1 ⊢
  refine ⟨_,rfl,rfl,l,10,rfl,rfl,hl,fun ws w0 w1 w2 la hla => ⟨la,rfl,⟨_,SqL.of upd_same⟩,?_⟩⟩
  obtain rfl := cutL_eq w0 w1 w2
  rw [wv]
  have n2 := n1.trans (Same.new (.lst (namV (cutL 10 l))) hla)
  have hla2 : (upd H1 la (.lst (namV (cutL 10 l)))) la = some (.lst (namV (cutL 10 l))) := upd_same
  have hra2 := Same.new (.lst (namV (cutL 10 l))) hla _ _ hra1
  have rl : la ≠ ra := (ne_of_none hra1 hla).symm
  have nla : H la = none := none_of n1 hla
  generalize upd H1 la (.lst (namV (cutL 10 l))) = H2 at n2 hla2 hra2 ⊢
  have lws : ∀ u ∈ cutL 10 l,u.length ≤ 1000000 := fun u hu => Nat.le_trans (joinL_le 10 hu) (by rw [w2]; exact hl)
  refine for_list (K := K) (a := la) (xs := namV (cutL 10 l)) (fun i σ H' => ∃ rs us o4 o5,σ = [some (.str (S l)),some (.ref sa),some (.ref ra),some (.int (pairsOf rs : Int)),o4,o5] ∧ DInv kn l ra la H i H' rs us) ⟨[],[],none,none,rfl,⟨hla2,hra2,trivial,rfl,Nat.zero_le _,n2,(fun r hr => by cases hr),by rw [List.map_nil,List.append_nil]; rfl⟩⟩ (fun i σ H' _ ⟨_,_,_,_,_,q⟩ => SqL.of q.la) ?_ ?_
  ·rintro i x σ H3 hx ⟨rs,us,o4,o5,rfl,I⟩
   unfold namV at hx
   rw [List.getElem?_map] at hx
   obtain ⟨u,hu,rfl⟩ : ∃ u,(cutL 10 l)[i]? = some u ∧ V.str (S u) = x := by
    cases e : (cutL 10 l)[i]? with
    | none => rw [e] at hx; cases hx
    | some u => rw [e] at hx; exact ⟨u,rfl,Option.some.inj hx⟩
   have ed : (cutL 10 l).drop i = u :: (cutL 10 l).drop (i + 1) := by
    obtain ⟨hi,e⟩ := List.getElem?_eq_some_iff.mp hu
    rw [List.drop_eq_getElem_cons hi,e]
   have rd := I.rd
   rw [ed] at rd
   have ln := I.ln
   have i8 := I.i8
   have lu := I.tu.length
   refine ⟨_,rfl,_,rfl,_,rfl,ra,rfl,⟨_,SqL.of I.ra⟩,fun D hD => ?_⟩
   refine comp_list (K := K) (a := ra) (xs := us) (fun j ys H' => ys = namV ((rs.take j).map Row.z) ∧ Same H3 H') ⟨rfl,Same.new _ hD⟩ (fun j ys H' _ ⟨_,s'⟩ => SqL.of (s' _ _ I.ra)) ?_ ?_
   ·rintro ys H4 ⟨rfl,s4⟩ hD4
    rw [lu,List.take_length] at hD4
    refine ⟨sa,D,_,_,rfl,rfl,s4 _ _ (I.sm _ _ hsa),hD4,?_,fun q hq => ?_⟩
    ·rw [namV_len,namV_len,List.length_map]
     exact Nat.le_trans (show _ ≤ 1010 by omega) (by decide)
    rw [namV_app]
    have s5 := s4.trans (Same.new (.lst (namV (kn ++ rs.map Row.z))) hq)
    have hq5 : (upd H4 q (.lst (namV (kn ++ rs.map Row.z)))) q = some (.lst (namV (kn ++ rs.map Row.z))) := upd_same
    generalize upd H4 q (.lst (namV (kn ++ rs.map Row.z))) = H5 at s5 hq5 ⊢
    have fail : ∀ (H' : Hp),Same H3 H' → rdQ (kn ++ rs.map Row.z) rs (u :: (cutL 10 l).drop (i + 1)) = .inl rs.length → ∀ t,H' t = none → Q (.ref t) (upd H' t (.tup [.str "refused",.int (us.length : Int)])) := fun H' s' e t ht =>
     kE rs.length (by rw [← rd,e]) t _ (by rw [upd_same,lu]) ((I.sm.trans s').trans (Same.new _ ht))
    refine ⟨kn ++ rs.map Row.z,u,q,rfl,hq5,lws u (List.mem_of_getElem? hu),fun r er t H6 ht s6 => ?_,fun en H6 s6 => ?_⟩
    ·have s36 := s5.trans s6
     have hra6 := s36 _ _ I.ra
     obtain ⟨_,r9,_,_,_⟩ := rdRow_some er
     refine asg_go ?_
     refine seq_by (fun σ H' => σ = [some (.str (S l)),some (.ref sa),some (.ref ra),some (.int (pairsOf (rs ++ [r]) : Int)),some (.str (S u)),some (.ref t)] ∧ H' = H6) (fun D' hD' => ?_) ?_
     ·have at1 : atI (rowV r) 1 = some (.str (S (formW r.n))) := atI_nat (j := 1) rfl
      refine ⟨_,rfl,rfl,_,rfl,iteT ⟨_,rfl,t,_,_,_,rfl,rfl,SqT.of ht,at1,rfl,_,rfl,?_⟩⟩
      refine (show if decide (V.str (S (formW r.n)) = V.str (S (formW 7))) = true then _ else _ from ?_)
      have ep := pairs_snoc rs r.z r.n r.ps
      have er' : (⟨r.z,r.n,r.ps⟩ : Row) = r := rfl
      rw [er'] at ep
      by_cases r7 : r.n = 7
      ·rw [decide_eq_true (by rw [r7])]
       rw [if_pos r7] at ep
       refine iteT ⟨_,rfl,_,_,rfl,rfl,?_⟩
       refine hD' _ _ ⟨?_,rfl⟩
       rw [ep]
       rfl
      ·rw [decide_eq_false (fun z => r7 (form_inj r9 (by decide) (S_inj (V.str.inj z))))]
       rw [if_neg r7,Int.add_zero] at ep
       refine iteF (hD' _ _ ⟨?_,rfl⟩)
       rw [ep]
       rfl
     ·rintro σ H7 ⟨rfl,rfl⟩
      refine ⟨_,rfl,rfl,_,rfl,iteF ⟨_,rfl,ra,_,rfl,.inl (SqL.of hra6),rfl,_,rfl,?_⟩⟩
      refine (show if decide (V.int (us.length : Int) = V.int 8) = true then _ else _ from ?_)
      by_cases e8 : us.length = 8
      ·rw [decide_eq_true (show V.int (us.length : Int) = V.int 8 by rw [e8]; rfl)]
       refine iteT (iteT ⟨_,rfl,ra,_,rfl,.inl (SqL.of hra6),by show 2 ≤ sizeLine; decide,fun t' ht' => fail H7 s36 ?_ t' ht'⟩)
       unfold rdQ
       rw [er]
       exact if_pos (.inl (by omega))
      ·rw [decide_eq_false (show ¬ V.int (us.length : Int) = V.int 8 from fun z => e8 (by have := V.int.inj z; omega))]
       refine iteF ⟨_,rfl,_,_,rfl,rfl,_,rfl,?_⟩
       refine (show if decide ((pairsOf (rs ++ [r]) : Int) > 2) = true then _ else _ from ?_)
       by_cases p2 : 2 < pairsOf (rs ++ [r])
       ·rw [decide_eq_true (show (pairsOf (rs ++ [r]) : Int) > 2 by omega)]
        refine iteT ⟨_,rfl,ra,_,rfl,.inl (SqL.of hra6),by show 2 ≤ sizeLine; decide,fun t' ht' => fail H7 s36 ?_ t' ht'⟩
        unfold rdQ
        rw [er]
        exact if_pos (.inr p2)
       ·rw [decide_eq_false (show ¬ (pairsOf (rs ++ [r]) : Int) > 2 by omega)]
        refine iteF ⟨_,rfl,.inl ⟨rfl,_,SqL.of hra6⟩,_,rfl,ra,us,_,rfl,rfl,hra6,Nat.lt_of_lt_of_le (show us.length < 9 by omega) (by decide),?_⟩
        have x7 : TupX H7 (upd H7 ra (.lst (us ++ [.ref t]))) := TupX.upd fun vs z => by rw [hra6] at z; cases z
        refine ⟨rs ++ [r],us ++ [.ref t],_,_,rfl,⟨?_,upd_same,((I.tu.mono (Same.tx s36)).mono x7).snoc (x7 _ _ ht),?_,by omega,fun b o e => ?_,fun r' h' => ?_,?_⟩⟩
        ·rw [upd_ne rl]; exact s36 _ _ I.la
        ·rw [List.length_append,ln]; rfl
        ·rw [upd_ne (ne_of_none e hra)]
         exact s36 _ _ (I.sm _ _ e)
        ·rcases List.mem_append.mp h' with h | h
         ·exact I.p4 r' h
         ·rw [List.mem_singleton.mp h]; exact rdRow_four er
        ·rw [← rd]
         conv => rhs; unfold rdQ
         rw [er,List.map_append,← List.append_assoc]
         exact (if_neg (fun q => q.elim (fun z => by omega) p2)).symm
    ·refine ⟨_,rfl,rfl,_,rfl,iteF (iteF ?_)⟩
     refine ⟨_,rfl,rfl,_,rfl,iteT (iteT ⟨_,rfl,ra,_,rfl,.inl (SqL.of ((s5.trans s6) _ _ I.ra)),by show 2 ≤ sizeLine; decide,fun t' ht' => fail H6 (s5.trans s6) ?_ t' ht'⟩)⟩
     unfold rdQ
     rw [en]
   ·rintro j x ys H4 hx' ⟨rfl,s4⟩ hD4
    have hj : j < us.length := (List.getElem?_eq_some_iff.mp hx').1
    obtain ⟨t,r,rfl,hr',ht⟩ := I.tu.get hx'
    refine ⟨rfl,_,rfl,t,_,_,_,rfl,rfl,SqT.of (s4 _ _ ht),atI_nat (j := 0) rfl,hD4,?_,nx hj ⟨?_,?_⟩⟩
    ·rw [namV_len,List.length_map,List.length_take]
     exact Nat.lt_of_le_of_lt (show _ ≤ 20 by omega) (by decide)
    ·rw [take_snocS hr']
     unfold namV
     rw [List.map_append,List.map_append]
     rfl
    ·intro b o e
     rw [upd_ne (ne_of_none e hD)]
     exact s4 _ _ e
  ·rintro σ H3 ⟨rs,us,o4,o5,rfl,I⟩
   have rd := I.rd
   rw [namV_len,List.drop_length] at rd
   refine ⟨_,rfl,by show 2 ≤ sizeLine; decide,fun t ht => ?_⟩
   have n4 := Same.new (.tup [.str "told",.ref ra]) ht
   exact kQ rs rd.symm (by have := I.ln; have := I.i8; omega) I.p4 t ra us _ upd_same (n4 _ _ I.ra) (I.tu.mono (Same.tx n4)) (I.sm.trans n4)
theorem ok_told (L : Lk K mg "_law_told" s_told ["_law_words_here","_law_streams"] f fd) (T : Txt mg) (Z : RZ K mg NQ W) (C_read_question : CalleeX P w K mg base "read_question" ["text","streams"] 70 (spRQ NQ)) : Callee P w K mg base "_law_told" ["_law_words_here","_law_streams"] 71 spTold := by
 refine L.callee (L.F.ok sc_told (fun vs H Q E h => ?_) (fun cdv A outer s H vs Q E hr h => ?_))
 ·obtain ⟨kn,l,sa,rfl,_⟩ := h
  rfl
 ·obtain ⟨kn,l,sa,rfl,hS,hkn,hl,kQ,kE⟩ := h
  have hqq : QB ((cxOf CX0 P w K mg base ["_law_words_here","_law_streams","_law_told_here","e"] "_law_told" (defScope s_told) f cdv A outer s H E).nox) (defBody s_told) _ := (qb_cn (qs_try rfl rfl (qx_set (i := 2) sc_told.nd rfl (Or.inl rfl) (qxe_callee C_read_question (hr.mono (by first | decide | omega)) (by rfl) (qa_cn (qv 0) (qa_cn (qe_callTy call_list_of (by rfl) T.list boot_list (qa_cn (qv 1) qa_nil)) qa_nil)))) (qh_as (i := 3) (Z.mQ) sc_told.nd (fun _ => (qb_one (qs_ret (qe_tup (qa_cn qe_str (qa_cn (qe_fldXK K rfl (qv 3)) qa_nil)))))) qh_nil))
   (qb_one (qs_ret (qe_tup (qa_cn qe_str (qa_cn (qv 2) qa_nil))))))
  (with_reducible refine ⟨_,hqq.p,?_⟩)
  refine ⟨_,rfl,_,rfl,sa,_,rfl,.inl (SqL.of hS),fun sb hsb => ?_⟩
  have n1 := Same.new (.lst (namV kn)) hsb
  refine ⟨kn,l,sb,rfl,upd_same,hkn,hl,fun rs e D us H1 nD hD tu s1 => ?_,fun at_ e d H1 hd1 s1 => ⟨NQ,rfl,fun x T' fl T2 H2 fn => ⟨true,Z.ex,?_⟩⟩⟩
  ·refine ⟨_,rfl,by show 2 ≤ sizeLine; decide,fun t ht => ?_⟩
   have n2 := Same.new (.tup [.str "told",.ref D]) ht
   exact kQ rs e t D us _ upd_same (n2 _ _ hD) (tu.mono (Same.tx n2)) (((SameX.of n1).trans s1).trans (SameX.of n2))
  ·rw [if_pos rfl]
   have hd : H2 d = some (.xd [("at",_)]) := fn.keep hd1 (ne_of hd1 fl.ex (fun z => nomatch z))
   refine ⟨_,rfl,x,NQ,d,some T2,_,_,rfl,fn.ex,hd,Z.ok,Z.na,rfl,by show 2 ≤ sizeLine; decide,fun t ht => ?_⟩
   exact kE at_ e t _ upd_same ((((SameX.of n1).trans s1).trans (SameX.flown fl.ex fn)).trans (SameX.of (Same.new _ ht)))
theorem ok_refused (L : Lk K mg "_law_refused" s_refused ["_law_words_here","_law_streams"] f fd) (T : Txt mg) (N : RE K mg NT W) (Z : RZ K mg NQ W) (C_read_question : CalleeX P w K mg base "read_question" ["text","streams"] 70 (spRQ NQ)) : Callee P w K mg base "_law_refused" ["_law_words_here","_law_streams"] 71 spRefused := by
 refine L.callee (L.F.ok sc_refused (fun vs H Q E h => ?_) (fun cdv A outer s H vs Q E hr h => ?_))
 ·obtain ⟨kn,l,sa,at_,rfl,_⟩ := h
  rfl
 ·obtain ⟨kn,l,sa,at_,rfl,hS,hkn,hl,rd,k⟩ := h
  have hqq : QB ((cxOf CX0 P w K mg base ["_law_words_here","_law_streams","e"] "_law_refused" (defScope s_refused) f cdv A outer s H E).nox) (defBody s_refused) _ := (qb_cn (qs_try rfl rfl (qx_expr (qxe_callee C_read_question (hr.mono (by first | decide | omega)) (by rfl) (qa_cn (qv 0) (qa_cn (qe_callTy call_list_of (by rfl) T.list boot_list (qa_cn (qv 1) qa_nil)) qa_nil)))) (qh_as (i := 2) (N.mW) sc_refused.nd (fun _ => (qb_one (qs_ret (qe_callB (call_isinstXK K rfl) (by rfl) T.isinstance boot_isinstance (qa_cn (qv 2) (qa_cn (qe_bltn (v := .ty "ValueError") (by rfl) T.ValueError PyProof.Rows.Boot.«ValueError» rfl) qa_nil)))))) qh_nil))
   (qb_one (qs_ret qe_bl)))
  (with_reducible refine ⟨_,hqq.p,?_⟩)
  refine ⟨_,rfl,_,rfl,sa,_,rfl,.inl (SqL.of hS),fun sb hsb => ?_⟩
  have n1 := Same.new (.lst (namV kn)) hsb
  refine ⟨kn,l,sb,rfl,upd_same,hkn,hl,(fun rs e => by rw [rd] at e; cases e),fun at' e d H1 hd1 s1 => ⟨NQ,rfl,fun x T' fl T2 H2 fn => ⟨true,Z.exW,?_⟩⟩⟩
  rw [if_pos rfl]
  have hd : H2 d = some (.xd [("at",_)]) := fn.keep hd1 (ne_of hd1 fl.ex (fun z => nomatch z))
  exact ⟨_,rfl,x,NQ,some d,some T2,.ty "ValueError",.type "ValueError",true,rfl,rfl,fn.ex,⟨_,hd⟩,Z.ok,Z.val,k H2 (((SameX.of n1).trans s1).trans (SameX.flown fl.ex fn))⟩
end
end K85
end
section
set_option maxHeartbeats 4000000
namespace K85
open PySem L2 PyProof.Rows
abbrev s_law : Stmt := top 67
theorem sc_law : FnScope ["_law_script","_law_place","_law_hand","_law_names_here","_law_way","_law_many","_law_streams","_law_rows_here","_law_words_here","_law_k","_law_due_here"] ["_law_script"] (defScope s_law) := ⟨rfl,rfl,rfl,by decide +kernel,rfl,by decide +kernel,by decide +kernel⟩
theorem row_alike {H : Hp} {t u : Addr} {r : Row} (ht : H t = some (.tup (rowV r))) (hu : H u = some (.tup (rowV r))) (h4 : r.ps.length ≤ 4) : Alike H 1 (.ref t) (.ref u) := by
 refine .inr ⟨t,u,rowV r,rowV r,rfl,rfl,.inr ⟨ht,hu⟩,rfl,?_,fun i a b ha hb => ?_⟩
 ·show (r.ps.map valP).length + 1 + 1 ≤ 100
  rw [List.length_map]
  omega
 ·rw [ha] at hb
  cases hb
  have ha : ((rowP r).map valP)[i]? = some a := ha
  rw [List.getElem?_map] at ha
  cases e : (rowP r)[i]? with
  | none => rw [e] at ha; cases ha
  | some p => rw [e] at ha; exact ⟨p,(Option.some.inj ha).symm,(Option.some.inj ha).symm⟩
theorem rows_alike {H : Hp} {a b : Addr} {us vs : List V} {rs : List Row} (ha : H a = some (.lst us)) (hb : H b = some (.lst vs)) (ta : TupsAt H us rs) (tb : TupsAt H vs rs) (h4 : ∀ r ∈ rs,r.ps.length ≤ 4) (hl : rs.length ≤ 100) : Alike H 2 (.ref a) (.ref b) := by
 have l1 := ta.length
 have l2 := tb.length
 refine .inr ⟨a,b,us,vs,rfl,rfl,.inl ⟨ha,hb⟩,by omega,by omega,fun i u v hu hv => ?_⟩
 obtain ⟨t,r,rfl,hr,ht⟩ := ta.get hu
 obtain ⟨t',r',rfl,hr',ht'⟩ := tb.get hv
 rw [hr] at hr'
 cases hr'
 exact row_alike ht ht' (h4 r (List.mem_of_getElem? hr))
theorem pair_alike {H : Hp} {t u : Addr} {z : List Nat} {x y : V} (ht : H t = some (.tup [.str (S z),x])) (hu : H u = some (.tup [.str (S z),y])) (h : Alike H 2 x y) : Alike H 3 (.ref t) (.ref u) := by
 refine .inr ⟨t,u,_,_,rfl,rfl,.inr ⟨ht,hu⟩,rfl,by show 2 ≤ 100; decide,fun i a b ha hb => ?_⟩
 match i,ha,hb with
 | 0,ha,hb =>
  cases ha
  cases hb
  exact .inl ⟨.nam z,rfl,rfl⟩
 | 1,ha,hb =>
  cases ha
  cases hb
  exact h
 | _ + 2,ha,_ => cases ha
theorem SameX.seq {K : PySem.W.Frag} {H H' : Hp} {a : Addr} {xs : List V} (s : SameX H H') (h : SqL K H a xs) : SqL K H' a xs := by
 rcases h with (h | ⟨o,h⟩) | h
 ·exact .inl (.inl (s _ _ h fun φ z => by cases z))
 ·exact .inl (.inr ⟨o,s _ _ h fun φ z => by cases z⟩)
 ·exact .inr h
theorem But.sameX {p : Addr} {H H1 H2 : Hp} (s : SameX H H1) (hp : H1 p = none) (b : But p H1 H2) : SameX H H2 := fun x o e n => b x o (s x o e n) (ne_of_none (s x o e n) hp)
def bnd : Nat → Nat
 | 0 => 4000
 | i + 1 => 2 * bnd i + 9000
theorem bnd_le : ∀ i,i < 2 → bnd i ≤ 100000 := by decide
theorem bnd_le2 : ∀ i,i ≤ 2 → bnd i ≤ 100000 := by
 intro i hi
 have : ∀ i,i < 3 → bnd i ≤ 100000 := by decide
 exact this i (by omega)
def spLaw (K : PySem.W.Frag) : Sp := fun vs H Q _ => ∃ (a : Addr) (ns : List Int),vs = [.ref a] ∧ SqL K H a (ns.map V.int) ∧ ns.length ≤ 63 ∧ ∀ H',Q (.bl true) H'
theorem turns (n : Nat) : (8 : Int) ≤ (if (if (12 : Int) < (n : Int) then (12 : Int) else (n : Int)) > 8 then (if (12 : Int) < (n : Int) then (12 : Int) else (n : Int)) else 8) ∧ (if (if (12 : Int) < (n : Int) then (12 : Int) else (n : Int)) > 8 then (if (12 : Int) < (n : Int) then (12 : Int) else (n : Int)) else 8) ≤ 12 := by
 split <;> split <;> omega
theorem two_nine (b : Bool) : ∃ pr : Int,0 ≤ pr ∧ atI [V.int 2,.int 9] (if b = true then 1 else 0) = some (.int pr) := by
 cases b
 ·exact ⟨2,by decide,rfl⟩
 ·exact ⟨9,by decide,rfl⟩
section
variable {P : Program} {w : World} {K : PySem.W.Frag} {mg : Str → Option Value} {base : Heap} {f : Addr} {fd : FuncData} {NQ W : Addr}
theorem ok_law (L : Lk K mg "law" s_law ["_law_script"] f fd) (T : Txt mg)
  (C__law_open : Callee P w K mg base "_law_open" ["_law_script","_law_place"] 1 (spOpen K)) (C__law_draw : Callee P w K mg base "_law_draw" ["_law_hand","_law_many"] 1 spDraw) (C__law_names : Callee P w K mg base "_law_names" ["_law_hand"] 2 spNames) (C__law_rows : Callee P w K mg base "_law_rows" ["_law_hand","_law_names_here","_law_many","_law_pairs"] 5 spRowsL) (C__law_words : Callee P w K mg base "_law_words" ["_law_rows_here"] 1 spWords)
  (C__law_same : Callee P w K mg base "_law_same" ["_law_one","_law_due_here"] 5 (spSame 3)) (C__law_spoilt : Callee P w K mg base "_law_spoilt" ["_law_hand","_law_words_here","_law_names_here"] 3 spSpoilt) (C__law_due : Callee P w K mg base "_law_due" ["_law_words_here","_law_streams"] 3 spDue) (C__law_told : Callee P w K mg base "_law_told" ["_law_words_here","_law_streams"] 71 spTold) (C__law_refused : Callee P w K mg base "_law_refused" ["_law_words_here","_law_streams"] 71 spRefused) : FnOk P w K mg base CX0 72 f fd ["_law_script"] (spLaw K) := by
 refine L.F.ok sc_law (fun vs H Q E h => ?_) (fun cdv A outer s H vs Q E hr h => ?_)
 ·obtain ⟨a,ns,rfl,_⟩ := h
  rfl
 ·obtain ⟨a,ns,rfl,hS,hn,k⟩ := h
  have hqq : QB ((cxOf CX0 P w K mg base ["_law_script","_law_place","_law_hand","_law_names_here","_law_way","_law_many","_law_streams","_law_rows_here","_law_words_here","_law_k","_law_due_here"] "law" (defScope s_law) f cdv A outer s H E).nox) (defBody s_law) _ := (qb_cn (qs_for PassesOwn.never rfl (qi_range1 rfl T.range (qa_cn (qe_callB (call_max2 rfl) (by rfl) T.max boot_max (qa_cn qe_int (qa_cn (qe_callB (call_min2 rfl) (by rfl) T.min boot_min (qa_cn (qe_callB call_len_seq (by rfl) T.len PySem.boot_len (qa_cn (qv 0) qa_nil)) (qa_cn qe_int qa_nil))) qa_nil))) qa_nil)) (qg_name (i := 1) sc_law.nd rfl (Or.inl rfl)) (qb_cn (qs_set (i := 2) sc_law.nd rfl (Or.inl rfl) (qe_callee C__law_open (hr.mono (by first | decide | omega)) (by rfl) (qa_cn (qv 0) (qa_cn (qv 1) qa_nil))))
   (qb_cn (qs_set (i := 3) sc_law.nd rfl (Or.inl rfl) (qe_callee C__law_names (hr.mono (by first | decide | omega)) (by rfl) (qa_cn (qv 2) qa_nil)))
   (qb_cn (qs_set (i := 4) sc_law.nd rfl (Or.inl rfl) (qe_callee C__law_draw (hr.mono (by first | decide | omega)) (by rfl) (qa_cn (qv 2) (qa_cn qe_int qa_nil))))
   (qb_cn (qs_set (i := 5) sc_law.nd rfl (Or.inl rfl) (qe_op op_add qe_int (qe_callee C__law_draw (hr.mono (by first | decide | omega)) (by rfl) (qa_cn (qv 2) (qa_cn qe_int qa_nil)))))
   (qb_cn (qs_if (qt_cmpR op_eq (qv 4) qe_int (nomark _)) (qb_one (qs_set (i := 5) sc_law.nd rfl (Or.inl rfl) (qe_op op_add qe_int (qe_callee C__law_draw (hr.mono (by first | decide | omega)) (by rfl) (qa_cn (qv 2) (qa_cn qe_int qa_nil)))))) qb_nil)
   (qb_cn (qs_asg (qe_callee C__law_rows (hr.mono (by first | decide | omega)) (by rfl) (qa_cn (qv 2) (qa_cn (qv 3) (qa_cn (qv 5) (qa_cn (qe_ix ix_list (qe_lst (qa_cn qe_int (qa_cn qe_int qa_nil))) (qe_callTy call_int1 (by rfl) T.int boot_int (qa_cn (qe_cmpR op_eq (qv 4) qe_int (nomark _)) qa_nil)) (fun _ _ => rfl)) qa_nil))))) (qg_tup rfl (qgs_cons (qg_name (i := 6) sc_law.nd rfl (Or.inl rfl)) (qgs_cons (qg_name (i := 7) sc_law.nd rfl (Or.inl rfl)) qgs_nil))))
   (qb_cn (qs_set (i := 8) sc_law.nd rfl (Or.inl rfl) (qe_callee C__law_words (hr.mono (by first | decide | omega)) (by rfl) (qa_cn (qv 7) qa_nil)))
   (qb_cn (qs_for PassesOwn.never rfl (qi_range1 rfl T.range (qa_cn (qe_ix ix_list (qe_lst (qa_cn qe_int (qa_cn qe_int (qa_cn qe_int (qa_cn qe_int (qa_cn qe_int (qa_cn qe_int (qa_cn qe_int (qa_cn qe_int qa_nil))))))))) (qe_callee C__law_draw (hr.mono (by first | decide | omega)) (by rfl) (qa_cn (qv 2) (qa_cn qe_int qa_nil))) (fun _ _ => rfl)) qa_nil)) (qg_name (i := 9) sc_law.nd rfl (Or.inl rfl)) (qb_one (qs_set (i := 8) sc_law.nd rfl (Or.inl rfl) (qe_callee C__law_spoilt (hr.mono (by first | decide | omega)) (by rfl) (qa_cn (qv 2) (qa_cn (qv 8) (qa_cn (qv 3) qa_nil)))))))
   (qb_cn (qs_if (qt_cmpR op_eq (qe_callee C__law_draw (hr.mono (by first | decide | omega)) (by rfl) (qa_cn (qv 2) (qa_cn qe_int qa_nil))) qe_int (nomark _)) (qb_one (qs_set (i := 8) sc_law.nd rfl (Or.inl rfl) qe_str)) qb_nil)
   (qb_cn (qs_if (qt_cmpR op_eq (qe_callee C__law_draw (hr.mono (by first | decide | omega)) (by rfl) (qa_cn (qv 2) (qa_cn qe_int qa_nil))) qe_int (nomark _)) (qb_one (qs_set (i := 6) sc_law.nd rfl (Or.inl rfl) (qe_lst qa_nil))) qb_nil)
   (qb_cn (qs_set (i := 10) sc_law.nd rfl (Or.inl rfl) (qe_callee C__law_due (hr.mono (by first | decide | omega)) (by rfl) (qa_cn (qv 8) (qa_cn (qv 6) qa_nil))))
   (qb_cn (qs_if (qt_not (qt_val (qe_callee C__law_same (hr.mono (by first | decide | omega)) (by rfl) (qa_cn (qe_callee C__law_told (hr.mono (by first | decide | omega)) (by rfl) (qa_cn (qv 8) (qa_cn (qv 6) qa_nil))) (qa_cn (qv 10) qa_nil))))) (qb_one (qs_ret qe_bl)) qb_nil)
   (qb_one (qs_if (qw_pt (qw_and (qt_cmpR op_eq (qe_ix ix_tup (qv 10) qe_int (fun _ _ => rfl)) qe_str (nomark _)) (qw_and1 (qt_not (qt_val (qe_callee C__law_refused (hr.mono (by first | decide | omega)) (by rfl) (qa_cn (qv 8) (qa_cn (qv 6) qa_nil)))))))) (qb_one (qs_ret qe_bl)) qb_nil)))))))))))))))
   (qb_one (qs_ret qe_bl)))
  (with_reducible refine ⟨_,hqq.p,?_⟩)
  have tb := turns (ns.map V.int).length
  refine ⟨_,rfl,a,_,rfl,.inl hS,_,_,rfl,_,_,rfl,_,rfl,?_,?_,?_⟩
  ·exact Int.le_trans (by decide) tb.1
  ·exact Int.lt_of_le_of_lt tb.2 (by decide)
  ·refine for_range (lo := 0) (fun i σ H' => ∃ (o1 o2 o3 o4 o5 o6 o7 o8 o9 o10 : Option V),σ = [some (.ref a),o1,o2,o3,o4,o5,o6,o7,o8,o9,o10] ∧ SameX H H') ⟨none,none,none,none,none,none,none,none,none,none,rfl,fun _ _ e _ => e⟩ ?_ ?_
   ·rintro i σ H1 hi ⟨o1,o2,o3,o4,o5,o6,o7,o8,o9,o10,rfl,s1⟩
    have hi24 : (i : Int) < 24 := by omega
    refine ⟨_,rfl,_,rfl,a,ns,_,rfl,s1.seq hS,hn,by omega,by omega,fun p c H2 hp h2 s2 => ?_⟩
    refine ⟨_,rfl,p,c,rfl,h2,fun zs na H3 nz na0 hna h3 b3 => ?_⟩
    have nap := h2.nef na0
    have bb3 : But p H1 H3 := (Same.but s2).trans b3
    have zl := nz.1
    have z8 : ∀ z ∈ zs,z.length ≤ 8 := fun z hz => (nz.2.1 z hz).2.1
    refine ⟨_,rfl,p,c,8,rfl,h3,by decide,by decide,fun wy H4 _ _ h4 b4 => ?_⟩
    refine ⟨_,rfl,p,c,8,rfl,h4,by decide,by decide,fun r H5 q0 q1 h5 b5 => ⟨_,_,rfl,rfl,?_⟩⟩
    have bb5 : But p H1 H5 := bb3.trans (b4.trans b5)
    have hna5 := b5 _ _ (b4 _ _ hna nap) nap
    refine asg_go ?_
    refine seq_by (fun σ H' => ∃ m : Nat,σ = [some (.ref a),some (.int (0 + (i : Int))),some (.ref p),some (.ref na),some (.int wy),some (.int (m : Int)),o6,o7,o8,o9,o10] ∧ m ≤ 10 ∧ Hand H' p c ∧ But p H1 H' ∧ H' na = some (.lst (namV zs))) (fun D' hD' => ?_) ?_
    ·refine ⟨_,rfl,rfl,_,rfl,ite2 (fun _ => ?_) (fun _ => ?_)⟩
     ·refine ⟨_,rfl,p,c,3,rfl,h5,by decide,by decide,fun r2 H6 v0 v1 h6 b6 => ⟨_,_,rfl,rfl,?_⟩⟩
      obtain ⟨j,rfl⟩ := Int.eq_ofNat_of_zero_le v0
      exact hD' _ _ ⟨8 + j,rfl,by omega,h6,bb5.trans b6,b6 _ _ hna5 nap⟩
     ·obtain ⟨j,rfl⟩ := Int.eq_ofNat_of_zero_le q0
      refine hD' _ _ ⟨1 + j,?_,by omega,h5,bb5,hna5⟩
      rw [show ((1 + j : Nat) : Int) = 1 + (j : Int) by omega]
      rfl
    ·rintro σ H6 ⟨m,rfl,m10,h6,bb6,hna6⟩
     refine ⟨_,rfl,_,rfl,_,rfl,by show 2 ≤ sizeLine; decide,fun e he => ?_⟩
     have n7 := Same.new (.lst [.int 2,.int 9]) he
     have he7 : (upd H6 e (.lst [.int 2,.int 9])) e = some (.lst [.int 2,.int 9]) := upd_same
     generalize upd H6 e (.lst [.int 2,.int 9]) = H7 at n7 he7 ⊢
     obtain ⟨pr,pr0,hpr⟩ := two_nine (decide (V.int wy = V.int 1))
     refine ⟨_,rfl,rfl,.inr ⟨_,rfl,e,_,_,_,rfl,rfl,SqL.of he7,hpr,p,c,na,zs,m,pr,rfl,h6.same n7,n7 _ _ hna6,nz,nap,m10,pr0,fun st rs us sa ra t H8 st0 st3 stn gd rl _ nsa nra sr ht hsa hra tu h8 b8 => ?_⟩⟩
     have bb8 : But p H1 H8 := (bb6.trans (Same.but n7)).trans b8
     have sap : sa ≠ p := (h6.same n7).nef nsa
     have sane' := gd.sane stn
     have tl := rowsL_len sane'
     have hna8 := b8 _ _ (n7 _ _ hna6) nap
     refine ⟨t,_,rfl,SqT.of ht,rfl,_,_,rfl,_,_,rfl,rfl,?_⟩
     refine ⟨_,rfl,ra,us,rs,rfl,hra,tu,sane',by omega,fun H9 s9 => ?_⟩
     have bb9 : But p H1 H9 := bb8.trans (Same.but s9)
     have hsa9 := s9 _ _ hsa
     have hna9 := s9 _ _ hna8
     have h9 := h8.same s9
     refine ⟨by show 8 ≤ sizeLine; decide,fun e2 he2 => ?_⟩
     have n10 := Same.new (.lst ([1,1,2,2,1,2,1,0].map V.int)) he2
     have he10 : (upd H9 e2 (.lst ([1,1,2,2,1,2,1,0].map V.int))) e2 = some (.lst ([1,1,2,2,1,2,1,0].map V.int)) := upd_same
     have e2p := h9.nef he2
     refine (show (_ : Prop) from ?_)
     have h10 := h9.new (.lst ([1,1,2,2,1,2,1,0].map V.int)) he2
     refine ⟨_,rfl,p,c,8,rfl,h10,by decide,by decide,fun r8 H11 v0 v1 h11 b11 => ?_⟩
     obtain ⟨y,hy,my⟩ := at_in ([1,1,2,2,1,2,1,0].map V.int) v0 v1
     obtain ⟨cn,mc,rfl⟩ := List.mem_map.mp my
     have c2 : 0 ≤ cn ∧ cn ≤ 2 := by
      have : ∀ x ∈ ([1,1,2,2,1,2,1,0] : List Int),0 ≤ x ∧ x ≤ 2 := by decide
      exact this cn mc
     obtain ⟨cm,rfl⟩ := Int.eq_ofNat_of_zero_le c2.1
     have bb11 : But p H1 H11 := (bb9.trans (Same.but n10)).trans b11
     have hsa11 := b11 _ _ (n10 _ _ hsa9) sap
     have hna11 := b11 _ _ (n10 _ _ hna9) nap
     refine ⟨e2,_,_,_,rfl,rfl,SqL.of (b11 _ _ he10 e2p),hy,_,rfl,by omega,by omega,?_⟩
     refine for_range (n := cm) (fun i2 σ H' => ∃ (l : List Nat) (o9' : Option V),σ = [some (.ref a),some (.int (0 + (i : Int))),some (.ref p),some (.ref na),some (.int wy),some (.int (m : Int)),some (.ref sa),some (.ref ra),some (.str (S l)),o9',o10] ∧ l.length ≤ bnd i2 ∧ Hand H' p c ∧ But p H1 H' ∧ H' na = some (.lst (namV zs)) ∧ H' sa = some (.lst (namV st))) ⟨rowsL rs,o9,rfl,by show _ ≤ 4000; omega,h11,bb11,hna11,hsa11⟩ ?_ ?_
     ·rintro i2 σ H12 hi2 ⟨l,o9',rfl,ll,h12,bb12,hna12,hsa12⟩
      have hi2 : i2 < cm := hi2
      have lb := bnd_le i2 (by omega)
      refine ⟨_,rfl,_,rfl,_,rfl,p,c,na,zs,l,rfl,h12,hna12,nap,zl,z8,by omega,fun l' H13 ll' h13 b13 => ?_⟩
      exact ⟨l',_,rfl,by show _ ≤ 2 * bnd i2 + 9000; omega,h13,bb12.trans b13,b13 _ _ hna12 nap,b13 _ _ hsa12 sap⟩
     ·rintro σ H12 ⟨l,o9',rfl,ll,h12,bb12,hna12,hsa12⟩
      have lb := bnd_le2 cm (by omega)
      refine end_go ?_
      refine seq_by (fun σ H' => ∃ (l : List Nat),σ = [some (.ref a),some (.int (0 + (i : Int))),some (.ref p),some (.ref na),some (.int wy),some (.int (m : Int)),some (.ref sa),some (.ref ra),some (.str (S l)),o9',o10] ∧ l.length ≤ 100000 ∧ Hand H' p c ∧ But p H1 H' ∧ H' sa = some (.lst (namV st))) (fun D' hD' => ?_) ?_
      ·refine ⟨_,rfl,p,c,24,rfl,h12,by decide,by decide,fun r9 H13 _ _ h13 b13 => ⟨rfl,_,rfl,ite2 (fun _ => ?_) (fun _ => ?_)⟩⟩
       ·exact hD' _ _ ⟨[],rfl,by decide,h13,bb12.trans b13,b13 _ _ hsa12 sap⟩
       ·exact hD' _ _ ⟨l,rfl,by omega,h13,bb12.trans b13,b13 _ _ hsa12 sap⟩
      ·clear ll lb
       rintro σ H13 ⟨l,rfl,ll,h13,bb13,hsa13⟩
       refine seq_by (fun σ H' => ∃ (sb : Addr) (kn : List (List Nat)),σ = [some (.ref a),some (.int (0 + (i : Int))),some (.ref p),some (.ref na),some (.int wy),some (.int (m : Int)),some (.ref sb),some (.ref ra),some (.str (S l)),o9',o10] ∧ kn.length ≤ 1000 ∧ H' sb = some (.lst (namV kn)) ∧ But p H1 H') (fun D' hD' => ?_) ?_
       ·refine ⟨_,rfl,p,c,16,rfl,h13,by decide,by decide,fun r9 H14 _ _ h14 b14 => ⟨rfl,_,rfl,ite2 (fun _ => ?_) (fun _ => ?_)⟩⟩
        ·refine ⟨by show 0 ≤ sizeLine; decide,fun e3 he3 => hD' _ _ ⟨e3,[],rfl,by decide,upd_same,(bb13.trans b14).trans (But.new _ he3)⟩⟩
        ·exact hD' _ _ ⟨sa,st,rfl,by omega,b14 _ _ hsa13 sap,bb13.trans b14⟩
       ·rintro σ H14 ⟨sb,kn,rfl,kl,hsb,bb14⟩
        have s14 : SameX H H14 := But.sameX s1 hp bb14
        refine ⟨_,rfl,_,rfl,kn,l,sb,rfl,hsb,kl,by omega,fun rs' er rl' p4 t1 D1 us1 H15 ht1 hD1 tu1 s15 => ?_,fun at_ er t1 H15 ht1 s15 => ?_⟩
        ·have hsb15 := s15 _ _ hsb
         refine ⟨_,rfl,_,rfl,kn,l,sb,rfl,hsb15,kl,by omega,fun rs2 er2 t2 D2 us2 H16 ht2 hD2 tu2 s16 => ?_,(fun at' er2 => by rw [er] at er2; cases er2)⟩
         rw [er] at er2
         cases er2
         have ht16 := s16.tup ht1
         refine ⟨_,rfl,_,_,rfl,pair_alike (z := [116,111,108,100]) ht2 ht16 (rows_alike hD2 (s16.lst hD1) tu2 (tu1.mono s16.tx) p4 rl'),fun H17 s17 => ⟨_,rfl,iteF ?_⟩⟩
         refine ⟨_,rfl,t1,_,_,_,rfl,rfl,SqT.of (s17 _ _ ht16),atI_nat (j := 0) rfl,rfl,_,rfl,iteF (iteF ?_)⟩
         exact ⟨_,_,_,_,_,_,_,_,_,_,rfl,(s14.trans ((SameX.of s15).trans s16)).trans (SameX.of s17)⟩
        ·have hsb15 := s15 _ _ hsb
         refine ⟨_,rfl,_,rfl,kn,l,sb,rfl,hsb15,kl,by omega,(fun rs2 er2 => by rw [er] at er2; cases er2),fun at' er2 t2 H16 ht2 s16 => ?_⟩
         rw [er] at er2
         cases er2
         have ht16 := s16.tup ht1
         have al : Alike H16 2 (V.int (at_ : Int)) (.int (at_ : Int)) := .inl ⟨.num (at_ : Int),rfl,rfl⟩
         refine ⟨_,rfl,_,_,rfl,pair_alike (z := [114,101,102,117,115,101,100]) ht2 ht16 al,fun H17 s17 => ⟨_,rfl,iteF ?_⟩⟩
         refine ⟨_,rfl,t1,_,_,_,rfl,rfl,SqT.of (s17 _ _ ht16),atI_nat (j := 0) rfl,rfl,_,rfl,iteT ?_⟩
         refine ⟨_,rfl,_,rfl,kn,l,sb,at_,rfl,s17 _ _ (s16.lst hsb15),kl,by omega,er,fun H18 s18 => ⟨_,rfl,iteF ?_⟩⟩
         exact ⟨_,_,_,_,_,_,_,_,_,_,rfl,((s14.trans ((SameX.of s15).trans s16)).trans (SameX.of s17)).trans s18⟩
   ·rintro σ H1 ⟨o1,o2,o3,o4,o5,o6,o7,o8,o9,o10,rfl,s1⟩
    exact k H1
end
end K85
end
section
set_option maxHeartbeats 4000000
namespace K85
open PySem L2 PyProof.Rows
def RX_Reader (K : PySem.W.Frag) (mg : Str → Option Value) (C : Addr) : Prop := RC K C ∧ mg "Reader" = some (.ref C) ∧ (∃ f fd,Fun K "__init__" "Reader.__init__" s_Reader___init__ f fd ∧ Mk K C f ∧ Binds K fd ["self","text"] []) ∧ (∃ f fd,MLk K C "sign" "Reader.sign" s_Reader_sign ["self"] f fd) ∧ (∃ f fd,MLk K C "go_over" "Reader.go_over" s_Reader_go_over ["self","first","last","most"] f fd) ∧ (∃ f fd,MLk K C "read_value" "Reader.read_value" s_Reader_read_value ["self","room"] f fd) ∧ (∃ f fd,MLk K C "read_number" "Reader.read_number" s_Reader_read_number ["self"] f fd) ∧ (∃ f fd,MLk K C "read_parts" "Reader.read_parts" s_Reader_read_parts ["self","closing","room"] f fd)
theorem rx_Reader_mk {K : PySem.W.Frag} {h : Heap} {mg : Str → Option Value} {C f0 f1 f2 f3 f4 f5 : Addr} (X : K.In h) (G : h.Ns mainGlobals mg)
  {od0 an0 od1 an1 od2 an2 od3 an3 od4 an4 od5 an5 : Option Addr} {sl0 sl1 sl2 sl3 sl4 sl5 : Array (Option Value)} {oc0 kV0 dc0 pm0 cd0 ct0 oc1 kV1 dc1 pm1 cd1 ct1 oc2 kV2 dc2 pm2 cd2 ct2 oc3 kV3 dc3 pm3 cd3 ct3 oc4 kV4 dc4 pm4 cd4 ct4 oc5 kV5 dc5 pm5 cd5 ct5 : Value}
  (aC : PySem.W.nsIn K mainGlobals "Reader" = some (some (.ref C)))
  (a0 : PySem.W.findIn K (.ref C) "__init__" = some (some (.ref f0))) (i0 : PySem.W.isFn K (.ref f0) = true) (l0 : K.lookup f0 = some ⟨oc0,od0,.func (PySem.W.fnOf "__init__" "Reader.__init__" (defArgs s_Reader___init__) (defBody s_Reader___init__) (defScope s_Reader___init__) .none kV0 dc0 pm0 an0 cd0 ct0),sl0⟩) (c0 : PySem.W.codeIn K cd0 "Reader.__init__" = true) (k0 : PySem.W.keepIn K (.ref f0) = true)
  (a1 : PySem.W.findIn K (.ref C) "sign" = some (some (.ref f1))) (i1 : PySem.W.isFn K (.ref f1) = true) (l1 : K.lookup f1 = some ⟨oc1,od1,.func (PySem.W.fnOf "sign" "Reader.sign" (defArgs s_Reader_sign) (defBody s_Reader_sign) (defScope s_Reader_sign) .none kV1 dc1 pm1 an1 cd1 ct1),sl1⟩) (c1 : PySem.W.codeIn K cd1 "Reader.sign" = true) (k1 : PySem.W.keepIn K (.ref f1) = true)
  (a2 : PySem.W.findIn K (.ref C) "go_over" = some (some (.ref f2))) (i2 : PySem.W.isFn K (.ref f2) = true) (l2 : K.lookup f2 = some ⟨oc2,od2,.func (PySem.W.fnOf "go_over" "Reader.go_over" (defArgs s_Reader_go_over) (defBody s_Reader_go_over) (defScope s_Reader_go_over) .none kV2 dc2 pm2 an2 cd2 ct2),sl2⟩) (c2 : PySem.W.codeIn K cd2 "Reader.go_over" = true) (k2 : PySem.W.keepIn K (.ref f2) = true)
  (a3 : PySem.W.findIn K (.ref C) "read_value" = some (some (.ref f3))) (i3 : PySem.W.isFn K (.ref f3) = true) (l3 : K.lookup f3 = some ⟨oc3,od3,.func (PySem.W.fnOf "read_value" "Reader.read_value" (defArgs s_Reader_read_value) (defBody s_Reader_read_value) (defScope s_Reader_read_value) .none kV3 dc3 pm3 an3 cd3 ct3),sl3⟩) (c3 : PySem.W.codeIn K cd3 "Reader.read_value" = true) (k3 : PySem.W.keepIn K (.ref f3) = true)
  (a4 : PySem.W.findIn K (.ref C) "read_number" = some (some (.ref f4))) (i4 : PySem.W.isFn K (.ref f4) = true) (l4 : K.lookup f4 = some ⟨oc4,od4,.func (PySem.W.fnOf "read_number" "Reader.read_number" (defArgs s_Reader_read_number) (defBody s_Reader_read_number) (defScope s_Reader_read_number) .none kV4 dc4 pm4 an4 cd4 ct4),sl4⟩) (c4 : PySem.W.codeIn K cd4 "Reader.read_number" = true) (k4 : PySem.W.keepIn K (.ref f4) = true)
  (a5 : PySem.W.findIn K (.ref C) "read_parts" = some (some (.ref f5))) (i5 : PySem.W.isFn K (.ref f5) = true) (l5 : K.lookup f5 = some ⟨oc5,od5,.func (PySem.W.fnOf "read_parts" "Reader.read_parts" (defArgs s_Reader_read_parts) (defBody s_Reader_read_parts) (defScope s_Reader_read_parts) .none kV5 dc5 pm5 an5 cd5 ct5),sl5⟩) (c5 : PySem.W.codeIn K cd5 "Reader.read_parts" = true) (k5 : PySem.W.keepIn K (.ref f5) = true)
  (pg : PySem.W.plainGet K C Str.empty = true) (hd : PySem.W.hasDictIn K C = true) (po : PySem.W.plainOver K C = true) (sa : PySem.W.findIn K (.ref C) "__setattr__" = some (some (.builtin "object.__setattr__"))) (mk : PySem.W.makesIn K C = true) (kc : PySem.W.keepIn K (.ref C) = true)
  (n0 : PySem.W.findIn K (.ref C) "text" = some none)
  (n1 : PySem.W.findIn K (.ref C) "at" = some none)
  : ∃ C,RX_Reader K mg C := by
 have F0 := fun_mk (st := s_Reader___init__) l0 c0 k0
 have b0 := F0.binds (ps := ["self","text"]) fun _ _ _ _ _ _ us hl => match us,hl with | [_,_],_ => rfl
 have F1 := fun_mk (st := s_Reader_sign) l1 c1 k1
 have b1 := F1.binds (ps := ["self"]) fun _ _ _ _ _ _ us hl => match us,hl with | [_],_ => rfl
 have F2 := fun_mk (st := s_Reader_go_over) l2 c2 k2
 have b2 := F2.binds (ps := ["self","first","last","most"]) fun _ _ _ _ _ _ us hl => match us,hl with | [_,_,_,_],_ => rfl
 have F3 := fun_mk (st := s_Reader_read_value) l3 c3 k3
 have b3 := F3.binds (ps := ["self","room"]) fun _ _ _ _ _ _ us hl => match us,hl with | [_,_],_ => rfl
 have F4 := fun_mk (st := s_Reader_read_number) l4 c4 k4
 have b4 := F4.binds (ps := ["self"]) fun _ _ _ _ _ _ us hl => match us,hl with | [_],_ => rfl
 have F5 := fun_mk (st := s_Reader_read_parts) l5 c5 k5
 have b5 := F5.binds (ps := ["self","closing","room"]) fun _ _ _ _ _ _ us hl => match us,hl with | [_,_,_],_ => rfl
 exact ⟨C,⟨⟨pg,hd,po,sa⟩,n0,n1⟩,PySem.W.mg_of X G aC,⟨_,_,F0,⟨mk,a0,i0,kc⟩,b0⟩,⟨_,_,F1,⟨a1,i1,k1⟩,b1⟩,⟨_,_,F2,⟨a2,i2,k2⟩,b2⟩,⟨_,_,F3,⟨a3,i3,k3⟩,b3⟩,⟨_,_,F4,⟨a4,i4,k4⟩,b4⟩,⟨_,_,F5,⟨a5,i5,k5⟩,b5⟩⟩
def kOneF (K : PySem.W.Frag) (C : Addr) : Bool :=
 ((PySem.W.makesIn K C && PySem.W.findIn K (.ref C) "__init__" == some (some (.builtin "object.__init__"))) && (PySem.W.keepIn K (.ref C) && PySem.W.plainGet K C Str.empty)) && ((PySem.W.hasDictIn K C && PySem.W.plainOver K C) && PySem.W.findIn K (.ref C) "__setattr__" == some (some (.builtin "object.__setattr__")))
theorem kOne_of {K : PySem.W.Frag} {C : Addr} (h : kOneF K C = true) : ((PySem.W.makesIn K C = true ∧ PySem.W.findIn K (.ref C) "__init__" = some (some (.builtin "object.__init__"))) ∧ (PySem.W.keepIn K (.ref C) = true ∧ PySem.W.plainGet K C Str.empty = true)) ∧ ((PySem.W.hasDictIn K C = true ∧ PySem.W.plainOver K C = true) ∧ PySem.W.findIn K (.ref C) "__setattr__" = some (some (.builtin "object.__setattr__"))) := by
 unfold kOneF at h
 simp only [Bool.and_eq_true,beq_iff_eq] at h
 exact h
theorem all6 {p : Nat → Prop} (h0 : p 0) (h1 : p 1) (h2 : p 2) (h3 : p 3) (h4 : p 4) (h5 : p 5) : ∀ i,i < 6 → p i
 | 0,_ => h0 | 1,_ => h1 | 2,_ => h2 | 3,_ => h3 | 4,_ => h4 | 5,_ => h5
 | n + 6,h => absurd h (by omega)
def RX_X (K : PySem.W.Frag) (mg : Str → Option Value) (c : Nat → Addr) : Prop := RX K mg c ∧ (∃ f fd,MLk K (c 0) "word" "Count.word" s_Count_word ["self"] f fd) ∧ (∃ f fd,MLk K (c 1) "word" "Total.word" s_Total_word ["self"] f fd) ∧ (∃ f fd,MLk K (c 2) "word" "Least.word" s_Least_word ["self"] f fd) ∧ (∃ f fd,MLk K (c 3) "word" "Greatest.word" s_Greatest_word ["self"] f fd) ∧ (∃ f fd,MLk K (c 4) "word" "Last.word" s_Last_word ["self"] f fd) ∧ (∃ f fd,MLk K (c 5) "word" "Unlike.word" s_Unlike_word ["self"] f fd)
theorem rx_X_mk {K : PySem.W.Frag} {h : Heap} {mg : Str → Option Value} {c0 c1 c2 c3 c4 c5 f0 f1 f2 f3 f4 f5 : Addr} {od0 an0 od1 an1 od2 an2 od3 an3 od4 an4 od5 an5 : Option Addr} {sl0 sl1 sl2 sl3 sl4 sl5 : Array (Option Value)} {oc0 kV0 dc0 pm0 cd0 ct0 oc1 kV1 dc1 pm1 cd1 ct1 oc2 kV2 dc2 pm2 cd2 ct2 oc3 kV3 dc3 pm3 cd3 ct3 oc4 kV4 dc4 pm4 cd4 ct4 oc5 kV5 dc5 pm5 cd5 ct5 : Value} (X : K.In h) (G : h.Ns mainGlobals mg)
  (g0 : PySem.W.nsIn K mainGlobals "Count" = some (some (.ref c0)))
  (g1 : PySem.W.nsIn K mainGlobals "Total" = some (some (.ref c1)))
  (g2 : PySem.W.nsIn K mainGlobals "Least" = some (some (.ref c2)))
  (g3 : PySem.W.nsIn K mainGlobals "Greatest" = some (some (.ref c3)))
  (g4 : PySem.W.nsIn K mainGlobals "Last" = some (some (.ref c4)))
  (g5 : PySem.W.nsIn K mainGlobals "Unlike" = some (some (.ref c5)))
  (a0 : PySem.W.findIn K (.ref c0) "word" = some (some (.ref f0))) (i0 : PySem.W.isFn K (.ref f0) = true) (l0 : K.lookup f0 = some ⟨oc0,od0,.func (PySem.W.fnOf "word" "Count.word" (defArgs s_Count_word) (defBody s_Count_word) (defScope s_Count_word) .none kV0 dc0 pm0 an0 cd0 ct0),sl0⟩) (d0 : PySem.W.codeIn K cd0 "Count.word" = true) (k0 : PySem.W.keepIn K (.ref f0) = true)
  (a1 : PySem.W.findIn K (.ref c1) "word" = some (some (.ref f1))) (i1 : PySem.W.isFn K (.ref f1) = true) (l1 : K.lookup f1 = some ⟨oc1,od1,.func (PySem.W.fnOf "word" "Total.word" (defArgs s_Total_word) (defBody s_Total_word) (defScope s_Total_word) .none kV1 dc1 pm1 an1 cd1 ct1),sl1⟩) (d1 : PySem.W.codeIn K cd1 "Total.word" = true) (k1 : PySem.W.keepIn K (.ref f1) = true)
  (a2 : PySem.W.findIn K (.ref c2) "word" = some (some (.ref f2))) (i2 : PySem.W.isFn K (.ref f2) = true) (l2 : K.lookup f2 = some ⟨oc2,od2,.func (PySem.W.fnOf "word" "Least.word" (defArgs s_Least_word) (defBody s_Least_word) (defScope s_Least_word) .none kV2 dc2 pm2 an2 cd2 ct2),sl2⟩) (d2 : PySem.W.codeIn K cd2 "Least.word" = true) (k2 : PySem.W.keepIn K (.ref f2) = true)
  (a3 : PySem.W.findIn K (.ref c3) "word" = some (some (.ref f3))) (i3 : PySem.W.isFn K (.ref f3) = true) (l3 : K.lookup f3 = some ⟨oc3,od3,.func (PySem.W.fnOf "word" "Greatest.word" (defArgs s_Greatest_word) (defBody s_Greatest_word) (defScope s_Greatest_word) .none kV3 dc3 pm3 an3 cd3 ct3),sl3⟩) (d3 : PySem.W.codeIn K cd3 "Greatest.word" = true) (k3 : PySem.W.keepIn K (.ref f3) = true)
  (a4 : PySem.W.findIn K (.ref c4) "word" = some (some (.ref f4))) (i4 : PySem.W.isFn K (.ref f4) = true) (l4 : K.lookup f4 = some ⟨oc4,od4,.func (PySem.W.fnOf "word" "Last.word" (defArgs s_Last_word) (defBody s_Last_word) (defScope s_Last_word) .none kV4 dc4 pm4 an4 cd4 ct4),sl4⟩) (d4 : PySem.W.codeIn K cd4 "Last.word" = true) (k4 : PySem.W.keepIn K (.ref f4) = true)
  (a5 : PySem.W.findIn K (.ref c5) "word" = some (some (.ref f5))) (i5 : PySem.W.isFn K (.ref f5) = true) (l5 : K.lookup f5 = some ⟨oc5,od5,.func (PySem.W.fnOf "word" "Unlike.word" (defArgs s_Unlike_word) (defBody s_Unlike_word) (defScope s_Unlike_word) .none kV5 dc5 pm5 an5 cd5 ct5),sl5⟩) (d5 : PySem.W.codeIn K cd5 "Unlike.word" = true) (k5 : PySem.W.keepIn K (.ref f5) = true)
  (chk : ([c0,c1,c2,c3,c4,c5].all fun C => kOneF K C) = true) : ∃ C,RX_X K mg C := by
 have o : ∀ C,C ∈ [c0,c1,c2,c3,c4,c5] → _ := fun C m => kOne_of (List.all_eq_true.mp chk C m)
 have o0 := o c0 (by simp)
 have o1 := o c1 (by simp)
 have o2 := o c2 (by simp)
 have o3 := o c3 (by simp)
 have o4 := o c4 (by simp)
 have o5 := o c5 (by simp)
 have F0 := fun_mk (st := s_Count_word) l0 d0 k0
 have b0 := F0.binds (ps := ["self"]) fun _ _ _ _ _ _ us hl => match us,hl with | [_],_ => rfl
 have F1 := fun_mk (st := s_Total_word) l1 d1 k1
 have b1 := F1.binds (ps := ["self"]) fun _ _ _ _ _ _ us hl => match us,hl with | [_],_ => rfl
 have F2 := fun_mk (st := s_Least_word) l2 d2 k2
 have b2 := F2.binds (ps := ["self"]) fun _ _ _ _ _ _ us hl => match us,hl with | [_],_ => rfl
 have F3 := fun_mk (st := s_Greatest_word) l3 d3 k3
 have b3 := F3.binds (ps := ["self"]) fun _ _ _ _ _ _ us hl => match us,hl with | [_],_ => rfl
 have F4 := fun_mk (st := s_Last_word) l4 d4 k4
 have b4 := F4.binds (ps := ["self"]) fun _ _ _ _ _ _ us hl => match us,hl with | [_],_ => rfl
 have F5 := fun_mk (st := s_Unlike_word) l5 d5 k5
 have b5 := F5.binds (ps := ["self"]) fun _ _ _ _ _ _ us hl => match us,hl with | [_],_ => rfl
 refine ⟨fun i => [c0,c1,c2,c3,c4,c5].getD i 0,⟨⟨o0.1.1.1,o0.1.1.2,o0.1.2.1,PySem.W.mg_of X G g0⟩,⟨o1.1.1.1,o1.1.1.2,o1.1.2.1,PySem.W.mg_of X G g1⟩,⟨o2.1.1.1,o2.1.1.2,o2.1.2.1,PySem.W.mg_of X G g2⟩,⟨o3.1.1.1,o3.1.1.2,o3.1.2.1,PySem.W.mg_of X G g3⟩,⟨o4.1.1.1,o4.1.1.2,o4.1.2.1,PySem.W.mg_of X G g4⟩,⟨o5.1.1.1,o5.1.1.2,o5.1.2.1,PySem.W.mg_of X G g5⟩,all6 ⟨o0.1.2.2,o0.2.1.1,o0.2.1.2,o0.2.2⟩ ⟨o1.1.2.2,o1.2.1.1,o1.2.1.2,o1.2.2⟩ ⟨o2.1.2.2,o2.2.1.1,o2.2.1.2,o2.2.2⟩ ⟨o3.1.2.2,o3.2.1.1,o3.2.1.2,o3.2.2⟩ ⟨o4.1.2.2,o4.2.1.1,o4.2.1.2,o4.2.2⟩ ⟨o5.1.2.2,o5.2.1.1,o5.2.1.2,o5.2.2⟩⟩,⟨_,_,F0,⟨a0,i0,k0⟩,b0⟩,⟨_,_,F1,⟨a1,i1,k1⟩,b1⟩,⟨_,_,F2,⟨a2,i2,k2⟩,b2⟩,⟨_,_,F3,⟨a3,i3,k3⟩,b3⟩,⟨_,_,F4,⟨a4,i4,k4⟩,b4⟩,⟨_,_,F5,⟨a5,i5,k5⟩,b5⟩⟩
def adr (K : PySem.W.Frag) (x : Str) : Addr := match PySem.W.nsIn K mainGlobals x with
 | some (some (.ref a)) => a
 | _ => 0
def isRef (K : PySem.W.Frag) (x : Str) : Bool := match PySem.W.nsIn K mainGlobals x with
 | some (some (.ref _)) => true
 | _ => false
theorem adr_of {K : PySem.W.Frag} {x : Str} (h : isRef K x = true) : PySem.W.nsIn K mainGlobals x = some (some (.ref (adr K x))) := by
 unfold isRef at h
 unfold adr
 split at h
 ·rename_i a e
  rw [e]
 ·cases h
def xOk (K : PySem.W.Frag) (C : Addr) : Bool :=
 (PySem.W.hasDictIn K C && valOver K C) && (PySem.W.findIn K (.ref C) "__setattr__" == some (some (.builtin "object.__setattr__")) && (PySem.W.findIn K (.ref C) "__getattribute__" == some (some (.builtin "BaseException.__getattribute__")) &&
 (PySem.W.findIn K (.ref C) "__getattr__" == some none && (PySem.W.typeIn K (.ref C) == some (.type "type") && (PySem.W.findIn K (.ref C) "__class__" == some (some (.builtin "object.__class__")) &&
 (PySem.W.specialIn K (.builtin "object.__class__") "__get__" == some (some (.builtin "getset_descriptor.__get__")) && (PySem.W.takesIn K (.builtin "object.__class__") == some true && PySem.W.mroIn K C (.type "object") == some true)))))))
theorem xOk_of {K : PySem.W.Frag} {C : Addr} (h : xOk K C = true) : XCls K C := by
 unfold xOk at h
 simp only [Bool.and_eq_true,beq_iff_eq] at h
 obtain ⟨⟨h1,h2⟩,h3,h4,h5,h6,h7,h8,h9,h10⟩ := h
 exact ⟨h1,h2,h3,h4,h5,h6,h7,h8,h9,h10⟩
def iniX (K : PySem.W.Frag) (C : Addr) : Bool := match PySem.W.findIn K (.ref C) "__init__" with
 | some (some (.ref f)) => excXIn K C (some (.ref f))
 | _ => false
def exN (K : PySem.W.Frag) (x f : Str) : Bool := (isRef K x && (xOk K (adr K x) && PySem.W.keepIn K (.ref (adr K x)))) && ((PySem.W.findIn K (.ref (adr K x)) f == some none && PySem.W.kitOne K (.ref (adr K x)) (.type "ValueError") == some true) &&
 ((PySem.W.exmOne K (.ref (adr K x)) (.ref (adr K x)) == some true && PySem.W.exmOne K (.ref (adr K x)) (.ref (adr K "WeirError")) == some true) && iniX K (adr K x)))
def exB (K : PySem.W.Frag) : Bool := (isRef K "WeirError" && exN K "NoText" "at") && (exN K "NoName" "name" && exN K "NoQuestion" "at")
theorem exN_of {K : PySem.W.Frag} {x f : Str} (h : exN K x f = true) : isRef K x = true ∧ xOk K (adr K x) = true ∧ PySem.W.keepIn K (.ref (adr K x)) = true ∧ PySem.W.findIn K (.ref (adr K x)) f = some none ∧ PySem.W.kitOne K (.ref (adr K x)) (.type "ValueError") = some true ∧
  PySem.W.exmOne K (.ref (adr K x)) (.ref (adr K x)) = some true ∧ PySem.W.exmOne K (.ref (adr K x)) (.ref (adr K "WeirError")) = some true ∧ iniX K (adr K x) = true := by
 unfold exN at h
 simp only [Bool.and_eq_true,beq_iff_eq] at h
 obtain ⟨⟨h1,h2,h3⟩,⟨h4,h5⟩,⟨h6,h7⟩,h8⟩ := h
 exact ⟨h1,h2,h3,h4,h5,h6,h7,h8⟩
theorem ex_ref {K : PySem.W.Frag} (h : exB K = true) (x : Str) (hx : x = "NoText" ∨ x = "NoName" ∨ x = "NoQuestion" := by first | exact .inl rfl | exact .inr (.inl rfl) | exact .inr (.inr rfl)) : PySem.W.nsIn K mainGlobals x = some (some (.ref (adr K x))) := by
 unfold exB at h
 simp only [Bool.and_eq_true] at h
 rcases hx with rfl | rfl | rfl
 ·exact adr_of (exN_of h.1.2).1
 ·exact adr_of (exN_of h.2.1).1
 ·exact adr_of (exN_of h.2.2).1
theorem ini_of {K : PySem.W.Frag} {C f : Addr} (h : iniX K C = true) (a : PySem.W.findIn K (.ref C) "__init__" = some (some (.ref f))) : excXIn K C (some (.ref f)) = true := by
 unfold iniX at h
 rw [a] at h
 exact h
def RE_X (K : PySem.W.Frag) (mg : Str → Option Value) (p : Addr × Addr × Addr × Addr) : Prop := RE K mg p.1 p.2.1 ∧ RM K mg p.2.2.1 ∧ RZ K mg p.2.2.2 p.2.1
theorem re_mk {K : PySem.W.Frag} {h : Heap} {mg : Str → Option Value} {f0 f1 f2 : Addr} {od0 an0 od1 an1 od2 an2 : Option Addr} {sl0 sl1 sl2 : Array (Option Value)} {oc0 kV0 dc0 pm0 cd0 ct0 oc1 kV1 dc1 pm1 cd1 ct1 oc2 kV2 dc2 pm2 cd2 ct2 : Value} (X : K.In h) (G : h.Ns mainGlobals mg) (e : exB K = true)
  (a0 : PySem.W.findIn K (.ref (adr K "NoText")) "__init__" = some (some (.ref f0))) (i0 : PySem.W.isFn K (.ref f0) = true) (l0 : K.lookup f0 = some ⟨oc0,od0,.func (PySem.W.fnOf "__init__" "NoText.__init__" (defArgs s_NoText___init__) (defBody s_NoText___init__) (defScope s_NoText___init__) .none kV0 dc0 pm0 an0 cd0 ct0),sl0⟩) (d0 : PySem.W.codeIn K cd0 "NoText.__init__" = true) (k0 : PySem.W.keepIn K (.ref f0) = true)
  (a1 : PySem.W.findIn K (.ref (adr K "NoName")) "__init__" = some (some (.ref f1))) (i1 : PySem.W.isFn K (.ref f1) = true) (l1 : K.lookup f1 = some ⟨oc1,od1,.func (PySem.W.fnOf "__init__" "NoName.__init__" (defArgs s_NoName___init__) (defBody s_NoName___init__) (defScope s_NoName___init__) .none kV1 dc1 pm1 an1 cd1 ct1),sl1⟩) (d1 : PySem.W.codeIn K cd1 "NoName.__init__" = true) (k1 : PySem.W.keepIn K (.ref f1) = true)
  (a2 : PySem.W.findIn K (.ref (adr K "NoQuestion")) "__init__" = some (some (.ref f2))) (i2 : PySem.W.isFn K (.ref f2) = true) (l2 : K.lookup f2 = some ⟨oc2,od2,.func (PySem.W.fnOf "__init__" "NoQuestion.__init__" (defArgs s_NoQuestion___init__) (defBody s_NoQuestion___init__) (defScope s_NoQuestion___init__) .none kV2 dc2 pm2 an2 cd2 ct2),sl2⟩) (d2 : PySem.W.codeIn K cd2 "NoQuestion.__init__" = true) (k2 : PySem.W.keepIn K (.ref f2) = true)
  : ∃ C,RE_X K mg C := by
 unfold exB at e
 simp only [Bool.and_eq_true] at e
 obtain ⟨⟨eW,e0⟩,e1,e2⟩ := e
 obtain ⟨p01,p02,p03,p04,p05,p06,p07,p08⟩ := exN_of e0
 have F0 := fun_mk (st := s_NoText___init__) l0 d0 k0
 have b0 := F0.binds (ps := ["self","at"]) fun _ _ _ _ _ _ us hl => match us,hl with | [_,_],_ => rfl
 obtain ⟨p11,p12,p13,p14,p15,p16,p17,p18⟩ := exN_of e1
 have F1 := fun_mk (st := s_NoName___init__) l1 d1 k1
 have b1 := F1.binds (ps := ["self","name"]) fun _ _ _ _ _ _ us hl => match us,hl with | [_,_],_ => rfl
 obtain ⟨p21,p22,p23,p24,p25,p26,p27,p28⟩ := exN_of e2
 have F2 := fun_mk (st := s_NoQuestion___init__) l2 d2 k2
 have b2 := F2.binds (ps := ["self","at"]) fun _ _ _ _ _ _ us hl => match us,hl with | [_,_],_ => rfl
 exact ⟨⟨adr K "NoText",adr K "WeirError",adr K "NoName",adr K "NoQuestion"⟩,⟨PySem.W.mg_of X G (adr_of p01),PySem.W.mg_of X G (adr_of eW),xOk_of p02,p03,p04,p05,p06,p07,⟨_,_,ini_of p08 a0,i0,F0,b0⟩⟩,⟨PySem.W.mg_of X G (adr_of p11),xOk_of p12,p13,p14,p16,⟨_,_,ini_of p18 a1,i1,F1,b1⟩⟩,⟨PySem.W.mg_of X G (adr_of p21),xOk_of p22,p23,p24,p26,p27,p25,⟨_,_,ini_of p28 a2,i2,F2,b2⟩⟩⟩
def FM_X0 (K : PySem.W.Frag) (w : World) (mg : Str → Option Value) (p : Addr × Addr × (Nat → Addr)) : Prop := FM K w mg p.1 p.2.1 p.2.2
theorem fm_mk0 {K : PySem.W.Frag} {w : World} {h : Heap} {mg : Str → Option Value} (X : K.In h) (G : h.Ns mainGlobals mg)
  (e : dictLook K (PySem.W.nsIn K mainGlobals "FORMS") = some ([("pick",hashStr w "pick",["from","value","value"]),("turn",hashStr w "turn",["from","factor","factor"]),("both",hashStr w "both",["from","from"]),("bytime",hashStr w "bytime",["from","length","length","sum"]),("silence",hashStr w "silence",["from","distance","sum"]),("count",hashStr w "count",["from","many","sum"]),("sofar",hashStr w "sofar",["from","sum"]),("pairs",hashStr w "pairs",["from","from","distance","how"]),("lone",hashStr w "lone",["from","from","distance"])] : List EntLook))
  (eh : (match PySem.W.nsIn K mainGlobals "HOWS" with | some (some v) => (tupLook K v).map fun l => [("",(0 : Int),l)] | _ => none) = some ([("",(0 : Int),["left","right","sum","less"])] : List EntLook)) : ∃ p,FM_X0 K w mg p := by
 obtain ⟨d,as,e1,e2,e3,e4⟩ := dict_of (w := w) e (fun x hx => by
  simp only [List.mem_cons,List.not_mem_nil,or_false] at hx
  rcases hx with rfl | rfl | rfl | rfl | rfl | rfl | rfl | rfl | rfl <;> rfl)
 obtain ⟨ha,eH,tH⟩ : ∃ ha,PySem.W.nsIn K mainGlobals "HOWS" = some (some (.ref ha)) ∧ ∀ H,SqT K H ha ((["left","right","sum","less"] : List Str).map V.str) := by
  split at eh
  ·rename_i v ev
   cases q : tupLook K v with
   | none => rw [q] at eh; cases eh
   | some l =>
    rw [q] at eh
    have eh : l = (["left","right","sum","less"] : List Str) := by
     have := List.head_eq_of_cons_eq (Option.some.inj eh)
     exact congrArg (fun p => p.2.2) this
    rw [eh] at q
    obtain ⟨a,rfl,sq⟩ := tup_of q
    exact ⟨a,ev,sq⟩
  ·cases eh
 match as,e2,e3,e4 with
 | [a0,a1,a2,a3,a4,a5,a6,a7,a8],_,e3,e4 =>
  refine ⟨⟨d,ha,fun n => [a0,a1,a2,a3,a4,a5,a6,a7,a8].getD n 0⟩,PySem.W.mg_of X G e1,e3,fun n hn H => ?_,PySem.W.mg_of X G eH,tH⟩
  have : n = 0 ∨ n = 1 ∨ n = 2 ∨ n = 3 ∨ n = 4 ∨ n = 5 ∨ n = 6 ∨ n = 7 ∨ n = 8 := by omega
  rcases this with rfl | rfl | rfl | rfl | rfl | rfl | rfl | rfl | rfl
  ·exact e4 0 _ a0 rfl rfl H
  ·exact e4 1 _ a1 rfl rfl H
  ·exact e4 2 _ a2 rfl rfl H
  ·exact e4 3 _ a3 rfl rfl H
  ·exact e4 4 _ a4 rfl rfl H
  ·exact e4 5 _ a5 rfl rfl H
  ·exact e4 6 _ a6 rfl rfl H
  ·exact e4 7 _ a7 rfl rfl H
  ·exact e4 8 _ a8 rfl rfl H
end K85
end
section
set_option maxHeartbeats 0
noncomputable def PySem.W.Fast.tw14598715356260435866 : PySem.Params → PySem.Obj := PySem.W.boot_o_0
theorem PySem.W.Fast.te14598715356260435866 : PySem.W.boot_o_0 = PySem.W.Fast.tw14598715356260435866 := rfl
namespace K85
open PySem L2 PyProof.Rows PySem.Spec PySem.W
def qv : Program := PySem.W.view PySem.Challenge.pw_weirmark_k85_questions_refused [0,2,3,4,5,7,8,9,10,12,13,14,15,17,19,21,22,23,25,26,27,28,29,31,33,34,35,36,37,38,39,40,41,42,43,44,46,47,48,49,50,51,52,53,54,55,56,57,58,59,60,61,62,63,64,65,66,67]
def blts : List Str := ["len","abs","range","isinstance","int","bool","max","min","str","list","tuple","all","zip","enumerate","ValueError"]
def dfs : List (Str × Stmt) := ([("is_whole",s_is_whole),("is_name",s_is_name),("read",s_read),("number_in",s_number_in),("sum_of",s_sum_of),("read_question",s_read_question),("pairs_in",s_pairs_in),("read_row",s_read_row),("read_part",s_read_part),("is_sum",s_is_sum),("is_within",s_is_within),("goes_together",s_goes_together),("_law_open",s_open),("_law_draw",s_draw),("_law_far",s_far),("_law_edge",s_edge),("_law_name",s_name),("_law_names",s_names),("_law_sum",s_sum),("_law_row",s_row),("_law_rows",s_rows),("_law_words",s_words),("_law_same",s_same),("_law_odd",s_odd),("_law_sign",s_sign)] : List (Str × Stmt)) ++ ([("_law_spoilt",s_spoilt),("_law_number",s_number),("_law_shape",s_shape),("_law_is_name",s_is_name'),("_law_row_of",s_row_of),("_law_due",s_due),("_law_told",s_told),("_law_refused",s_refused),("law",s_law)] : List (Str × Stmt))
def mts : List (Str × Str × Str × Stmt) := [("Reader","__init__","Reader.__init__",s_Reader___init__),("Reader","sign","Reader.sign",s_Reader_sign),("Reader","go_over","Reader.go_over",s_Reader_go_over),("Reader","read_value","Reader.read_value",s_Reader_read_value),("Reader","read_number","Reader.read_number",s_Reader_read_number),("Reader","read_parts","Reader.read_parts",s_Reader_read_parts),("Count","word","Count.word",s_Count_word),("Total","word","Total.word",s_Total_word),("Least","word","Least.word",s_Least_word),("Greatest","word","Greatest.word",s_Greatest_word),("Last","word","Last.word",s_Last_word),("Unlike","word","Unlike.word",s_Unlike_word),("NoText","__init__","NoText.__init__",s_NoText___init__),("NoName","__init__","NoName.__init__",s_NoName___init__),("NoQuestion","__init__","NoQuestion.__init__",s_NoQuestion___init__)]
def ownReader (K : PySem.W.Frag) (C : Addr) : Bool := ((PySem.W.plainGet K C Str.empty && PySem.W.hasDictIn K C) && (PySem.W.plainOver K C && PySem.W.findIn K (.ref C) "__setattr__" == some (some (.builtin "object.__setattr__")))) && ((PySem.W.makesIn K C && PySem.W.keepIn K (.ref C)) && (["text","at"] : List Str).all fun x => PySem.W.findIn K (.ref C) x == some none)
def famB (K : PySem.W.Frag) : Bool := (["Count","Total","Least","Greatest","Last","Unlike"] : List Str).all fun n => (match PySem.W.nsIn K mainGlobals n with | some (some (.ref C)) => kOneF K C | _ => false)
def tupTop (K : PySem.W.Frag) : Option (Option Value) → Option (List EntLook)
 | some (some v) => (tupLook K v).map fun l => [("",(0 : Int),l)]
 | _ => none
def clsB (K : PySem.W.Frag) : Bool := true && (match PySem.W.nsIn K mainGlobals "Reader" with | some (some (.ref C)) => ownReader K C | _ => false) && famB K
def isFnO (K : PySem.W.Frag) : Option (Option Value) → Bool
 | some (some v) => PySem.W.isFn K v
 | _ => false
def cInt (K : PySem.W.Frag) (n : Str) (i : Int) : Bool := match PySem.W.nsIn K mainGlobals n with
 | some (some (.int v _)) => v == i
 | _ => false
def cStr (K : PySem.W.Frag) (n : Str) (i : Str) : Bool := match PySem.W.nsIn K mainGlobals n with
 | some (some (.str v _)) => v == i
 | _ => false
def cnB (K : PySem.W.Frag) : Bool := true && cInt K "LONGEST_NAME" 8 && cInt K "DEEPEST_VALUE" 30 && cInt K "MOST_FIGURES" 300 && cStr K "LETTERS" LET && cInt K "MOST_ROWS" 8 && cInt K "MOST_PAIRS" 2 && cInt K "MOST_HOPS" 60
def obsB (K : PySem.W.Frag) : Bool := ((blts.all fun n => PySem.W.nsIn K mainGlobals n == some none) && (dfs.all fun d => fnGood K d.1 (PySem.W.nsIn K mainGlobals d.1))) && ((mts.all fun m => fnGood K m.2.2.1 (methAt K m.1 m.2.1) && isFnO K (methAt K m.1 m.2.1)) && ((clsB K && exB K) && cnB K))
def obs1 (K : PySem.W.Frag) : List (Option FnLook) := dfs.map fun d => fnLook K (PySem.W.nsIn K mainGlobals d.1)
def obs2 (K : PySem.W.Frag) : List (Option FnLook) := mts.map fun m => fnLook K (methAt K m.1 m.2.1)
def obs4 (K : PySem.W.Frag) : List (Option (List EntLook)) := [dictLook K (PySem.W.nsIn K mainGlobals "FORMS"),tupTop K (PySem.W.nsIn K mainGlobals "HOWS")]
def obs3 (K : PySem.W.Frag) : Bool × List (Option FnLook) × List (Option FnLook) × List (Option (List EntLook)) := (obsB K,obs1 K,obs2 K,obs4 K)
def ads : List Addr := [3,30,31,47,48,50,51,66,67,69,70,85,86,88,89,97,98,102,103,109,110,123,124,130,131,137,138,144,145,151,152,158,159,161,162,172,173,186,187,231,232,249,250,294,295,310,311,355,356,371,372,416,417,444,445,489,490,505,506,550,551,566,567,611,612,620,621,622,623,624,625,626,627,628,629,630,631,632,638,639,643,644,648,649,655,656,662,663,669,670,676,677,681,682,688,689,695,696,702,703,709,710,714,715,721,722,728,729,733,734,738,739,743,744,750,751,757,758,764,765,769,770,776,777,781,782,786,787,791,792,798,799,805,806,812,813]
def obs (s : Shared) : Bool × List (Option FnLook) × List (Option FnLook) × List (Option (List EntLook)) := obs3 (fragOf s.heap ads)
def want4 (w : World) : List (Option (List EntLook)) := [some [("pick",hashStr w "pick",["from","value","value"]),("turn",hashStr w "turn",["from","factor","factor"]),("both",hashStr w "both",["from","from"]),("bytime",hashStr w "bytime",["from","length","length","sum"]),("silence",hashStr w "silence",["from","distance","sum"]),("count",hashStr w "count",["from","many","sum"]),("sofar",hashStr w "sofar",["from","sum"]),("pairs",hashStr w "pairs",["from","from","distance","how"]),("lone",hashStr w "lone",["from","from","distance"])],some [("",(0 : Int),["left","right","sum","less"])]]
def want (w : World) : Bool × List (Option FnLook) × List (Option FnLook) × List (Option (List EntLook)) := (true,dfs.map (fun d => fnWant d.1 d.1 d.2),(mts.map fun m => fnWant m.2.1 m.2.2.1 m.2.2.2),want4 w)
def Xt (s : Shared) : Bool := PySem.W.xlAt qv [] s && PySem.W.recOk [] s
noncomputable def ru (w : World) (os : OsState) : Option SharedT := runT PySem.Challenge.pw_weirmark_k85_questions_refused 11752 w os
def f1 (s : Shared) := (PyProof.Rows.seen ((recsOf qv).map (·.name)) (ownsOf qv) [] { s with gens := #[] },s.heap.bltView)
def g1 := (expectedOf qv,bltViewBooted)
def f2 (s : Shared) : Bool × Bool := (s.heap.keysOk (looseW qv ["FORMS","HOWS"]) ((recsOf qv).map (·.name)) ((litsOf qv).map (·.1)) ((clssOf qv (looseW qv ["FORMS","HOWS"])).map (·.name)) && s.heap.accountedOkI (importedModules (Program.main PySem.Challenge.pw_weirmark_k85_questions_refused).body) && s.heap.isNs mainGlobals && s.heap.isNs builtinsNs && tablesOk qv s.heap && Xt s && (if true then s.gens.size == 0 else !leftWithCleanup s.gens),tabsOk qv s)
def f3 (s : Shared) := (pinSeenD qv (drecsOf qv) s,plainSeenE qv (looseW qv ["FORMS","HOWS"]) s)
def g3 := (pinGoodD (drecsOf qv),plainGoodE qv (looseW qv ["FORMS","HOWS"]))
def f4 (s : Shared) := (plainSeenD qv ["FORMS","HOWS"] s,wideSeen qv s,clsSeenW qv ["FORMS","HOWS"] s)
def g4 := (plainGoodD qv ["FORMS","HOWS"],wideGood qv,clsGoodW qv ["FORMS","HOWS"])
noncomputable def s1 (w : World) (os : OsState) := (ru w os).map fun s => f1 s.abs
noncomputable def s2 (w : World) (os : OsState) := (ru w os).map fun s => (endOk PySem.Challenge.pw_weirmark_k85_questions_refused w s.abs,f2 s.abs)
noncomputable def s3 (w : World) (os : OsState) := (ru w os).map fun s => f3 s.abs
noncomputable def s4 (w : World) (os : OsState) := (ru w os).map fun s => f4 s.abs
noncomputable def s5 (w : World) (os : OsState) := (ru w os).map fun s => obs s.abs
def r1 := some g1
def r2 : Option (Bool × Bool × Bool) := some (true,true,true)
def r3 := some g3
def r4 := some g4
def r5 (w : World) := some (want w)
lay_quick K85.s1 K85.s2 K85.s3 K85.s4 K85.s5 K85.r1 K85.r3 K85.r4 K85.r5
end K85
end
section
set_option maxHeartbeats 0
namespace K85
open PySem L2 PyProof.Rows PySem.Spec PySem.W
theorem q1_false (w : World) (os : OsState) : PySem.W.Fast.tw1234359914871138246 (w.withFollow "special-get-raises" false) os = PySem.W.Fast.tw1700150038581792775 := by kernel_rfl
theorem q1_true (w : World) (os : OsState) : PySem.W.Fast.tw1234359914871138246 (w.withFollow "special-get-raises" true) os = PySem.W.Fast.tw1700150038581792775 := by kernel_rfl
theorem h1 (w : World) (os : OsState) : s1 w os = r1 := PySem.W.byRow2 "special-get-raises" (P := fun w => s1 w os = r1) (fun w => (congrFun (congrFun PySem.W.Fast.te1234359914871138246 _) os).trans ((q1_false w os).trans PySem.W.Fast.te1700150038581792775.symm)) (fun w => (congrFun (congrFun PySem.W.Fast.te1234359914871138246 _) os).trans ((q1_true w os).trans PySem.W.Fast.te1700150038581792775.symm)) w
theorem q2_false (w : World) (os : OsState) : PySem.W.Fast.tw32150951170953894 (w.withFollow "special-get-raises" false) os = r2 := by kernel_rfl
theorem q2_true (w : World) (os : OsState) : PySem.W.Fast.tw32150951170953894 (w.withFollow "special-get-raises" true) os = r2 := by kernel_rfl
theorem h2 (w : World) (os : OsState) : s2 w os = r2 := PySem.W.byRow2 "special-get-raises" (P := fun w => s2 w os = r2) (fun w => (congrFun (congrFun PySem.W.Fast.te32150951170953894 _) os).trans ((q2_false w os))) (fun w => (congrFun (congrFun PySem.W.Fast.te32150951170953894 _) os).trans ((q2_true w os))) w
theorem q3_false (w : World) (os : OsState) : PySem.W.Fast.tw18209494656233125303 (w.withFollow "special-get-raises" false) os = PySem.W.Fast.tw4781922682142822401 := by kernel_rfl
theorem q3_true (w : World) (os : OsState) : PySem.W.Fast.tw18209494656233125303 (w.withFollow "special-get-raises" true) os = PySem.W.Fast.tw4781922682142822401 := by kernel_rfl
theorem h3 (w : World) (os : OsState) : s3 w os = r3 := PySem.W.byRow2 "special-get-raises" (P := fun w => s3 w os = r3) (fun w => (congrFun (congrFun PySem.W.Fast.te18209494656233125303 _) os).trans ((q3_false w os).trans PySem.W.Fast.te4781922682142822401.symm)) (fun w => (congrFun (congrFun PySem.W.Fast.te18209494656233125303 _) os).trans ((q3_true w os).trans PySem.W.Fast.te4781922682142822401.symm)) w
theorem q4_false (w : World) (os : OsState) : PySem.W.Fast.tw7526864630797211769 (w.withFollow "special-get-raises" false) os = PySem.W.Fast.tw5830747328672500620 := by kernel_rfl
theorem q4_true (w : World) (os : OsState) : PySem.W.Fast.tw7526864630797211769 (w.withFollow "special-get-raises" true) os = PySem.W.Fast.tw5830747328672500620 := by kernel_rfl
theorem h4 (w : World) (os : OsState) : s4 w os = r4 := PySem.W.byRow2 "special-get-raises" (P := fun w => s4 w os = r4) (fun w => (congrFun (congrFun PySem.W.Fast.te7526864630797211769 _) os).trans ((q4_false w os).trans PySem.W.Fast.te5830747328672500620.symm)) (fun w => (congrFun (congrFun PySem.W.Fast.te7526864630797211769 _) os).trans ((q4_true w os).trans PySem.W.Fast.te5830747328672500620.symm)) w
theorem q5_false (w : World) (os : OsState) : PySem.W.Fast.tw9265547896903419731 (w.withFollow "special-get-raises" false) os = PySem.W.Fast.tw16733144815738012417 (w.withFollow "special-get-raises" false) := by kernel_rfl
theorem q5_true (w : World) (os : OsState) : PySem.W.Fast.tw9265547896903419731 (w.withFollow "special-get-raises" true) os = PySem.W.Fast.tw16733144815738012417 (w.withFollow "special-get-raises" true) := by kernel_rfl
theorem h5 (w : World) (os : OsState) : s5 w os = r5 w := PySem.W.byRow2 "special-get-raises" (P := fun w => s5 w os = r5 w) (fun w => (congrFun (congrFun PySem.W.Fast.te9265547896903419731 _) os).trans ((q5_false w os).trans (congrFun PySem.W.Fast.te16733144815738012417 _).symm)) (fun w => (congrFun (congrFun PySem.W.Fast.te9265547896903419731 _) os).trans ((q5_true w os).trans (congrFun PySem.W.Fast.te16733144815738012417 _).symm)) w
theorem seen_of {s : Shared} (a1 : f1 s = g1) (a2 : f2 s = (true,true)) (a3 : f3 s = g3) (a4 : f4 s = g4) : openSeen qv ["FORMS","HOWS"] (importedModules (Program.main PySem.Challenge.pw_weirmark_k85_questions_refused).body) Xt true s = openGood qv ["FORMS","HOWS"] := by
 have p1 : (f1 s).1 = g1.1 := congrArg Prod.fst a1
 have p2 : (f1 s).2 = g1.2 := congrArg Prod.snd a1
 have p3 : (f2 s).1 = true := congrArg Prod.fst a2
 have p4 : (f2 s).2 = true := congrArg Prod.snd a2
 have p5 : (f3 s).1 = g3.1 := congrArg Prod.fst a3
 have p6 : (f3 s).2 = g3.2 := congrArg Prod.snd a3
 have p7 : (f4 s).1 = g4.1 := congrArg Prod.fst a4
 have p8 : (f4 s).2.1 = g4.2.1 := congrArg (fun p => p.2.1) a4
 have p9 : (f4 s).2.2 = g4.2.2 := congrArg (fun p => p.2.2) a4
 exact Prod.ext p1 (Prod.ext p2 (Prod.ext p3 (Prod.ext p4 (Prod.ext p5 (Prod.ext p6 (Prod.ext p7 (Prod.ext p8 p9)))))))
theorem map_inj {α : Type} {o : Option SharedT} {s : SharedT} {f : SharedT → α} {a : α} (q : o = some s) (e : o.map f = some a) : f s = a := by
 rw [q] at e
 exact Option.some.inj e
theorem left : LeftO PySem.Challenge.pw_weirmark_k85_questions_refused qv ["FORMS","HOWS"] Xt obs want 11752 := left_of (by kernel_rfl) (by decide) (fun s => rfl) fun w os => by
 have e1 : (ru w os).map (fun s => f1 s.abs) = some g1 := h1 w os
 have e2 : (ru w os).map (fun s => (endOk PySem.Challenge.pw_weirmark_k85_questions_refused w s.abs,f2 s.abs)) = some (true,true,true) := h2 w os
 have e3 : (ru w os).map (fun s => f3 s.abs) = some g3 := h3 w os
 have e4 : (ru w os).map (fun s => f4 s.abs) = some g4 := h4 w os
 have e5 : (ru w os).map (fun s => obs s.abs) = some (want w) := h5 w os
 show ∃ s : SharedT,ru w os = some s ∧ _
 generalize ru w os = o at e1 e2 e3 e4 e5 ⊢
 cases o with
 | none => cases e1
 | some s =>
  have z := map_inj rfl e2
  exact ⟨s,rfl,congrArg Prod.fst z,seen_of (map_inj rfl e1) (congrArg Prod.snd z) (map_inj rfl e3) (map_inj rfl e4),map_inj rfl e5⟩
end K85
end
section
set_option maxHeartbeats 4000000
namespace K85
open PySem L2 PyProof.Rows
theorem lk_law {K : PySem.W.Frag} {h : Heap} {mg : Str → Option Value} {f : Addr} {oc : Value} {od an : Option Addr} {osl : Array (Option Value)} {kV doc pm cdv ct : Value} (X : K.In h) (G : h.Ns mainGlobals mg)
  (a : PySem.W.nsIn K mainGlobals "law" = some (some (.ref f))) (l : K.lookup f = some ⟨oc,od,.func (PySem.W.fnOf "law" "law" (defArgs s_law) (defBody s_law) (defScope s_law) .none kV doc pm an cdv ct),osl⟩)
  (c : PySem.W.codeIn K cdv "law" = true) (k : PySem.W.keepIn K (.ref f) = true) : ∃ f fd,(∀ (s : Shared) (v : Value),BindsTo s fd ⟨[v],[]⟩ [("_law_script",v)]) ∧ Lk K mg "law" s_law ["_law_script"] f fd :=
 ⟨f,_,fun s v => .of_eq rfl,fun_mk l c k,PySem.W.mg_of X G a,(fun_mk l c k).binds fun _ _ _ _ _ _ us hl => match us,hl with | [_],_ => rfl⟩
theorem len1 {P : List Value → Prop} (h : ∀ a : Value,P [a]) : ∀ us : List Value,us.length = 1 → P us := fun us hl => match us,hl with | [a],_ => h a
theorem len2 {P : List Value → Prop} (h : ∀ a b : Value,P [a,b]) : ∀ us : List Value,us.length = 2 → P us := fun us hl => match us,hl with | [a,b],_ => h a b
theorem len3 {P : List Value → Prop} (h : ∀ a b c : Value,P [a,b,c]) : ∀ us : List Value,us.length = 3 → P us := fun us hl => match us,hl with | [a,b,c],_ => h a b c
theorem len4 {P : List Value → Prop} (h : ∀ a b c d : Value,P [a,b,c,d]) : ∀ us : List Value,us.length = 4 → P us := fun us hl => match us,hl with | [a,b,c,d],_ => h a b c d
def Fa (w : World) (K : PySem.W.Frag) : Prop := obs3 K = want w
theorem own_Reader {K : PySem.W.Frag} (h : (match PySem.W.nsIn K mainGlobals "Reader" with | some (some (.ref C)) => ownReader K C | _ => false) = true) : ∃ C,PySem.W.nsIn K mainGlobals "Reader" = some (some (.ref C)) ∧ PySem.W.plainGet K C Str.empty = true ∧ PySem.W.hasDictIn K C = true ∧ PySem.W.plainOver K C = true ∧ PySem.W.findIn K (.ref C) "__setattr__" = some (some (.builtin "object.__setattr__")) ∧ PySem.W.makesIn K C = true ∧ PySem.W.keepIn K (.ref C) = true ∧ ∀ x ∈ (["text","at"] : List Str),PySem.W.findIn K (.ref C) x = some none := by
 split at h
 ·rename_i C e
  unfold ownReader at h
  simp only [Bool.and_eq_true,beq_iff_eq] at h
  obtain ⟨⟨⟨h1,h2⟩,h3,h4⟩,⟨h5,h6⟩,h7⟩ := h
  exact ⟨C,e,h1,h2,h3,h4,h5,h6,fun x m => beq_iff_eq.mp (List.all_eq_true.mp h7 x m)⟩
 ·cases h
theorem cls_one {K : PySem.W.Frag} {n : Str} (h : (match PySem.W.nsIn K mainGlobals n with | some (some (.ref C)) => kOneF K C | _ => false) = true) : ∃ C,PySem.W.nsIn K mainGlobals n = some (some (.ref C)) ∧ kOneF K C = true := by
 split at h
 ·rename_i C e
  exact ⟨C,e,h⟩
 ·cases h
theorem meth_of {K : PySem.W.Frag} {C m : Str} {c : Addr} {v : Option (Option Value)} (g : PySem.W.nsIn K mainGlobals C = some (some (.ref c))) (e : methAt K C m = v) : PySem.W.findIn K (.ref c) m = v := by
 unfold methAt at e
 rw [g] at e
 exact e
theorem con_int {K : PySem.W.Frag} {mg : Str → Option Value} {h : Heap} {n : Str} {i : Int} (KX : K.In h) (G : h.Ns mainGlobals mg) (z : cInt K n i = true) : ∃ t,mg n = some (.int i t) := by
 unfold cInt at z
 split at z
 ·rename_i v t e
  exact ⟨t,by rw [← beq_iff_eq.mp z]; exact PySem.W.mg_of KX G e⟩
 ·cases z
theorem con_str {K : PySem.W.Frag} {mg : Str → Option Value} {h : Heap} {n : Str} {i : Str} (KX : K.In h) (G : h.Ns mainGlobals mg) (z : cStr K n i = true) : ∃ t,mg n = some (.str i t) := by
 unfold cStr at z
 split at z
 ·rename_i v t e
  exact ⟨t,by rw [← beq_iff_eq.mp z]; exact PySem.W.mg_of KX G e⟩
 ·cases z
theorem all_ok {P : Program} {w : World} {K : PySem.W.Frag} {mg : Str → Option Value} {base : Heap} (T : Txt mg) {tk0 : Tok} (hLON : mg "LONGEST_NAME" = some (.int 8 tk0)) {tk1 : Tok} (hDEE : mg "DEEPEST_VALUE" = some (.int 30 tk1)) {tk2 : Tok} (hMOS : mg "MOST_FIGURES" = some (.int 300 tk2)) {tk3 : Tok} (hLET : mg "LETTERS" = some (.str LET tk3)) {tk4 : Tok} (hROW : mg "MOST_ROWS" = some (.int 8 tk4)) {tk5 : Tok} (hPAI : mg "MOST_PAIRS" = some (.int 2 tk5)) {tk6 : Tok} (hHOP : mg "MOST_HOPS" = some (.int 60 tk6))
  (e_is_whole : ∃ f fd,Lk K mg "is_whole" s_is_whole ["thing"] f fd)
  (e_is_name : ∃ f fd,Lk K mg "is_name" s_is_name ["thing"] f fd)
  (e_read : ∃ f fd,Lk K mg "read" s_read ["text"] f fd)
  (e_number_in : ∃ f fd,Lk K mg "number_in" s_number_in ["word"] f fd)
  (e_sum_of : ∃ f fd,Lk K mg "sum_of" s_sum_of ["word"] f fd)
  (e_read_question : ∃ f fd,Lk K mg "read_question" s_read_question ["text","streams"] f fd)
  (e_pairs_in : ∃ f fd,Lk K mg "pairs_in" s_pairs_in ["rows"] f fd)
  (e_read_row : ∃ f fd,Lk K mg "read_row" s_read_row ["words","known"] f fd)
  (e_read_part : ∃ f fd,Lk K mg "read_part" s_read_part ["kind","word","known"] f fd)
  (e_is_sum : ∃ f fd,Lk K mg "is_sum" s_is_sum ["word"] f fd)
  (e_is_within : ∃ f fd,Lk K mg "is_within" s_is_within ["kind","number"] f fd)
  (e_goes_together : ∃ f fd,Lk K mg "goes_together" s_goes_together ["word","parts"] f fd)
  (e_open : ∃ f fd,Lk K mg "_law_open" s_open ["_law_script","_law_place"] f fd)
  (e_draw : ∃ f fd,Lk K mg "_law_draw" s_draw ["_law_hand","_law_many"] f fd)
  (e_far : ∃ f fd,Lk K mg "_law_far" s_far ["_law_hand","_law_bound"] f fd)
  (e_edge : ∃ f fd,Lk K mg "_law_edge" s_edge ["_law_hand","_law_low","_law_high"] f fd)
  (e_name : ∃ f fd,Lk K mg "_law_name" s_name ["_law_k","_law_front","_law_stem"] f fd)
  (e_names : ∃ f fd,Lk K mg "_law_names" s_names ["_law_hand"] f fd)
  (e_sum : ∃ f fd,Lk K mg "_law_sum" s_sum ["_law_hand"] f fd)
  (e_row : ∃ f fd,Lk K mg "_law_row" s_row ["_law_hand","_law_name_here","_law_known","_law_kind"] f fd)
  (e_rows : ∃ f fd,Lk K mg "_law_rows" s_rows ["_law_hand","_law_names_here","_law_many","_law_pairs"] f fd)
  (e_words : ∃ f fd,Lk K mg "_law_words" s_words ["_law_rows_here"] f fd)
  (e_same : ∃ f fd,Lk K mg "_law_same" s_same ["_law_one","_law_due_here"] f fd)
  (e_odd : ∃ f fd,Lk K mg "_law_odd" s_odd ["_law_hand","_law_names_here"] f fd)
  (e_sign : ∃ f fd,Lk K mg "_law_sign" s_sign ["_law_hand"] f fd)
  (e_spoilt : ∃ f fd,Lk K mg "_law_spoilt" s_spoilt ["_law_hand","_law_words_here","_law_names_here"] f fd)
  (e_number : ∃ f fd,Lk K mg "_law_number" s_number ["_law_word"] f fd)
  (e_shape : ∃ f fd,Lk K mg "_law_shape" s_shape ["_law_kind"] f fd)
  (e_is_name_ : ∃ f fd,Lk K mg "_law_is_name" s_is_name' ["_law_word"] f fd)
  (e_row_of : ∃ f fd,Lk K mg "_law_row_of" s_row_of ["_law_line","_law_known"] f fd)
  (e_due : ∃ f fd,Lk K mg "_law_due" s_due ["_law_words_here","_law_streams"] f fd)
  (e_told : ∃ f fd,Lk K mg "_law_told" s_told ["_law_words_here","_law_streams"] f fd)
  (e_refused : ∃ f fd,Lk K mg "_law_refused" s_refused ["_law_words_here","_law_streams"] f fd)
  (x_Reader : ∃ C,RX_Reader K mg C) (x_X : ∃ C,RX_X K mg C) (x_E : ∃ C,RE_X K mg C) (x_D0 : ∃ p,FM_X0 K w mg p)
  {f : Addr} {fd : FuncData} (L : Lk K mg "law" s_law ["_law_script"] f fd) : FnOk P w K mg base CX0 72 f fd ["_law_script"] (spLaw K) := by
 obtain ⟨_,_,L_is_whole⟩ := e_is_whole
 obtain ⟨_,_,L_is_name⟩ := e_is_name
 obtain ⟨_,_,L_read⟩ := e_read
 obtain ⟨_,_,L_number_in⟩ := e_number_in
 obtain ⟨_,_,L_sum_of⟩ := e_sum_of
 obtain ⟨_,_,L_read_question⟩ := e_read_question
 obtain ⟨_,_,L_pairs_in⟩ := e_pairs_in
 obtain ⟨_,_,L_read_row⟩ := e_read_row
 obtain ⟨_,_,L_read_part⟩ := e_read_part
 obtain ⟨_,_,L_is_sum⟩ := e_is_sum
 obtain ⟨_,_,L_is_within⟩ := e_is_within
 obtain ⟨_,_,L_goes_together⟩ := e_goes_together
 obtain ⟨_,_,L_open⟩ := e_open
 obtain ⟨_,_,L_draw⟩ := e_draw
 obtain ⟨_,_,L_far⟩ := e_far
 obtain ⟨_,_,L_edge⟩ := e_edge
 obtain ⟨_,_,L_name⟩ := e_name
 obtain ⟨_,_,L_names⟩ := e_names
 obtain ⟨_,_,L_sum⟩ := e_sum
 obtain ⟨_,_,L_row⟩ := e_row
 obtain ⟨_,_,L_rows⟩ := e_rows
 obtain ⟨_,_,L_words⟩ := e_words
 obtain ⟨_,_,L_same⟩ := e_same
 obtain ⟨_,_,L_odd⟩ := e_odd
 obtain ⟨_,_,L_sign⟩ := e_sign
 obtain ⟨_,_,L_spoilt⟩ := e_spoilt
 obtain ⟨_,_,L_number⟩ := e_number
 obtain ⟨_,_,L_shape⟩ := e_shape
 obtain ⟨_,_,L_is_name_⟩ := e_is_name_
 obtain ⟨_,_,L_row_of⟩ := e_row_of
 obtain ⟨_,_,L_due⟩ := e_due
 obtain ⟨_,_,L_told⟩ := e_told
 obtain ⟨_,_,L_refused⟩ := e_refused
 obtain ⟨C,rc,mR,⟨_,_,FI,MK,bI⟩,⟨_,_,M1⟩,⟨_,_,M2⟩,⟨_,_,M3⟩,⟨_,_,M4⟩,⟨_,_,M5⟩⟩ := x_Reader
 obtain ⟨c,R,⟨_,_,W0⟩,⟨_,_,W1⟩,⟨_,_,W2⟩,⟨_,_,W3⟩,⟨_,_,W4⟩,⟨_,_,W5⟩⟩ := x_X
 have R : RX K mg c := R
 obtain ⟨⟨NT,WE,NN,NQ⟩,N,M,Z⟩ := x_E
 have N : RE K mg NT WE := N
 have M : RM K mg NN := M
 have Z : RZ K mg NQ WE := Z
 obtain ⟨⟨da,ha,fa⟩,G⟩ := x_D0
 have G : FM K w mg da ha fa := G
 have c1 := ok_draw (P := P) (w := w) (base := base) L_draw T
 have c2 := ok_open (P := P) (w := w) (base := base) L_open T
 have c3 := ok_far L_far T c1
 have mki : MkC P w K mg base "Reader" C ["self","text"] 1 (spInit C) := ⟨_,_,MK,ok_init FI rc,mR,bI⟩
 have m1 := ok_sign (P := P) (w := w) (mg := mg) (base := base) M1 rc
 have m2 := ok_go M2 rc m1
 have m4 := ok_rnumber M4 T rc N hMOS m1 m2
 have m3 := ok_rv M3 M5 T rc N hLON m1 m2 m4 30
 have cr := ok_read L_read T rc N hDEE mki m3
 have cw := ok_whole (P := P) (w := w) (base := base) L_is_whole T
 have cn := ok_name (P := P) (w := w) (base := base) L_is_name T hLET hLON
 have ci := ok_num L_number_in T N cr cw
 have FW : Fam P w K mg base c 6 "word" ["self"] 1 spWord := ⟨R.cl,all6 (ok_w0 W0) (ok_w1 W1) (ok_w2 W2) (ok_w3 W3) (ok_w4 W4) (ok_w5 W5)⟩
 have cs := ok_sum_of L_sum_of T R M FW
 have ct := ok_is_sum L_is_sum T M cs
 have cv := ok_within (P := P) (w := w) (base := base) L_is_within T
 have cg := ok_goes (P := P) (w := w) (base := base) L_goes_together T hHOP
 have cp := ok_pairs (P := P) (w := w) (base := base) L_pairs_in T
 have ca := ok_part L_read_part T G ct ci cv
 have cb := ok_row L_read_row T G cn ca cg
 have cq := ok_rq L_read_question T Z hROW hPAI cb cp
 have d1 := ok_edge L_edge T c1 c3
 have d2 := ok_nameL (P := P) (w := w) (base := base) L_name T
 have d3 := ok_names L_names T c1 d2
 have d4 := ok_sumL L_sum T c1
 have d5 := ok_rowL L_row T c1 d1 d4
 have d6 := ok_rowsL L_rows T c1 d5
 have d7 := ok_words (P := P) (w := w) (base := base) L_words T
 have d8 := ok_same (P := P) (w := w) (base := base) L_same T 3
 have e1 := ok_lname (P := P) (w := w) (base := base) L_is_name_ T
 have e2 := ok_sgn L_sign T c1
 have e3 := ok_odd L_odd T c1
 have e4 := ok_spoilt L_spoilt T c1 e2 e3
 have e5 := ok_number (P := P) (w := w) (base := base) L_number T
 have e6 := ok_shape (P := P) (w := w) (base := base) L_shape T
 have e7 := ok_rowof L_row_of T e1 e6 e5
 have e8 := ok_due L_due T e7
 have e9 := ok_told L_told T Z cq
 have e10 := ok_refused L_refused T N Z cq
 exact ok_law L T c2 c1 d3 d6 d7 d8 e4 e8 e9 e10
theorem all_in {w : World} {P : Program} {K : PySem.W.Frag} {mg : Str → Option Value} {h : Heap} (hF : Fa w K) (KX : K.In h) (G : h.Ns mainGlobals mg) : ∃ f fd,(∀ (s : Shared) (v : Value),BindsTo s fd ⟨[v],[]⟩ [("_law_script",v)]) ∧ mg "law" = some (.ref f) ∧ ∀ base : Heap,FnOk P w K mg base CX0 72 f fd ["_law_script"] (spLaw K) := by
 have e0 : obsB K = true := congrArg Prod.fst hF
 have e1 : (dfs.map fun d => fnLook K (PySem.W.nsIn K mainGlobals d.1)) = dfs.map (fun d => fnWant d.1 d.1 d.2) := congrArg (fun p => p.2.1) hF
 have e2 : (mts.map fun m => fnLook K (methAt K m.1 m.2.1)) = mts.map (fun m => fnWant m.2.1 m.2.2.1 m.2.2.2) := congrArg (fun p => p.2.2.1) hF
 have e3 : obs4 K = want4 w := congrArg (fun p => p.2.2.2) hF
 unfold obsB at e0
 rw [Bool.and_eq_true,Bool.and_eq_true,Bool.and_eq_true] at e0
 obtain ⟨⟨b1,b2⟩,b3,b4⟩ := e0
 have bl : ∀ n ∈ blts,mg n = none := fun n m => PySem.W.mg_none_of KX G (beq_iff_eq.mp (List.all_eq_true.mp b1 n m))
 have dl := List.map_inj_left.mp e1
 have dg := List.all_eq_true.mp b2
 have ml := List.map_inj_left.mp e2
 have mg' : ∀ m ∈ mts,fnGood K m.2.2.1 (methAt K m.1 m.2.1) = true ∧ isFnO K (methAt K m.1 m.2.1) = true := fun m hm => Bool.and_eq_true_iff.mp (List.all_eq_true.mp b3 m hm)
 rw [Bool.and_eq_true] at b4
 obtain ⟨b46,b5⟩ := b4
 rw [Bool.and_eq_true] at b46
 obtain ⟨b4,b6⟩ := b46
 unfold clsB at b4
 simp only [Bool.and_eq_true] at b4
 obtain ⟨C0,gC0,pg0,hd0,po0,sa0,mk0,kc0,nf0⟩ := own_Reader (by first | exact b4.1.2 | exact b4.1.1.2 | exact b4.1.1.1.2)
 obtain ⟨tk0,gc0⟩ : ∃ t,mg "LONGEST_NAME" = some (.int 8 t) := by
  have z : cInt K "LONGEST_NAME" 8 = true := by
   unfold cnB at b5
   simp only [Bool.and_eq_true] at b5
   first | exact b5.2 | exact b5.1.2 | exact b5.1.1.2 | exact b5.1.1.1.2 | exact b5.1.1.1.1.2 | exact b5.1.1.1.1.1.2 | exact b5.1.1.1.1.1.1.2
  exact con_int KX G z
 obtain ⟨tk1,gc1⟩ : ∃ t,mg "DEEPEST_VALUE" = some (.int 30 t) := by
  have z : cInt K "DEEPEST_VALUE" 30 = true := by
   unfold cnB at b5
   simp only [Bool.and_eq_true] at b5
   first | exact b5.2 | exact b5.1.2 | exact b5.1.1.2 | exact b5.1.1.1.2 | exact b5.1.1.1.1.2 | exact b5.1.1.1.1.1.2 | exact b5.1.1.1.1.1.1.2
  exact con_int KX G z
 obtain ⟨tk2,gc2⟩ : ∃ t,mg "MOST_FIGURES" = some (.int 300 t) := by
  have z : cInt K "MOST_FIGURES" 300 = true := by
   unfold cnB at b5
   simp only [Bool.and_eq_true] at b5
   first | exact b5.2 | exact b5.1.2 | exact b5.1.1.2 | exact b5.1.1.1.2 | exact b5.1.1.1.1.2 | exact b5.1.1.1.1.1.2 | exact b5.1.1.1.1.1.1.2
  exact con_int KX G z
 obtain ⟨tk3,gc3⟩ : ∃ t,mg "LETTERS" = some (.str LET t) := by
  have z : cStr K "LETTERS" LET = true := by
   unfold cnB at b5
   simp only [Bool.and_eq_true] at b5
   first | exact b5.2 | exact b5.1.2 | exact b5.1.1.2 | exact b5.1.1.1.2 | exact b5.1.1.1.1.2 | exact b5.1.1.1.1.1.2 | exact b5.1.1.1.1.1.1.2
  exact con_str KX G z
 obtain ⟨tk4,gc4⟩ : ∃ t,mg "MOST_ROWS" = some (.int 8 t) := by
  have z : cInt K "MOST_ROWS" 8 = true := by
   unfold cnB at b5
   simp only [Bool.and_eq_true] at b5
   first | exact b5.2 | exact b5.1.2 | exact b5.1.1.2 | exact b5.1.1.1.2 | exact b5.1.1.1.1.2 | exact b5.1.1.1.1.1.2 | exact b5.1.1.1.1.1.1.2
  exact con_int KX G z
 obtain ⟨tk5,gc5⟩ : ∃ t,mg "MOST_PAIRS" = some (.int 2 t) := by
  have z : cInt K "MOST_PAIRS" 2 = true := by
   unfold cnB at b5
   simp only [Bool.and_eq_true] at b5
   first | exact b5.2 | exact b5.1.2 | exact b5.1.1.2 | exact b5.1.1.1.2 | exact b5.1.1.1.1.2 | exact b5.1.1.1.1.1.2 | exact b5.1.1.1.1.1.1.2
  exact con_int KX G z
 obtain ⟨tk6,gc6⟩ : ∃ t,mg "MOST_HOPS" = some (.int 60 t) := by
  have z : cInt K "MOST_HOPS" 60 = true := by
   unfold cnB at b5
   simp only [Bool.and_eq_true] at b5
   first | exact b5.2 | exact b5.1.2 | exact b5.1.1.2 | exact b5.1.1.1.2 | exact b5.1.1.1.1.2 | exact b5.1.1.1.1.1.2 | exact b5.1.1.1.1.1.1.2
  exact con_int KX G z
 have T : Txt mg := ⟨bl "len" (List.mem_of_getElem? (i := 0) rfl),bl "abs" (List.mem_of_getElem? (i := 1) rfl),bl "range" (List.mem_of_getElem? (i := 2) rfl),bl "isinstance" (List.mem_of_getElem? (i := 3) rfl),bl "int" (List.mem_of_getElem? (i := 4) rfl),bl "bool" (List.mem_of_getElem? (i := 5) rfl),bl "max" (List.mem_of_getElem? (i := 6) rfl),bl "min" (List.mem_of_getElem? (i := 7) rfl),bl "str" (List.mem_of_getElem? (i := 8) rfl),bl "list" (List.mem_of_getElem? (i := 9) rfl),bl "tuple" (List.mem_of_getElem? (i := 10) rfl),bl "all" (List.mem_of_getElem? (i := 11) rfl),bl "zip" (List.mem_of_getElem? (i := 12) rfl),bl "enumerate" (List.mem_of_getElem? (i := 13) rfl),bl "ValueError" (List.mem_of_getElem? (i := 14) rfl)⟩
 have hC : ∀ n ∈ (["Count","Total","Least","Greatest","Last","Unlike"] : List Str),∃ C,PySem.W.nsIn K mainGlobals n = some (some (.ref C)) ∧ kOneF K C = true := fun n m => cls_one (List.all_eq_true.mp b4.2 n m)
 obtain ⟨c0,g0,k0⟩ := hC "Count" (List.mem_of_getElem? (i := 0) rfl)
 obtain ⟨c1,g1,k1⟩ := hC "Total" (List.mem_of_getElem? (i := 1) rfl)
 obtain ⟨c2,g2,k2⟩ := hC "Least" (List.mem_of_getElem? (i := 2) rfl)
 obtain ⟨c3,g3,k3⟩ := hC "Greatest" (List.mem_of_getElem? (i := 3) rfl)
 obtain ⟨c4,g4,k4⟩ := hC "Last" (List.mem_of_getElem? (i := 4) rfl)
 obtain ⟨c5,g5,k5⟩ := hC "Unlike" (List.mem_of_getElem? (i := 5) rfl)
 have e_is_whole : ∃ f fd,Lk K mg "is_whole" s_is_whole ["thing"] f fd := by
  have hm : (("is_whole",s_is_whole) : Str × Stmt) ∈ dfs := List.mem_of_getElem? (i := 0) rfl
  obtain ⟨f,oc,od,an,osl,kV,doc,pm,cdv,ct,hv,hl,hc,hk⟩ := fun_of (dl _ hm) (dg _ hm)
  exact lk_mk KX G hv hl hc hk (fun _ _ _ _ _ _ => len1 fun _ => rfl)
 have e_is_name : ∃ f fd,Lk K mg "is_name" s_is_name ["thing"] f fd := by
  have hm : (("is_name",s_is_name) : Str × Stmt) ∈ dfs := List.mem_of_getElem? (i := 1) rfl
  obtain ⟨f,oc,od,an,osl,kV,doc,pm,cdv,ct,hv,hl,hc,hk⟩ := fun_of (dl _ hm) (dg _ hm)
  exact lk_mk KX G hv hl hc hk (fun _ _ _ _ _ _ => len1 fun _ => rfl)
 have e_read : ∃ f fd,Lk K mg "read" s_read ["text"] f fd := by
  have hm : (("read",s_read) : Str × Stmt) ∈ dfs := List.mem_of_getElem? (i := 2) rfl
  obtain ⟨f,oc,od,an,osl,kV,doc,pm,cdv,ct,hv,hl,hc,hk⟩ := fun_of (dl _ hm) (dg _ hm)
  exact lk_mk KX G hv hl hc hk (fun _ _ _ _ _ _ => len1 fun _ => rfl)
 have e_number_in : ∃ f fd,Lk K mg "number_in" s_number_in ["word"] f fd := by
  have hm : (("number_in",s_number_in) : Str × Stmt) ∈ dfs := List.mem_of_getElem? (i := 3) rfl
  obtain ⟨f,oc,od,an,osl,kV,doc,pm,cdv,ct,hv,hl,hc,hk⟩ := fun_of (dl _ hm) (dg _ hm)
  exact lk_mk KX G hv hl hc hk (fun _ _ _ _ _ _ => len1 fun _ => rfl)
 have e_sum_of : ∃ f fd,Lk K mg "sum_of" s_sum_of ["word"] f fd := by
  have hm : (("sum_of",s_sum_of) : Str × Stmt) ∈ dfs := List.mem_of_getElem? (i := 4) rfl
  obtain ⟨f,oc,od,an,osl,kV,doc,pm,cdv,ct,hv,hl,hc,hk⟩ := fun_of (dl _ hm) (dg _ hm)
  exact lk_mk KX G hv hl hc hk (fun _ _ _ _ _ _ => len1 fun _ => rfl)
 have e_read_question : ∃ f fd,Lk K mg "read_question" s_read_question ["text","streams"] f fd := by
  have hm : (("read_question",s_read_question) : Str × Stmt) ∈ dfs := List.mem_of_getElem? (i := 5) rfl
  obtain ⟨f,oc,od,an,osl,kV,doc,pm,cdv,ct,hv,hl,hc,hk⟩ := fun_of (dl _ hm) (dg _ hm)
  exact lk_mk KX G hv hl hc hk (fun _ _ _ _ _ _ => len2 fun _ _ => rfl)
 have e_pairs_in : ∃ f fd,Lk K mg "pairs_in" s_pairs_in ["rows"] f fd := by
  have hm : (("pairs_in",s_pairs_in) : Str × Stmt) ∈ dfs := List.mem_of_getElem? (i := 6) rfl
  obtain ⟨f,oc,od,an,osl,kV,doc,pm,cdv,ct,hv,hl,hc,hk⟩ := fun_of (dl _ hm) (dg _ hm)
  exact lk_mk KX G hv hl hc hk (fun _ _ _ _ _ _ => len1 fun _ => rfl)
 have e_read_row : ∃ f fd,Lk K mg "read_row" s_read_row ["words","known"] f fd := by
  have hm : (("read_row",s_read_row) : Str × Stmt) ∈ dfs := List.mem_of_getElem? (i := 7) rfl
  obtain ⟨f,oc,od,an,osl,kV,doc,pm,cdv,ct,hv,hl,hc,hk⟩ := fun_of (dl _ hm) (dg _ hm)
  exact lk_mk KX G hv hl hc hk (fun _ _ _ _ _ _ => len2 fun _ _ => rfl)
 have e_read_part : ∃ f fd,Lk K mg "read_part" s_read_part ["kind","word","known"] f fd := by
  have hm : (("read_part",s_read_part) : Str × Stmt) ∈ dfs := List.mem_of_getElem? (i := 8) rfl
  obtain ⟨f,oc,od,an,osl,kV,doc,pm,cdv,ct,hv,hl,hc,hk⟩ := fun_of (dl _ hm) (dg _ hm)
  exact lk_mk KX G hv hl hc hk (fun _ _ _ _ _ _ => len3 fun _ _ _ => rfl)
 have e_is_sum : ∃ f fd,Lk K mg "is_sum" s_is_sum ["word"] f fd := by
  have hm : (("is_sum",s_is_sum) : Str × Stmt) ∈ dfs := List.mem_of_getElem? (i := 9) rfl
  obtain ⟨f,oc,od,an,osl,kV,doc,pm,cdv,ct,hv,hl,hc,hk⟩ := fun_of (dl _ hm) (dg _ hm)
  exact lk_mk KX G hv hl hc hk (fun _ _ _ _ _ _ => len1 fun _ => rfl)
 have e_is_within : ∃ f fd,Lk K mg "is_within" s_is_within ["kind","number"] f fd := by
  have hm : (("is_within",s_is_within) : Str × Stmt) ∈ dfs := List.mem_of_getElem? (i := 10) rfl
  obtain ⟨f,oc,od,an,osl,kV,doc,pm,cdv,ct,hv,hl,hc,hk⟩ := fun_of (dl _ hm) (dg _ hm)
  exact lk_mk KX G hv hl hc hk (fun _ _ _ _ _ _ => len2 fun _ _ => rfl)
 have e_goes_together : ∃ f fd,Lk K mg "goes_together" s_goes_together ["word","parts"] f fd := by
  have hm : (("goes_together",s_goes_together) : Str × Stmt) ∈ dfs := List.mem_of_getElem? (i := 11) rfl
  obtain ⟨f,oc,od,an,osl,kV,doc,pm,cdv,ct,hv,hl,hc,hk⟩ := fun_of (dl _ hm) (dg _ hm)
  exact lk_mk KX G hv hl hc hk (fun _ _ _ _ _ _ => len2 fun _ _ => rfl)
 have e_open : ∃ f fd,Lk K mg "_law_open" s_open ["_law_script","_law_place"] f fd := by
  have hm : (("_law_open",s_open) : Str × Stmt) ∈ dfs := List.mem_of_getElem? (i := 12) rfl
  obtain ⟨f,oc,od,an,osl,kV,doc,pm,cdv,ct,hv,hl,hc,hk⟩ := fun_of (dl _ hm) (dg _ hm)
  exact lk_mk KX G hv hl hc hk (fun _ _ _ _ _ _ => len2 fun _ _ => rfl)
 have e_draw : ∃ f fd,Lk K mg "_law_draw" s_draw ["_law_hand","_law_many"] f fd := by
  have hm : (("_law_draw",s_draw) : Str × Stmt) ∈ dfs := List.mem_of_getElem? (i := 13) rfl
  obtain ⟨f,oc,od,an,osl,kV,doc,pm,cdv,ct,hv,hl,hc,hk⟩ := fun_of (dl _ hm) (dg _ hm)
  exact lk_mk KX G hv hl hc hk (fun _ _ _ _ _ _ => len2 fun _ _ => rfl)
 have e_far : ∃ f fd,Lk K mg "_law_far" s_far ["_law_hand","_law_bound"] f fd := by
  have hm : (("_law_far",s_far) : Str × Stmt) ∈ dfs := List.mem_of_getElem? (i := 14) rfl
  obtain ⟨f,oc,od,an,osl,kV,doc,pm,cdv,ct,hv,hl,hc,hk⟩ := fun_of (dl _ hm) (dg _ hm)
  exact lk_mk KX G hv hl hc hk (fun _ _ _ _ _ _ => len2 fun _ _ => rfl)
 have e_edge : ∃ f fd,Lk K mg "_law_edge" s_edge ["_law_hand","_law_low","_law_high"] f fd := by
  have hm : (("_law_edge",s_edge) : Str × Stmt) ∈ dfs := List.mem_of_getElem? (i := 15) rfl
  obtain ⟨f,oc,od,an,osl,kV,doc,pm,cdv,ct,hv,hl,hc,hk⟩ := fun_of (dl _ hm) (dg _ hm)
  exact lk_mk KX G hv hl hc hk (fun _ _ _ _ _ _ => len3 fun _ _ _ => rfl)
 have e_name : ∃ f fd,Lk K mg "_law_name" s_name ["_law_k","_law_front","_law_stem"] f fd := by
  have hm : (("_law_name",s_name) : Str × Stmt) ∈ dfs := List.mem_of_getElem? (i := 16) rfl
  obtain ⟨f,oc,od,an,osl,kV,doc,pm,cdv,ct,hv,hl,hc,hk⟩ := fun_of (dl _ hm) (dg _ hm)
  exact lk_mk KX G hv hl hc hk (fun _ _ _ _ _ _ => len3 fun _ _ _ => rfl)
 have e_names : ∃ f fd,Lk K mg "_law_names" s_names ["_law_hand"] f fd := by
  have hm : (("_law_names",s_names) : Str × Stmt) ∈ dfs := List.mem_of_getElem? (i := 17) rfl
  obtain ⟨f,oc,od,an,osl,kV,doc,pm,cdv,ct,hv,hl,hc,hk⟩ := fun_of (dl _ hm) (dg _ hm)
  exact lk_mk KX G hv hl hc hk (fun _ _ _ _ _ _ => len1 fun _ => rfl)
 have e_sum : ∃ f fd,Lk K mg "_law_sum" s_sum ["_law_hand"] f fd := by
  have hm : (("_law_sum",s_sum) : Str × Stmt) ∈ dfs := List.mem_of_getElem? (i := 18) rfl
  obtain ⟨f,oc,od,an,osl,kV,doc,pm,cdv,ct,hv,hl,hc,hk⟩ := fun_of (dl _ hm) (dg _ hm)
  exact lk_mk KX G hv hl hc hk (fun _ _ _ _ _ _ => len1 fun _ => rfl)
 have e_row : ∃ f fd,Lk K mg "_law_row" s_row ["_law_hand","_law_name_here","_law_known","_law_kind"] f fd := by
  have hm : (("_law_row",s_row) : Str × Stmt) ∈ dfs := List.mem_of_getElem? (i := 19) rfl
  obtain ⟨f,oc,od,an,osl,kV,doc,pm,cdv,ct,hv,hl,hc,hk⟩ := fun_of (dl _ hm) (dg _ hm)
  exact lk_mk KX G hv hl hc hk (fun _ _ _ _ _ _ => len4 fun _ _ _ _ => rfl)
 have e_rows : ∃ f fd,Lk K mg "_law_rows" s_rows ["_law_hand","_law_names_here","_law_many","_law_pairs"] f fd := by
  have hm : (("_law_rows",s_rows) : Str × Stmt) ∈ dfs := List.mem_of_getElem? (i := 20) rfl
  obtain ⟨f,oc,od,an,osl,kV,doc,pm,cdv,ct,hv,hl,hc,hk⟩ := fun_of (dl _ hm) (dg _ hm)
  exact lk_mk KX G hv hl hc hk (fun _ _ _ _ _ _ => len4 fun _ _ _ _ => rfl)
 have e_words : ∃ f fd,Lk K mg "_law_words" s_words ["_law_rows_here"] f fd := by
  have hm : (("_law_words",s_words) : Str × Stmt) ∈ dfs := List.mem_of_getElem? (i := 21) rfl
  obtain ⟨f,oc,od,an,osl,kV,doc,pm,cdv,ct,hv,hl,hc,hk⟩ := fun_of (dl _ hm) (dg _ hm)
  exact lk_mk KX G hv hl hc hk (fun _ _ _ _ _ _ => len1 fun _ => rfl)
 have e_same : ∃ f fd,Lk K mg "_law_same" s_same ["_law_one","_law_due_here"] f fd := by
  have hm : (("_law_same",s_same) : Str × Stmt) ∈ dfs := List.mem_of_getElem? (i := 22) rfl
  obtain ⟨f,oc,od,an,osl,kV,doc,pm,cdv,ct,hv,hl,hc,hk⟩ := fun_of (dl _ hm) (dg _ hm)
  exact lk_mk KX G hv hl hc hk (fun _ _ _ _ _ _ => len2 fun _ _ => rfl)
 have e_odd : ∃ f fd,Lk K mg "_law_odd" s_odd ["_law_hand","_law_names_here"] f fd := by
  have hm : (("_law_odd",s_odd) : Str × Stmt) ∈ dfs := List.mem_of_getElem? (i := 23) rfl
  obtain ⟨f,oc,od,an,osl,kV,doc,pm,cdv,ct,hv,hl,hc,hk⟩ := fun_of (dl _ hm) (dg _ hm)
  exact lk_mk KX G hv hl hc hk (fun _ _ _ _ _ _ => len2 fun _ _ => rfl)
 have e_sign : ∃ f fd,Lk K mg "_law_sign" s_sign ["_law_hand"] f fd := by
  have hm : (("_law_sign",s_sign) : Str × Stmt) ∈ dfs := List.mem_of_getElem? (i := 24) rfl
  obtain ⟨f,oc,od,an,osl,kV,doc,pm,cdv,ct,hv,hl,hc,hk⟩ := fun_of (dl _ hm) (dg _ hm)
  exact lk_mk KX G hv hl hc hk (fun _ _ _ _ _ _ => len1 fun _ => rfl)
 have e_spoilt : ∃ f fd,Lk K mg "_law_spoilt" s_spoilt ["_law_hand","_law_words_here","_law_names_here"] f fd := by
  have hm : (("_law_spoilt",s_spoilt) : Str × Stmt) ∈ dfs := List.mem_of_getElem? (i := 25) rfl
  obtain ⟨f,oc,od,an,osl,kV,doc,pm,cdv,ct,hv,hl,hc,hk⟩ := fun_of (dl _ hm) (dg _ hm)
  exact lk_mk KX G hv hl hc hk (fun _ _ _ _ _ _ => len3 fun _ _ _ => rfl)
 have e_number : ∃ f fd,Lk K mg "_law_number" s_number ["_law_word"] f fd := by
  have hm : (("_law_number",s_number) : Str × Stmt) ∈ dfs := List.mem_of_getElem? (i := 26) rfl
  obtain ⟨f,oc,od,an,osl,kV,doc,pm,cdv,ct,hv,hl,hc,hk⟩ := fun_of (dl _ hm) (dg _ hm)
  exact lk_mk KX G hv hl hc hk (fun _ _ _ _ _ _ => len1 fun _ => rfl)
 have e_shape : ∃ f fd,Lk K mg "_law_shape" s_shape ["_law_kind"] f fd := by
  have hm : (("_law_shape",s_shape) : Str × Stmt) ∈ dfs := List.mem_of_getElem? (i := 27) rfl
  obtain ⟨f,oc,od,an,osl,kV,doc,pm,cdv,ct,hv,hl,hc,hk⟩ := fun_of (dl _ hm) (dg _ hm)
  exact lk_mk KX G hv hl hc hk (fun _ _ _ _ _ _ => len1 fun _ => rfl)
 have e_is_name_ : ∃ f fd,Lk K mg "_law_is_name" s_is_name' ["_law_word"] f fd := by
  have hm : (("_law_is_name",s_is_name') : Str × Stmt) ∈ dfs := List.mem_of_getElem? (i := 28) rfl
  obtain ⟨f,oc,od,an,osl,kV,doc,pm,cdv,ct,hv,hl,hc,hk⟩ := fun_of (dl _ hm) (dg _ hm)
  exact lk_mk KX G hv hl hc hk (fun _ _ _ _ _ _ => len1 fun _ => rfl)
 have e_row_of : ∃ f fd,Lk K mg "_law_row_of" s_row_of ["_law_line","_law_known"] f fd := by
  have hm : (("_law_row_of",s_row_of) : Str × Stmt) ∈ dfs := List.mem_of_getElem? (i := 29) rfl
  obtain ⟨f,oc,od,an,osl,kV,doc,pm,cdv,ct,hv,hl,hc,hk⟩ := fun_of (dl _ hm) (dg _ hm)
  exact lk_mk KX G hv hl hc hk (fun _ _ _ _ _ _ => len2 fun _ _ => rfl)
 have e_due : ∃ f fd,Lk K mg "_law_due" s_due ["_law_words_here","_law_streams"] f fd := by
  have hm : (("_law_due",s_due) : Str × Stmt) ∈ dfs := List.mem_of_getElem? (i := 30) rfl
  obtain ⟨f,oc,od,an,osl,kV,doc,pm,cdv,ct,hv,hl,hc,hk⟩ := fun_of (dl _ hm) (dg _ hm)
  exact lk_mk KX G hv hl hc hk (fun _ _ _ _ _ _ => len2 fun _ _ => rfl)
 have e_told : ∃ f fd,Lk K mg "_law_told" s_told ["_law_words_here","_law_streams"] f fd := by
  have hm : (("_law_told",s_told) : Str × Stmt) ∈ dfs := List.mem_of_getElem? (i := 31) rfl
  obtain ⟨f,oc,od,an,osl,kV,doc,pm,cdv,ct,hv,hl,hc,hk⟩ := fun_of (dl _ hm) (dg _ hm)
  exact lk_mk KX G hv hl hc hk (fun _ _ _ _ _ _ => len2 fun _ _ => rfl)
 have e_refused : ∃ f fd,Lk K mg "_law_refused" s_refused ["_law_words_here","_law_streams"] f fd := by
  have hm : (("_law_refused",s_refused) : Str × Stmt) ∈ dfs := List.mem_of_getElem? (i := 32) rfl
  obtain ⟨f,oc,od,an,osl,kV,doc,pm,cdv,ct,hv,hl,hc,hk⟩ := fun_of (dl _ hm) (dg _ hm)
  exact lk_mk KX G hv hl hc hk (fun _ _ _ _ _ _ => len2 fun _ _ => rfl)
 have e_law : ∃ f fd,(∀ (s : Shared) (v : Value),BindsTo s fd ⟨[v],[]⟩ [("_law_script",v)]) ∧ Lk K mg "law" s_law ["_law_script"] f fd := by
  have hm : (("law",s_law) : Str × Stmt) ∈ dfs := List.mem_of_getElem? (i := 33) rfl
  obtain ⟨f,oc,od,an,osl,kV,doc,pm,cdv,ct,hv,hl,hc,hk⟩ := fun_of (dl _ hm) (dg _ hm)
  exact lk_law KX G hv hl hc hk
 have hm0 : (("Reader","__init__","Reader.__init__",s_Reader___init__) : Str × Str × Str × Stmt) ∈ mts := List.mem_of_getElem? (i := 0) rfl
 obtain ⟨f0,oc0,od0,an0,osl0,kV0,doc0,pm0,cdv0,ct0,hv0,hl0,hc0,hk0⟩ := fun_of (ml _ hm0) (mg' _ hm0).1
 have hi0 : PySem.W.isFn K (.ref f0) = true := by
  have z := (mg' _ hm0).2
  rw [hv0] at z
  exact z
 have hm1 : (("Reader","sign","Reader.sign",s_Reader_sign) : Str × Str × Str × Stmt) ∈ mts := List.mem_of_getElem? (i := 1) rfl
 obtain ⟨f1,oc1,od1,an1,osl1,kV1,doc1,pm1,cdv1,ct1,hv1,hl1,hc1,hk1⟩ := fun_of (ml _ hm1) (mg' _ hm1).1
 have hi1 : PySem.W.isFn K (.ref f1) = true := by
  have z := (mg' _ hm1).2
  rw [hv1] at z
  exact z
 have hm2 : (("Reader","go_over","Reader.go_over",s_Reader_go_over) : Str × Str × Str × Stmt) ∈ mts := List.mem_of_getElem? (i := 2) rfl
 obtain ⟨f2,oc2,od2,an2,osl2,kV2,doc2,pm2,cdv2,ct2,hv2,hl2,hc2,hk2⟩ := fun_of (ml _ hm2) (mg' _ hm2).1
 have hi2 : PySem.W.isFn K (.ref f2) = true := by
  have z := (mg' _ hm2).2
  rw [hv2] at z
  exact z
 have hm3 : (("Reader","read_value","Reader.read_value",s_Reader_read_value) : Str × Str × Str × Stmt) ∈ mts := List.mem_of_getElem? (i := 3) rfl
 obtain ⟨f3,oc3,od3,an3,osl3,kV3,doc3,pm3,cdv3,ct3,hv3,hl3,hc3,hk3⟩ := fun_of (ml _ hm3) (mg' _ hm3).1
 have hi3 : PySem.W.isFn K (.ref f3) = true := by
  have z := (mg' _ hm3).2
  rw [hv3] at z
  exact z
 have hm4 : (("Reader","read_number","Reader.read_number",s_Reader_read_number) : Str × Str × Str × Stmt) ∈ mts := List.mem_of_getElem? (i := 4) rfl
 obtain ⟨f4,oc4,od4,an4,osl4,kV4,doc4,pm4,cdv4,ct4,hv4,hl4,hc4,hk4⟩ := fun_of (ml _ hm4) (mg' _ hm4).1
 have hi4 : PySem.W.isFn K (.ref f4) = true := by
  have z := (mg' _ hm4).2
  rw [hv4] at z
  exact z
 have hm5 : (("Reader","read_parts","Reader.read_parts",s_Reader_read_parts) : Str × Str × Str × Stmt) ∈ mts := List.mem_of_getElem? (i := 5) rfl
 obtain ⟨f5,oc5,od5,an5,osl5,kV5,doc5,pm5,cdv5,ct5,hv5,hl5,hc5,hk5⟩ := fun_of (ml _ hm5) (mg' _ hm5).1
 have hi5 : PySem.W.isFn K (.ref f5) = true := by
  have z := (mg' _ hm5).2
  rw [hv5] at z
  exact z
 have hm6 : (("Count","word","Count.word",s_Count_word) : Str × Str × Str × Stmt) ∈ mts := List.mem_of_getElem? (i := 6) rfl
 obtain ⟨f6,oc6,od6,an6,osl6,kV6,doc6,pm6,cdv6,ct6,hv6,hl6,hc6,hk6⟩ := fun_of (ml _ hm6) (mg' _ hm6).1
 have hi6 : PySem.W.isFn K (.ref f6) = true := by
  have z := (mg' _ hm6).2
  rw [hv6] at z
  exact z
 have hm7 : (("Total","word","Total.word",s_Total_word) : Str × Str × Str × Stmt) ∈ mts := List.mem_of_getElem? (i := 7) rfl
 obtain ⟨f7,oc7,od7,an7,osl7,kV7,doc7,pm7,cdv7,ct7,hv7,hl7,hc7,hk7⟩ := fun_of (ml _ hm7) (mg' _ hm7).1
 have hi7 : PySem.W.isFn K (.ref f7) = true := by
  have z := (mg' _ hm7).2
  rw [hv7] at z
  exact z
 have hm8 : (("Least","word","Least.word",s_Least_word) : Str × Str × Str × Stmt) ∈ mts := List.mem_of_getElem? (i := 8) rfl
 obtain ⟨f8,oc8,od8,an8,osl8,kV8,doc8,pm8,cdv8,ct8,hv8,hl8,hc8,hk8⟩ := fun_of (ml _ hm8) (mg' _ hm8).1
 have hi8 : PySem.W.isFn K (.ref f8) = true := by
  have z := (mg' _ hm8).2
  rw [hv8] at z
  exact z
 have hm9 : (("Greatest","word","Greatest.word",s_Greatest_word) : Str × Str × Str × Stmt) ∈ mts := List.mem_of_getElem? (i := 9) rfl
 obtain ⟨f9,oc9,od9,an9,osl9,kV9,doc9,pm9,cdv9,ct9,hv9,hl9,hc9,hk9⟩ := fun_of (ml _ hm9) (mg' _ hm9).1
 have hi9 : PySem.W.isFn K (.ref f9) = true := by
  have z := (mg' _ hm9).2
  rw [hv9] at z
  exact z
 have hm10 : (("Last","word","Last.word",s_Last_word) : Str × Str × Str × Stmt) ∈ mts := List.mem_of_getElem? (i := 10) rfl
 obtain ⟨f10,oc10,od10,an10,osl10,kV10,doc10,pm10,cdv10,ct10,hv10,hl10,hc10,hk10⟩ := fun_of (ml _ hm10) (mg' _ hm10).1
 have hi10 : PySem.W.isFn K (.ref f10) = true := by
  have z := (mg' _ hm10).2
  rw [hv10] at z
  exact z
 have hm11 : (("Unlike","word","Unlike.word",s_Unlike_word) : Str × Str × Str × Stmt) ∈ mts := List.mem_of_getElem? (i := 11) rfl
 obtain ⟨f11,oc11,od11,an11,osl11,kV11,doc11,pm11,cdv11,ct11,hv11,hl11,hc11,hk11⟩ := fun_of (ml _ hm11) (mg' _ hm11).1
 have hi11 : PySem.W.isFn K (.ref f11) = true := by
  have z := (mg' _ hm11).2
  rw [hv11] at z
  exact z
 have hm12 : (("NoText","__init__","NoText.__init__",s_NoText___init__) : Str × Str × Str × Stmt) ∈ mts := List.mem_of_getElem? (i := 12) rfl
 obtain ⟨f12,oc12,od12,an12,osl12,kV12,doc12,pm12,cdv12,ct12,hv12,hl12,hc12,hk12⟩ := fun_of (ml _ hm12) (mg' _ hm12).1
 have hi12 : PySem.W.isFn K (.ref f12) = true := by
  have z := (mg' _ hm12).2
  rw [hv12] at z
  exact z
 have hm13 : (("NoName","__init__","NoName.__init__",s_NoName___init__) : Str × Str × Str × Stmt) ∈ mts := List.mem_of_getElem? (i := 13) rfl
 obtain ⟨f13,oc13,od13,an13,osl13,kV13,doc13,pm13,cdv13,ct13,hv13,hl13,hc13,hk13⟩ := fun_of (ml _ hm13) (mg' _ hm13).1
 have hi13 : PySem.W.isFn K (.ref f13) = true := by
  have z := (mg' _ hm13).2
  rw [hv13] at z
  exact z
 have hm14 : (("NoQuestion","__init__","NoQuestion.__init__",s_NoQuestion___init__) : Str × Str × Str × Stmt) ∈ mts := List.mem_of_getElem? (i := 14) rfl
 obtain ⟨f14,oc14,od14,an14,osl14,kV14,doc14,pm14,cdv14,ct14,hv14,hl14,hc14,hk14⟩ := fun_of (ml _ hm14) (mg' _ hm14).1
 have hi14 : PySem.W.isFn K (.ref f14) = true := by
  have z := (mg' _ hm14).2
  rw [hv14] at z
  exact z
 have x_Reader : ∃ C,RX_Reader K mg C := rx_Reader_mk KX G gC0 (meth_of gC0 hv0) hi0 hl0 hc0 hk0 (meth_of gC0 hv1) hi1 hl1 hc1 hk1 (meth_of gC0 hv2) hi2 hl2 hc2 hk2 (meth_of gC0 hv3) hi3 hl3 hc3 hk3 (meth_of gC0 hv4) hi4 hl4 hc4 hk4 (meth_of gC0 hv5) hi5 hl5 hc5 hk5 pg0 hd0 po0 sa0 mk0 kc0 (nf0 "text" (List.mem_of_getElem? (i := 0) rfl)) (nf0 "at" (List.mem_of_getElem? (i := 1) rfl))
 have x_X : ∃ C,RX_X K mg C := rx_X_mk KX G g0 g1 g2 g3 g4 g5 (meth_of g0 hv6) hi6 hl6 hc6 hk6 (meth_of g1 hv7) hi7 hl7 hc7 hk7 (meth_of g2 hv8) hi8 hl8 hc8 hk8 (meth_of g3 hv9) hi9 hl9 hc9 hk9 (meth_of g4 hv10) hi10 hl10 hc10 hk10 (meth_of g5 hv11) hi11 hl11 hc11 hk11 (by
  simp only [List.all_cons,List.all_nil,k0,k1,k2,k3,k4,k5,Bool.and_self])
 have x_D0 : ∃ p,FM_X0 K w mg p := fm_mk0 KX G (Option.some.inj (congrArg (fun l => l[0]?) e3)) (Option.some.inj (congrArg (fun l => l[1]?) e3))
 have x_E : ∃ C,RE_X K mg C := re_mk KX G b6 (meth_of (ex_ref b6 "NoText") hv12) hi12 hl12 hc12 hk12 (meth_of (ex_ref b6 "NoName") hv13) hi13 hl13 hc13 hk13 (meth_of (ex_ref b6 "NoQuestion") hv14) hi14 hl14 hc14 hk14
 obtain ⟨f,fd,hb,L⟩ := e_law
 exact ⟨f,fd,hb,L.m,fun base => all_ok T gc0 gc1 gc2 gc3 gc4 gc5 gc6 e_is_whole e_is_name e_read e_number_in e_sum_of e_read_question e_pairs_in e_read_row e_read_part e_is_sum e_is_within e_goes_together e_open e_draw e_far e_edge e_name e_names e_sum e_row e_rows e_words e_same e_odd e_sign e_spoilt e_number e_shape e_is_name_ e_row_of e_due e_told e_refused x_Reader x_X x_E x_D0 L⟩
end K85
open PySem PySem.W PyProof.Rows
set_option maxRecDepth 100000 in
set_option maxHeartbeats 0 in
theorem PySem.Challenge.cw_weirmark_k85_questions_refused_holds : PySem.Challenge.rw_weirmark_k85_questions_refused.Holds := by
 w_on; o_law
 refine PySem.W.holds_open (q := K85.qv) (loose := ["FORMS","HOWS"]) (Xt := K85.Xt) (XP := XL K85.qv []) (Yf := K85.obs) (Ya := K85.want) (YP := fun w h => ∃ K : PySem.W.Frag,K85.Fa w K ∧ K.In h) (N := 11752) K85.left (fun w s e => ⟨_,e,L2.fragOf_in _ _⟩) (fun w h h' ⟨K,a,b⟩ k => ⟨K,a,b.keeps k⟩) (fun s e => xl_of s (Bool.and_eq_true_iff.mp e).1) XL.keeps (by rfl) (by rfl) (by rfl) (fun s e => recFacts_of (Bool.and_eq_true_iff.mp e).2) (by rfl) (by first | assumption | decide +kernel) (by decide +kernel) ⟨rfl,rfl,rfl,rfl,rfl,by decide +kernel⟩ ?hw ?hc
 case hw => w_witness2
 case hc =>
  refine L2.walk_ofW (l := PySem.Challenge.rw_weirmark_k85_questions_refused) (n := 63) (k := 72) (x := "_law_script") (CX := L2.CX0) (sp := K85.spLaw) rfl (by decide) rfl ⟨rfl,by decide,by decide⟩ ?_ (fun K H a ns hl _ hS => ⟨a,ns,rfl,hS,hl,fun _ => rfl⟩) fun _ _ _ _ z => z
  intro w K mg fa h hF KX G hmg
  obtain ⟨f,fd,hb,hm,ok⟩ := K85.all_in (w := w) (P := PySem.Challenge.pw_weirmark_k85_questions_refused) hF KX G
  have e0 := hmg.symm.trans hm
  cases e0
  exact ⟨fd,hb,fun base _ _ => ok base⟩
end
