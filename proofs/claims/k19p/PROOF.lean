import PyProof.Rows.All
import Wide.All
import OpenK.AllK
import Wide.FinOn
import Lean
import PyProof.EqAt
import PyProof.EqKinds
import PyProof.TupleCall
import KE.KRevSl
import KE.KIsAll
import OpenK.KOwn
import PyProof.InstStoreFacts
import PyProof.ExcInit
import PyProof.RulesAs
import PyProof.RulesDel
import KE.KTryMore
import PySem.Challenge.RW_weirmark_k19_refusals_apart
set_option Elab.async false
set_option linter.all false
set_option maxRecDepth 100000
section
set_option Elab.async false
set_option linter.all false
set_option maxRecDepth 100000
/-! THE HAND LAYER, for ints, bools, texts, own classes, LISTS and tuples (index, slices, in, append, pop ..), calls, loops. Paste it whole ahead of your own text; what your proof does not reach may be deleted. -/
namespace L2
open PySem PySem.Spec PyProof.Rows

/-- a key: an int or a str -/
abbrev Key := Sum Int Str
def keyIs : Key → Value → Bool
  | .inl k, v => Value.isInt k v
  | .inr x, v => Value.isStrOf x v
def keyH (w : World) : Key → Int
  | .inl k => hashInt k
  | .inr x => hashStr w x
theorem keyIs_shape : ∀ {k : Key} {v : Value}, keyIs k v = true → (∃ i t, k = Sum.inl i ∧ v = Value.int i t) ∨ (∃ x t, k = Sum.inr x ∧ v = Value.str x t)
  | .inl i, v, h => by
    obtain ⟨t, e⟩ := Value.isInt_shape (k := i) (v := v) h
    exact .inl ⟨i, t, rfl, e⟩
  | .inr x, v, h => by
    obtain ⟨t, e⟩ := Value.isStrOf_shape (x := x) (v := v) h
    exact .inr ⟨x, t, rfl, e⟩
theorem key_ll (a b : Int) : decide ((Sum.inl a : Key) = Sum.inl b) = (a == b) := by
  by_cases e : a = b
  · subst e; simp
  · have h : ¬ (Sum.inl a : Key) = Sum.inl b := fun q => e (Sum.inl.inj q)
    rw [decide_eq_false h]
    exact (beq_eq_false_iff_ne.mpr e).symm
theorem key_rr (a b : Str) : decide ((Sum.inr a : Key) = Sum.inr b) = decide (a = b) := by
  by_cases e : a = b
  · subst e; simp
  · have h : ¬ (Sum.inr a : Key) = Sum.inr b := fun q => e (Sum.inr.inj q)
    rw [decide_eq_false h, decide_eq_false e]
theorem key_lr (a : Int) (b : Str) : decide ((Sum.inl a : Key) = Sum.inr b) = false := decide_eq_false (fun q => nomatch q)
theorem key_rl (a : Str) (b : Int) : decide ((Sum.inr a : Key) = Sum.inl b) = false := decide_eq_false (fun q => nomatch q)

def mixKind (prog : Program) (w : World) : PySem.KeyKind prog w Key where
  is := keyIs
  hash := keyH w
  inj := fun v a b ha hb => by
    rcases keyIs_shape ha with ⟨i, t, rfl, rfl⟩ | ⟨x, t, rfl, rfl⟩
    · rcases keyIs_shape hb with ⟨j, u, rfl, e⟩ | ⟨y, u, rfl, e⟩
      · injection e with e1 _; rw [e1]
      · exact nomatch e
    · rcases keyIs_shape hb with ⟨j, u, rfl, e⟩ | ⟨y, u, rfl, e⟩
      · exact nomatch e
      · injection e with e1 _; rw [e1]
  byValue := fun k v h => by
    rcases keyIs_shape h with ⟨i, t, rfl, rfl⟩ | ⟨x, t, rfl, rfl⟩ <;> rfl
  pyHash := fun hv h => by
    rcases keyIs_shape hv with ⟨i, t, rfl, rfl⟩ | ⟨x, t, rfl, rfl⟩
    · exact wpAny_pyHash_int h
    · exact wpAny_pyHash_str h
  eqBool := fun hu hv h => by
    rcases keyIs_shape hu with ⟨i, t, rfl, rfl⟩ | ⟨x, t, rfl, rfl⟩
    · rcases keyIs_shape hv with ⟨j, u, rfl, rfl⟩ | ⟨y, u, rfl, rfl⟩
      · rw [key_ll] at h; exact wpAny_eqBool_int h
      · rw [key_lr] at h; exact SeqAt.EqAt.int_str i t y u _ _ _ _ h
    · rcases keyIs_shape hv with ⟨j, u, rfl, rfl⟩ | ⟨y, u, rfl, rfl⟩
      · rw [key_rl] at h; exact SeqAt.EqAt.str_int x t j u _ _ _ _ h
      · rw [key_rr] at h; exact wpAny_eqBool_str h
  «strs» := fun k x t v h => by
    rcases keyIs_shape h with ⟨i, u, rfl, e⟩ | ⟨y, u, rfl, e⟩
    · exact nomatch e
    · injection e with e1 _
      subst e1
      cases v <;> rfl

end L2

namespace L2
open PySem PySem.Spec PyProof.Rows

/-- a value, without the heap -/
inductive V where
  | non | bl (b : Bool) | int (i : Int) | str (x : Str) | byt (b : Array UInt8) | flt (b : UInt64) | ref (a : Addr) | ty (n : String)
  deriving DecidableEq

def RelV : V → Value → Prop
  | .non, u => u = Value.none
  | .bl b, u => u = Value.bool b
  | .int i, u => ∃ t, u = Value.int i t
  | .str x, u => ∃ t, u = Value.str x t
  | .byt b, u => ∃ t, u = Value.bytes b t
  | .flt b, u => ∃ t, u = Value.float b t
  | .ref a, u => u = Value.ref a
  | .ty n, u => u = Value.type n

abbrev Vals : List V → List Value → Prop := Paired RelV
theorem Vals.length {xs : List V} {us : List Value} (r : Vals xs us) : xs.length = us.length := Paired.length r
theorem Vals.get : ∀ {xs : List V} {us : List Value} {i : Nat} {x : V}, Vals xs us → xs[i]? = some x → ∃ u, us[i]? = some u ∧ RelV x u
  | _, _, _, _, .nil, e => by simp at e
  | _, _, 0, _, .cons r _, e => by simp at e; subst e; exact ⟨_, rfl, r⟩
  | _, _, i + 1, x, .cons _ t, e => by
    obtain ⟨u, h1, h2⟩ := Vals.get (i := i) (x := x) t (by simpa using e)
    exact ⟨u, by simpa using h1, h2⟩
theorem Vals.set {x : V} {u : Value} (r : RelV x u) : ∀ {xs : List V} {us : List Value} (i : Nat), Vals xs us → Vals (xs.set i x) (us.set i u)
  | _, _, _, .nil => .nil
  | _, _, 0, .cons _ t => .cons r t
  | _, _, i + 1, .cons q t => .cons q (Vals.set r i t)
theorem Vals.append : ∀ {xs ys : List V} {us ws : List Value}, Vals xs us → Vals ys ws → Vals (xs ++ ys) (us ++ ws)
  | _, _, _, _, .nil, s => s
  | _, _, _, _, .cons r t, s => .cons r (Vals.append t s)
theorem Vals.take : ∀ {xs : List V} {us : List Value} (n : Nat), Vals xs us → Vals (xs.take n) (us.take n)
  | _, _, 0, _ => .nil
  | _, _, _ + 1, .nil => .nil
  | _, _, n + 1, .cons r t => .cons r (Vals.take n t)
theorem Vals.drop : ∀ {xs : List V} {us : List Value} (n : Nat), Vals xs us → Vals (xs.drop n) (us.drop n)
  | _, _, 0, r => r
  | _, _, _ + 1, .nil => .nil
  | _, _, n + 1, .cons _ t => Vals.drop n t
def RelO : Option V → Option Value → Prop
  | some v, some u => RelV v u
  | none, none => True
  | _, _ => False
def KV {κ : Type} : List (κ × V) → List (κ × Value) → Prop := Paired fun (p : κ × V) (q : κ × Value) => p.1 = q.1 ∧ RelV p.2 q.2

/-- a key of a dict (00_mix): an int or a text -/
def kV : Key → V
  | .inl i => .int i
  | .inr x => .str x

/-- what stands at a tracked address -/
inductive HO where
  /-- a list -/
  | lst (xs : List V)
  /-- a tuple (never changes) -/
  | tup (xs : List V)
  /-- a dict whose keys are ints and texts; one whose keys are tuples of ints and texts (the empty one is both) -/
  | dK (kvs : List (Key × V)) | dT (kvs : List (List Key × V))
  /-- a set of ints: its members, its size -/
  | set (S : Int → Bool) (n : Nat)
  /-- an instance of the class at C, its dict at dx, its attributes -/
  | ins (C dx : Addr) (fs : List (Str × V))
  /-- the dict of the instance at x -/
  | own (x : Addr)
  /-- the dict of an exception -/
  | xd (fs : List (Str × V))
  /-- a bound method, f of x -/
  | met (f x : Addr)
  /-- a range object lo, lo + 1, .. below hi -/
  | rng (lo hi : Int)
  /-- a thing that is known to the object (the script; a dict while a loop walks it): read, never written while it is so -/
  | frz (o : Obj) (u : HO)
  /-- a code object's table -/
  | tbl (ps : Array Value)
  /-- any other thing, by what is true of its one object (a def of one's own: SetO a S n := HO.ext fun h => ..) -/
  | ext (φ : Heap → Prop)

abbrev Hp := Addr → Option HO
def upd (H : Hp) (a : Addr) (o : HO) : Hp := fun b => if b = a then some o else H b
theorem upd_same {H : Hp} {a : Addr} {o : HO} : upd H a o a = some o := by unfold upd; rw [if_pos rfl]
theorem upd_ne {H : Hp} {a b : Addr} {o : HO} (h : b ≠ a) : upd H a o b = H b := by unfold upd; rw [if_neg h]
/-- two objects of different content stand apart -/
theorem ne_of {H : Hp} {a b : Addr} {o u : HO} (h : H a = some o) (h' : H b = some u) (d : o ≠ u) : a ≠ b := by
  intro e; subst e; rw [h] at h'; exact d (Option.some.inj h')
theorem ne_of_none {H : Hp} {a b : Addr} {o : HO} (h : H a = some o) (h' : H b = none) : a ≠ b := by
  intro e; subst e; rw [h] at h'; cases h'

section
variable (P : Program) (w : World)
def ObjOk (H : Hp) (h : Heap) (a : Addr) : HO → Prop
  | .lst xs => xs.length ≤ sizeLine ∧ ∃ (its : List Value) (n : Nat), Vals xs its ∧ h.get? a = some { cls := .type "list", data := .seq its.toArray n }
  | .tup xs => xs.length ≤ sizeLine ∧ ∃ its : List Value, Vals xs its ∧ IsTup h a its.toArray
  | .dK kvs => kvs.length ≤ sizeLine ∧ (a == sysModules) = false ∧ ∃ vs, KV kvs vs ∧ h.DictOf (mixKind P w) a vs
  | .dT kvs => kvs.length ≤ sizeLine ∧ (a == sysModules) = false ∧ ∃ xs : List (List Key × Addr × Value),
      Paired (fun (p : List Key × V) (q : List Key × Addr × Value) => p.1 = q.1 ∧ H q.2.1 = some (.tup (p.1.map kV)) ∧ RelV p.2 q.2.2) kvs xs ∧
      ∃ o es ep, h.get? a = some o ∧ o.ExactDict ∧ o.data = .dict es ep ∧ es.toList = xs.map (entryOfKey (tupleKind (mixKind P w))) ∧ (xs.map (·.1)).Nodup
  | .set S n => h.SetOf (intKind P w) a S n
  | .ins C dx fs => H dx = some (.own a) ∧ fs.length ≤ 1000 ∧ dx ≠ a ∧ h.get? a = some (PySem.W.instObj C dx) ∧
      ∃ mA, h.Ns1 dx mA ∧ (∀ f, RelO (fs.lookup f) (mA f)) ∧ PySem.Within mA (fs.map (·.1))
  | .own _ => ∃ o, h.get? a = some o
  | .xd fs => ∃ mA, h.Ns1 a mA ∧ ∀ f, RelO (fs.lookup f) (mA f)
  | .rng lo hi => ∃ t u v, h.get? a = some { cls := .type "range", data := .fields #[.int lo t, .int hi u, .int 1 v] }
  | .frz o u => h.get? a = some o ∧ ObjOk H h a u
  | .tbl ps => h.get? a = some { cls := .none, data := .fields ps }
  | .met f x => h.get? a = some (PySem.W.methodObj (.ref f) (.ref x))
  | .ext φ => φ h ∧ (∃ o, h.get? a = some o) ∧ ∀ h1 h2 : Heap, φ h1 → (∀ o, h1.get? a = some o → h2.get? a = some o) → φ h2
/-- the abstract heap is held -/
def HOk (H : Hp) (h : Heap) : Prop := ∀ a o, H a = some o → ObjOk P w H h a o
end

section
variable {P : Program} {w : World} {H H' : Hp} {h h' : Heap} {a : Addr} {o : HO}
theorem ObjOk.lt (x : ObjOk P w H h a o) : a < h.objs.size := by
  cases o with
  | lst xs => obtain ⟨_, _, _, _, e⟩ := x; exact Heap.lt_size e
  | tup xs => obtain ⟨_, _, _, p⟩ := x; exact p.lt
  | dK kvs => obtain ⟨_, _, _, _, o, _, _, e, _⟩ := x; exact Heap.lt_size e
  | dT kvs => obtain ⟨_, _, _, _, o, _, _, e, _⟩ := x; exact Heap.lt_size e
  | set S n => obtain ⟨o, _, _, _, e, _⟩ := x; exact Heap.lt_size e
  | ins C dx fs => obtain ⟨_, _, _, e, _⟩ := x; exact Heap.lt_size e
  | own y => obtain ⟨_, e⟩ := x; exact Heap.lt_size e
  | xd fs => obtain ⟨_, ⟨_, _, _, e, _⟩, _⟩ := x; exact Heap.lt_size e
  | rng lo hi => obtain ⟨_, _, _, e⟩ := x; exact Heap.lt_size e
  | frz ob u => obtain ⟨e, _⟩ := x; exact Heap.lt_size e
  | tbl ps => exact Heap.lt_size (show h.get? a = some _ from x)
  | met f y => exact Heap.lt_size (show h.get? a = some _ from x)
  | ext φ => obtain ⟨_, ⟨_, e⟩, _⟩ := x; exact Heap.lt_size e
theorem Paired.mapP {α β : Type} {F G : α → β → Prop} : ∀ {l₁ : List α} {l₂ : List β}, Paired F l₁ l₂ → (∀ a b, F a b → G a b) → Paired G l₁ l₂
  | _, _, .nil, _ => .nil
  | _, _, .cons r t, f => .cons (f _ _ r) (Paired.mapP t f)
/-- what an object's description leans on: its own object, its own dict, the tuples -/
theorem ObjOk.stay (x : ObjOk P w H h a o) (k : ∀ b u, (b = a ∨ H b = some (.own a)) → h.get? b = some u → h'.get? b = some u)
    (ho : ∀ b, H b = some (.own a) → H' b = some (.own a)) (ht : ∀ b xs, H b = some (.tup xs) → H' b = some (.tup xs)) : ObjOk P w H' h' a o := by
  induction o with
  | lst xs => obtain ⟨z, its, n, r, e⟩ := x; exact ⟨z, its, n, r, k _ _ (.inl rfl) e⟩
  | tup xs => obtain ⟨z, its, r, ob, e, c⟩ := x; exact ⟨z, its, r, ob, k _ _ (.inl rfl) e, c⟩
  | dK kvs => obtain ⟨z, y, vs, r, ob, es, ep, e, c⟩ := x; exact ⟨z, y, vs, r, ob, es, ep, k _ _ (.inl rfl) e, c⟩
  | dT kvs =>
    obtain ⟨z, y, xs, r, ob, es, ep, e, c⟩ := x
    exact ⟨z, y, xs, Paired.mapP r fun p q z => ⟨z.1, ht _ _ z.2.1, z.2.2⟩, ob, es, ep, k _ _ (.inl rfl) e, c⟩
  | set S n => obtain ⟨ob, es, ep, t, e, c⟩ := x; exact ⟨ob, es, ep, t, k _ _ (.inl rfl) e, c⟩
  | ins C dx fs =>
    obtain ⟨d, z, ne, e, mA, ⟨od, es, ep, e2, c⟩, r⟩ := x
    exact ⟨ho _ d, z, ne, k _ _ (.inl rfl) e, mA, ⟨od, es, ep, k _ _ (.inr d) e2, c⟩, r⟩
  | own y => obtain ⟨ob, e⟩ := x; exact ⟨ob, k _ _ (.inl rfl) e⟩
  | xd fs => obtain ⟨mA, ⟨od, es, ep, e, c⟩, r⟩ := x; exact ⟨mA, ⟨od, es, ep, k _ _ (.inl rfl) e, c⟩, r⟩
  | rng lo hi => obtain ⟨t, u, v, e⟩ := x; exact ⟨t, u, v, k _ _ (.inl rfl) e⟩
  | frz ob u ih => obtain ⟨e, q⟩ := x; exact ⟨k _ _ (.inl rfl) e, ih q⟩
  | tbl ps =>
    have e : h.get? a = some { cls := .none, data := .fields ps } := x
    show h'.get? a = some { cls := .none, data := .fields ps }
    exact k a _ (.inl rfl) e
  | met f y =>
    have e : h.get? a = some (PySem.W.methodObj (.ref f) (.ref y)) := x
    show h'.get? a = some (PySem.W.methodObj (.ref f) (.ref y))
    exact k a _ (.inl rfl) e
  | ext φ => obtain ⟨p, ⟨o, e⟩, st⟩ := x; exact ⟨st _ _ p fun o q => k _ _ (.inl rfl) q, ⟨o, k _ _ (.inl rfl) e⟩, st⟩
theorem HOk.lt (x : HOk P w H h) (e : H a = some o) : a < h.objs.size := (x a o e).lt
theorem HOk.fresh (x : HOk P w H h) (e : h.objs.size ≤ a) : H a = none := by
  cases q : H a with
  | none => rfl
  | some u => exact absurd (Nat.lt_of_lt_of_le (x.lt q) e) (Nat.lt_irrefl _)
/-- every object of the heap is kept -/
theorem HOk.kept (x : HOk P w H h) (k : ∀ b u, h.get? b = some u → h'.get? b = some u) : HOk P w H h' := fun a o e =>
  (x a o e).stay (fun b u _ q => k b u q) (fun _ q => q) fun _ _ q => q
/-- a new object is laid and tracked -/
theorem HOk.laid (x : HOk P w H h) (k : ∀ b u, h.get? b = some u → h'.get? b = some u) (hp : h.objs.size ≤ a) (new : ObjOk P w (upd H a o) h' a o) : HOk P w (upd H a o) h' := fun b u e => by
  have hn := x.fresh hp
  by_cases hb : b = a
  · subst hb; rw [upd_same] at e; cases e; exact new
  · rw [upd_ne hb] at e
    exact (x b u e).stay (fun c v _ q => k c v q) (fun c q => by rw [upd_ne (ne_of_none q hn)]; exact q) fun c xs q => by rw [upd_ne (ne_of_none q hn)]; exact q
end

/-- what may be read as u: it is u, or a known u -/
def Rd (H : Hp) (a : Addr) (u : HO) : Prop := H a = some u ∨ ∃ o, H a = some (.frz o u)
theorem Rd.ok {P : Program} {w : World} {H : Hp} {h : Heap} {a : Addr} {u : HO} (r : Rd H a u) (x : HOk P w H h) : ObjOk P w H h a u := by
  rcases r with r | ⟨o, r⟩
  · exact x a u r
  · obtain ⟨_, q⟩ := x a _ r
    exact q
/-- what may be written -/
def Mut : Option HO → Prop
  | some (.lst _) => True
  | some (.dK _) => True
  | some (.dT _) => True
  | some (.set _ _) => True
  | some (.ins _ _ _) => True
  | some (.ext _) => True
  | _ => False
section
variable {P : Program} {w : World} {H : Hp} {h h' : Heap} {x e : Addr} {o' : HO}
/-- the object at e is changed: x itself, or the dict of the instance x -/
theorem HOk.write (ok : HOk P w H h) (mu : Mut (H x)) (he : e = x ∨ H e = some (.own x)) (k : ∀ b u, b ≠ e → h.get? b = some u → h'.get? b = some u) (heo : ∃ u, h'.get? e = some u)
    (new : ObjOk P w (upd H x o') h' x o') : HOk P w (upd H x o') h' := fun b u q => by
  have nown : ∀ c y, H c = some (.own y) → c ≠ x := fun c y r z => by subst z; rw [r] at mu; exact mu
  have ntup : ∀ c xs, H c = some (.tup xs) → c ≠ x := fun c xs r z => by subst z; rw [r] at mu; exact mu
  by_cases hb : b = x
  · subst hb; rw [upd_same] at q; cases q; exact new
  · rw [upd_ne hb] at q
    by_cases hbe : b = e
    · have q' : H b = some (.own x) := by
        rcases he with z | z
        · exact absurd (hbe.trans z) hb
        · rw [hbe]; exact z
      rw [q] at q'; cases q'
      obtain ⟨v, hv⟩ := heo
      exact ⟨v, by rw [hbe]; exact hv⟩
    · refine (ok b u q).stay (fun c v hc r => k c v ?_ r) (fun c r => by rw [upd_ne (nown c b r)]; exact r) fun c xs r => by rw [upd_ne (ntup c xs r)]; exact r
      rcases hc with rfl | hc
      · exact hbe
      · rintro rfl
        rcases he with z | z
        · exact nown c b hc z
        · rw [hc] at z; cases z; exact hb rfl
end

/-! ### kept unless tracked; of the frames at fs (the callers') the slots may change (an exception that passes writes there); of the records at ex (iterators) nothing is said -/
structure Un (fs ex : List Addr) (H H' : Hp) (h h' : Heap) : Prop where
  keep : ∀ b o, h.get? b = some o → H b = none → b ∉ fs → b ∉ ex → h'.get? b = some o
  slot : ∀ b o, h.get? b = some o → H b = none → b ∈ fs → b ∉ ex → ∃ sl, h'.get? b = some { o with slots := sl }
  free : ∀ b o, h.get? b = some o → H b = none → b ∉ ex → H' b = none
  there : ∀ b o, h.get? b = some o → b ∉ ex → ∃ o', h'.get? b = some o'
  tups : ∀ b xs, H b = some (.tup xs) → H' b = some (.tup xs)
  frzs : ∀ b o u, H b = some (.frz o u) → H' b = some (.frz o u)
  tbls : ∀ b ps, H b = some (.tbl ps) → ∃ more, H' b = some (.tbl (ps ++ more))
section
variable {fs fs' ex ex' : List Addr} {H H1 H2 : Hp} {h h1 h2 h' : Heap} {a x e : Addr} {o : HO}
theorem Un.any (u : Un fs ex H H1 h h1) {b : Addr} {ob : Obj} (q : h.get? b = some ob) (n : H b = none) (hx : b ∉ ex) : ∃ sl, h1.get? b = some { ob with slots := sl } := by
  by_cases hb : b ∈ fs
  · exact u.slot b ob q n hb hx
  · exact ⟨ob.slots, u.keep b ob q n hb hx⟩
theorem Un.kept (k : ∀ b u, h.get? b = some u → h'.get? b = some u) : Un fs ex H H h h' :=
  ⟨fun b ob q _ _ _ => k b ob q, fun b ob q _ _ _ => ⟨ob.slots, k b ob q⟩, fun _ _ _ n _ => n, fun b ob q _ => ⟨ob, k b ob q⟩, fun _ _ q => q, fun _ _ _ q => q, fun _ ps q => ⟨#[], by rw [q]; simp⟩⟩
theorem Un.refl : Un fs ex H H h h := Un.kept fun _ _ q => q
theorem Un.laid (k : ∀ b u, h.get? b = some u → h'.get? b = some u) (hp : h.objs.size ≤ a) (hn : H a = none) : Un fs ex H (upd H a o) h h' where
  keep := fun b u q _ _ _ => k b u q
  slot := fun b u q _ _ _ => ⟨u.slots, k b u q⟩
  free := fun b u q n _ => by rw [upd_ne (Nat.ne_of_lt (Nat.lt_of_lt_of_le (Heap.lt_size q) hp))]; exact n
  there := fun b u q _ => ⟨u, k b u q⟩
  tups := fun b xs q => by rw [upd_ne (ne_of_none q hn)]; exact q
  frzs := fun b u xs q => by rw [upd_ne (ne_of_none q hn)]; exact q
  tbls := fun b ps q => ⟨#[], by rw [upd_ne (ne_of_none q hn), q]; simp⟩
theorem Un.write (mu : Mut (H x)) (he : e = x ∨ H e = some (.own x)) (k : ∀ b u, b ≠ e → h.get? b = some u → h'.get? b = some u) (heo : ∃ u, h'.get? e = some u) : Un fs ex H (upd H x o) h h' := by
  have hx : ∀ b, H b = none → b ≠ x := fun b n z => by subst z; rw [n] at mu; exact mu
  have hb : ∀ b, H b = none → b ≠ e := fun b n z => by
    subst z
    rcases he with r | r
    · exact hx b n r
    · rw [n] at r; cases r
  have hm : ∀ b u, H b = some u → ¬ Mut (some u) → b ≠ x := fun b u q nm z => by subst z; rw [q] at mu; exact nm mu
  refine ⟨fun b u q n _ _ => k b u (hb b n) q, fun b u q n _ _ => ⟨u.slots, k b u (hb b n) q⟩, fun b u q n _ => by rw [upd_ne (hx b n)]; exact n, fun b u q _ => ?_,
    fun b xs q => by rw [upd_ne (hm b _ q fun z => z)]; exact q, fun b u xs q => by rw [upd_ne (hm b _ q fun z => z)]; exact q, fun b ps q => ⟨#[], by rw [upd_ne (hm b _ q fun z => z), q]; simp⟩⟩
  by_cases hbe : b = e
  · subst hbe; exact heo
  · exact ⟨u, k b u hbe q⟩
end

/-! ### the heap without what is tracked -/
def trk (h : Heap) (H : Hp) : List Addr := (List.range h.objs.size).filter fun a => (H a).isSome
def hidT (h : Heap) (H : Hp) : Heap := PySem.W.hideAll h (trk h H)
theorem hidT_size (h : Heap) (H : Hp) : (hidT h H).objs.size = h.objs.size := PySem.W.hideAll_size _ _
theorem hidT_get {h : Heap} {H : Hp} {b : Addr} {o : Obj} (e : h.get? b = some o) (n : H b = none) : (hidT h H).get? b = some o :=
  PySem.W.hideAll_get _ e fun hm => by
    have q : (H b).isSome = true := (List.mem_filter.mp hm).2
    rw [n] at q; simp at q
theorem of_hidT {h : Heap} {H : Hp} {b : Addr} {o : Obj} (e : (hidT h H).get? b = some o) : h.get? b = some o ∧ H b = none := by
  have e' : h.get? b = some o := PySem.W.of_hideAll (trk h H) e
  refine ⟨e', ?_⟩
  cases q : H b with
  | none => rfl
  | some x =>
    have hm : b ∈ trk h H := List.mem_filter.mpr ⟨List.mem_range.mpr (Heap.lt_size e'), by simp [q]⟩
    have z : (hidT h H).get? b = none := PySem.W.hideAll_none (trk h H) hm
    rw [z] at e; cases e

/-! ### OpenK's ledger, filled with every new object but one -/
def allNews (g h : Heap) (L : Addr) : List (Addr × Obj) := (List.range h.objs.size).filterMap fun a => if a = L ∨ (g.get? a).isSome = true then none else (h.get? a).map fun o => (a, o)
def rest (g h : Heap) (L d : Addr) : List (Addr × Obj) := (allNews g h L).filter fun p => decide (p.1 ≠ d)
end L2

namespace L2
open PySem PySem.Spec PyProof.Rows

/-- the module's facts, over the base: the heap at the law's entry without what is tracked there -/
structure Mod (K : PySem.W.Frag) (mg : Str → Option Value) (base : Heap) : Prop where
  kin : K.In base
  glob : base.Ns mainGlobals mg
  blt : ∃ mb, base.Ns builtinsNs mb ∧ ∀ x : Str, x ≠ "__name__" → mb x = bootBuiltins x
  nolimit : base.NoLimit

/-- the context: a def's body (or a comprehension's block) running. base: fixed through the whole law; s₀, H₀: the entry; outer: the frames whose slots others may change (a def's callers); stack: all frames that run;
   ex: iterators that were made ahead of the entry and are walked here (a comprehension's); fn: the names whose cells were made at the entry (a def: all; a comprehension's block: its own); calm: not within an except suite; pn: pins that every state bears; xe: what is wanted of an exception that leaves the code -/
structure Cx where
  prog : Program
  w : World
  K : PySem.W.Frag
  mg : Str → Option Value
  base : Heap
  A : Around
  N : List Str
  s₀ : Shared
  H₀ : Hp
  env : Env
  outer : List Env
  stack : List Env
  ex : List Addr
  fn : Str → Bool
  calm : Bool
  pn : List (Addr × Obj)
  xe : Value → Shared → Prop
/-- the callers' frames -/
def frs (l : List Env) : List Addr := l.filterMap (·.frame)
abbrev Cx.fs (X : Cx) : List Addr := frs X.outer

def Vis (sc : Scope) (x : Str) : Prop := sc.names.lookup x = some .local ∨ sc.names.lookup x = some .cell ∨ sc.names.lookup x = some .free
def Loc (sc : Scope) (x : Str) : Prop := sc.names.lookup x = some .local ∨ sc.names.lookup x = some .cell
def Look (env : Env) (h : Heap) (m : Str → Option Value) (x : Str) (u : Value) : Prop :=
  (env.kindOf x = some .local ∧ m x = some u) ∨ ((env.kindOf x = some .cell ∨ env.kindOf x = some .free) ∧ ∃ c, env.cells.lookup x = some c ∧ h.IsCell c (some u))

structure Cx.Ok (X : Cx) : Prop where
  mod : Mod X.K X.mg X.base
  kind : X.env.scope.kind = .function
  glob : X.env.globals = mainGlobals
  blt : X.env.builtins = builtinsNs
  above : X.s₀.heap.objs.size ≤ X.env.locals
  inj : ∀ x y c, X.env.cells.lookup x = some c → X.env.cells.lookup y = some c → x = y
  has : ∀ x, (X.env.kindOf x = some .cell ∨ X.env.kindOf x = some .free) → ∃ c, X.env.cells.lookup x = some c
  cab : ∀ x c, X.fn x = true → X.env.cells.lookup x = some c → X.s₀.heap.objs.size ≤ c
  hd : X.calm = true → X.A.handled = none
  frames : X.A.frames = some X.stack
  stk : X.stack = X.outer ∨ (X.stack = X.env :: X.outer ∧ X.env.frame = some X.env.locals)
  exf : ∀ b ∈ X.ex, b ≠ X.env.locals ∧ ∀ x c, X.env.cells.lookup x = some c → c ≠ b
  bs : ∀ b o, X.base.get? b = some o → X.s₀.heap.get? b = some o ∧ X.H₀ b = none
  bsz : X.base.objs.size ≤ X.s₀.heap.objs.size
  noex : ∀ b o, X.base.get? b = some o → b ∉ X.ex
  exfs : ∀ b ∈ X.ex, b ∉ X.fs
  funs : X.s₀.heap.FunFrames X.base X.outer
  frf : ∀ b ∈ X.fs, X.H₀ b = none

structure Inv (X : Cx) (pins : List (Addr × Obj)) (σ : List (Option V)) (H : Hp) (s : Shared) : Prop where
  ok : X.Ok
  os : s.os = X.s₀.os
  bare : AllBare s.gens
  base : Un X.fs X.ex X.H₀ H X.s₀.heap s.heap
  loc : ∃ m, s.heap.Ns X.env.locals m ∧ ∀ (i : Nat) (x : Str) (v : V), X.N[i]? = some x → σ[i]? = some (some v) → Vis X.env.scope x → ∃ u, RelV v u ∧ Look X.env s.heap m x u
  cell : ∀ x c, X.env.cells.lookup x = some c → ∃ v, s.heap.IsCell c v
  free : H X.env.locals = none
  freeC : ∀ x c, X.env.cells.lookup x = some c → H c = none
  pin : ∀ p ∈ X.pn ++ pins, s.heap.get? p.1 = some p.2 ∧ H p.1 = none ∧ p.1 ≠ X.env.locals ∧ p.1 ∉ X.fs ∧ ∀ v, p.2.data ≠ .cell v
  hok : HOk X.prog X.w H s.heap
  len : σ.length = X.N.length

section
variable {X : Cx} {pins : List (Addr × Obj)} {σ : List (Option V)} {H H' : Hp} {s : Shared} {h' : Heap}

theorem Cx.Ok.nofr (ok : X.Ok) {b : Addr} {o : Obj} (e : X.base.get? b = some o) : b ∉ X.fs := fun hb => by
  have := (ok.funs.mem hb).1
  rw [e] at this; cases this
theorem Inv.bs (I : Inv X pins σ H s) : ∀ b o, X.base.get? b = some o → s.heap.get? b = some o ∧ H b = none := fun b o e =>
  ⟨I.base.keep b o (I.ok.bs b o e).1 (I.ok.bs b o e).2 (I.ok.nofr e) (I.ok.noex b o e), I.base.free b o (I.ok.bs b o e).1 (I.ok.bs b o e).2 (I.ok.noex b o e)⟩
theorem Inv.bk (I : Inv X pins σ H s) : ∀ b o, X.base.get? b = some o → s.heap.get? b = some o := fun b o e => (I.bs b o e).1
theorem Inv.mod (I : Inv X pins σ H s) : Mod X.K X.mg X.base := I.ok.mod
theorem Inv.kIn (I : Inv X pins σ H s) : X.K.In s.heap := I.ok.mod.kin.keeps I.bk
/-- the frame over the base: for OpenK's rules (K.In X.base is I.mod.kin) -/
theorem Inv.fr (I : Inv X pins σ H s) : ∃ m, Fr X.base X.env.locals s.heap m :=
  let ⟨m, hn, _⟩ := I.loc
  ⟨m, hn, I.bk, Nat.le_trans I.ok.bsz I.ok.above⟩
theorem Inv.lt (I : Inv X pins σ H s) : X.env.locals < s.heap.objs.size := let ⟨_, hn, _⟩ := I.loc; hn.lt
theorem Inv.sz (I : Inv X pins σ H s) : X.s₀.heap.objs.size ≤ s.heap.objs.size := Nat.le_trans I.ok.above (Nat.le_of_lt I.lt)
theorem Inv.nofs (I : Inv X pins σ H s) {a : Addr} (h : s.heap.objs.size ≤ a) : a ∉ X.fs := fun hb => by
  obtain ⟨_, o, ho, _⟩ := I.ok.funs.mem hb
  exact absurd (Nat.lt_of_lt_of_le (Heap.lt_size ho) (Nat.le_trans I.sz h)) (Nat.lt_irrefl _)
theorem Inv.cne (I : Inv X pins σ H s) : ∀ x c, X.env.cells.lookup x = some c → c ≠ X.env.locals := fun x c e z => by
  obtain ⟨v, o, ho, hd⟩ := I.cell x c e
  obtain ⟨m, ⟨o', es, ep, ho', hd', _⟩, _⟩ := I.loc
  rw [z, ho'] at ho; cases ho; rw [hd'] at hd; cases hd
theorem Inv.funs (I : Inv X pins σ H s) : s.heap.FunFrames X.base X.outer := by
  have all : ∀ (l : List Env), (∀ b ∈ frs l, b ∈ X.fs) → X.s₀.heap.FunFrames X.base l → s.heap.FunFrames X.base l := by
    intro l
    induction l with
    | nil => intro _ _; trivial
    | cons env r ih =>
      intro hs hl
      obtain ⟨hk, ⟨L, o, hf, hn, ho, hd⟩, hr⟩ := hl
      have hL : L ∈ X.fs := hs L (by unfold frs; rw [List.filterMap_cons, hf]; exact List.mem_cons_self)
      obtain ⟨sl, e⟩ := I.base.slot L o ho (I.ok.frf L hL) hL fun z => I.ok.exfs L z hL
      exact ⟨hk, ⟨L, _, hf, hn, e, hd⟩, ih (fun b hb => hs b (by unfold frs; rw [List.filterMap_cons, hf]; exact List.mem_cons_of_mem _ hb)) hr⟩
  exact all X.outer (fun _ hb => hb) I.ok.funs

/-- the frames that run, for a call -/
theorem Inv.stack (I : Inv X pins σ H s) : s.heap.FunFrames X.base X.stack := by
  rcases I.ok.stk with e | ⟨e, hf⟩
  · rw [e]; exact I.funs
  · rw [e]
    obtain ⟨m, hn, _⟩ := I.loc
    refine .cons (by rw [I.ok.kind]; decide) hf hn ?_ I.funs
    exact Heap.get?_none_of_le (Nat.le_trans I.ok.bsz I.ok.above)
theorem Inv.stkSub (I : Inv X pins σ H s) : ∀ b ∈ frs X.stack, b ∈ X.env.locals :: X.fs := fun b hb => by
  rcases I.ok.stk with e | ⟨e, hf⟩
  · rw [e] at hb; exact List.mem_cons_of_mem _ hb
  · rw [e] at hb
    unfold frs at hb
    rw [List.filterMap_cons, hf] at hb
    exact hb
theorem Inv.stkFree (I : Inv X pins σ H s) : ∀ b ∈ frs X.stack, H b = none := fun b hb => by
  rcases List.mem_cons.mp (I.stkSub b hb) with e | hb
  · rw [e]; exact I.free
  · obtain ⟨_, o, ho, _⟩ := I.ok.funs.mem hb
    exact I.base.free b o ho (I.ok.frf b hb) fun z => I.ok.exfs b z hb

/-- THE STEP: the untracked objects but the frame and the records at ch are kept (the callers' frames up to slots), the frame's map is kept, the new abstract heap is held -/
theorem Inv.step {g' : Array GenState} {t' : Nat} {d' : Drawn} {ch : List Addr} (I : Inv X pins σ H s)
    (hch : ∀ b ∈ ch, (b ∈ X.ex ∨ X.s₀.heap.objs.size ≤ b) ∧ b ≠ X.env.locals ∧ (∀ x c, X.env.cells.lookup x = some c → c ≠ b) ∧ ∀ p ∈ X.pn ++ pins, p.1 ≠ b)
    (keep : ∀ b o, b ≠ X.env.locals → b ∉ X.fs → b ∉ ch → s.heap.get? b = some o → H b = none → h'.get? b = some o)
    (slot : ∀ b o, b ≠ X.env.locals → b ∈ X.fs → b ∉ ch → s.heap.get? b = some o → H b = none → ∃ sl, h'.get? b = some { o with slots := sl }) (free : ∀ b o, b ∉ ch → s.heap.get? b = some o → H b = none → H' b = none)
    (there : ∀ b o, b ∉ ch → s.heap.get? b = some o → ∃ o', h'.get? b = some o')
    (tups : ∀ b xs, H b = some (.tup xs) → H' b = some (.tup xs)) (frzs : ∀ b o u, H b = some (.frz o u) → H' b = some (.frz o u)) (tbls : ∀ b ps, H b = some (.tbl ps) → ∃ more, H' b = some (.tbl (ps ++ more)))
    (ns : ∀ m, s.heap.Ns X.env.locals m → h'.Ns X.env.locals m) (hok : HOk X.prog X.w H' h') (hg : AllBare g') :
    Inv X pins σ H' { s with heap := h', gens := g', drawn := d', toks := t' } := by
  have neL : ∀ b o, X.s₀.heap.get? b = some o → b ≠ X.env.locals := fun b o e => Nat.ne_of_lt (Nat.lt_of_lt_of_le (Heap.lt_size e) I.ok.above)
  have neC : ∀ b o, X.s₀.heap.get? b = some o → b ∉ X.ex → b ∉ ch := fun b o e hx hb => by
    rcases (hch b hb).1 with z | z
    · exact hx z
    · exact absurd (Nat.lt_of_lt_of_le (Heap.lt_size e) z) (Nat.lt_irrefl _)
  have cellK : ∀ x c, X.env.cells.lookup x = some c → ∀ v, s.heap.IsCell c v → h'.IsCell c v := fun x c e v ⟨o, ho, hd⟩ => by
    have nch : c ∉ ch := fun z => (hch c z).2.2.1 x c e rfl
    by_cases hc : c ∈ X.fs
    · obtain ⟨sl, q⟩ := slot c o (I.cne x c e) hc nch ho (I.freeC x c e)
      exact ⟨_, q, hd⟩
    · exact ⟨o, keep c o (I.cne x c e) hc nch ho (I.freeC x c e), hd⟩
  refine ⟨I.ok, I.os, hg, ⟨fun b o e n hb hx => ?_, fun b o e n hb hx => ?_, fun b o e n hx => ?_, fun b o e hx => ?_, fun b xs e => tups b xs (I.base.tups b xs e), fun b o xs e => frzs b o xs (I.base.frzs b o xs e), fun b ps e => ?_⟩, ?_, fun x c e => ?_, ?_, fun x c e => ?_, fun p hp => ?_, hok, I.len⟩
  · exact keep b o (neL b o e) hb (neC b o e hx) (I.base.keep b o e n hb hx) (I.base.free b o e n hx)
  · obtain ⟨sl, e1⟩ := I.base.slot b o e n hb hx
    obtain ⟨sl', e2⟩ := slot b _ (neL b o e) hb (neC b o e hx) e1 (I.base.free b o e n hx)
    exact ⟨sl', e2⟩
  · obtain ⟨o', e1⟩ := I.base.there b o e hx
    exact free b o' (neC b o e hx) e1 (I.base.free b o e n hx)
  · obtain ⟨o', e1⟩ := I.base.there b o e hx
    exact there b o' (neC b o e hx) e1
  · obtain ⟨m1, e1⟩ := I.base.tbls b ps e
    obtain ⟨m2, e2⟩ := tbls b _ e1
    exact ⟨m1 ++ m2, by rw [e2, Array.append_assoc]⟩
  · obtain ⟨m, hn, hl⟩ := I.loc
    refine ⟨m, ns m hn, fun i x v e1 e2 e3 => ?_⟩
    obtain ⟨u, r, l⟩ := hl i x v e1 e2 e3
    refine ⟨u, r, ?_⟩
    rcases l with l | ⟨k, c, e, z⟩
    · exact .inl l
    · exact .inr ⟨k, c, e, cellK x c e _ z⟩
  · obtain ⟨v, z⟩ := I.cell x c e
    exact ⟨v, cellK x c e v z⟩
  · obtain ⟨m, ⟨o, _, _, ho, _⟩, _⟩ := I.loc
    exact free _ o (fun z => (hch _ z).2.1 rfl) ho I.free
  · obtain ⟨v, o, ho, hd⟩ := I.cell x c e
    exact free c o (fun z => (hch c z).2.2.1 x c e rfl) ho (I.freeC x c e)
  · obtain ⟨e, n, ne, nf, d⟩ := I.pin p hp
    have nch : p.1 ∉ ch := fun z => (hch p.1 z).2.2.2 p hp rfl
    exact ⟨keep p.1 p.2 ne nf nch e n, free p.1 p.2 nch e n, ne, nf, d⟩
/-- .. where the frame's own object is kept too -/
theorem Inv.un {t' : Nat} (I : Inv X pins σ H s) (u : Un X.fs [] H H' s.heap h') (hok : HOk X.prog X.w H' h') : Inv X pins σ H' { s with heap := h', toks := t' } := by
  obtain ⟨m, ⟨o, es, ep, ho, r⟩, _⟩ := id I.loc
  obtain ⟨sl, hL⟩ := u.any ho I.free (by simp)
  exact I.step (g' := s.gens) (d' := s.drawn) (ch := []) (fun _ z => nomatch z) (fun b o _ hb _ e n => u.keep b o e n hb (by simp)) (fun b o _ hb _ e n => u.slot b o e n hb (by simp)) (fun b o _ e n => u.free b o e n (by simp)) (fun b o _ e => u.there b o e (by simp)) u.tups u.frzs u.tbls (fun m' hm => by
    obtain ⟨o', es', ep', ho', r'⟩ := hm
    rw [ho] at ho'; cases ho'
    exact ⟨_, es', ep', hL, r'⟩) hok I.bare
/-- behind a call (or a comprehension's block): the slots of this frame may have changed too, the records at ch may have turned -/
theorem Inv.call {g' : Array GenState} {t' : Nat} {d' : Drawn} {ch : List Addr} (I : Inv X pins σ H s) (u : Un (frs X.stack) ch H H' s.heap h') (hok : HOk X.prog X.w H' h') (hg : AllBare g')
    (hch : ∀ b ∈ ch, (b ∈ X.ex ∨ X.s₀.heap.objs.size ≤ b) ∧ b ≠ X.env.locals ∧ (∀ x c, X.env.cells.lookup x = some c → c ≠ b) ∧ ∀ p ∈ X.pn ++ pins, p.1 ≠ b) :
    Inv X pins σ H' { s with heap := h', gens := g', drawn := d', toks := t' } := by
  obtain ⟨m, ⟨o, es, ep, ho, r⟩, _⟩ := id I.loc
  obtain ⟨sl, hL⟩ := u.any ho I.free fun z => (hch _ z).2.1 rfl
  exact I.step (ch := ch) hch (fun b o hL hb hc e n => u.keep b o e n (fun z => (List.mem_cons.mp (I.stkSub b z)).elim hL hb) hc) (fun b o _ _ hc e n => u.any e n hc) (fun b o hc e n => u.free b o e n hc) (fun b o hc e => u.there b o e hc) u.tups u.frzs u.tbls (fun m' hm => by
    obtain ⟨o', es', ep', ho', r'⟩ := hm
    rw [ho] at ho'; cases ho'
    exact ⟨_, es', ep', hL, r'⟩) hok hg
/-- an untracked record of ours (an iterator) has turned -/
theorem Inv.turned {t' : Nat} {it : Addr} (I : Inv X pins σ H s) (k : ∀ b o, b ≠ it → s.heap.get? b = some o → h'.get? b = some o) (hn : H it = none) (hL : it ≠ X.env.locals)
    (h1 : it ∈ X.ex ∨ X.s₀.heap.objs.size ≤ it) (h2 : ∀ x c, X.env.cells.lookup x = some c → c ≠ it) (h3 : ∀ p ∈ X.pn ++ pins, p.1 ≠ it) : Inv X pins σ H { s with heap := h', toks := t' } := by
  have nit : ∀ b u, H b = some u → b ≠ it := fun b u e z => by rw [z, hn] at e; cases e
  refine I.step (g' := s.gens) (d' := s.drawn) (ch := [it]) (fun b hb => ?_) (fun b o _ _ hc e _ => k b o (fun z => hc (by simp [z])) e) (fun b o _ _ hc e _ => ⟨o.slots, k b o (fun z => hc (by simp [z])) e⟩) (fun _ _ _ _ n => n)
    (fun b o hc e => ⟨o, k b o (fun z => hc (by simp [z])) e⟩) (fun _ _ e => e) (fun _ _ _ e => e) (fun b ps e => ⟨#[], by rw [e]; simp⟩) (fun m hm => ?_) (fun b u e => ?_) I.bare
  · have e : b = it := by simpa using hb
    subst e
    exact ⟨h1, hL, h2, h3⟩
  · obtain ⟨o, es, ep, ho, r⟩ := hm
    exact ⟨o, es, ep, k _ o (Ne.symm hL) ho, r⟩
  · refine (I.hok b u e).stay (fun c v hc q => k c v ?_ q) (fun _ q => q) fun _ _ q => q
    rcases hc with z | z
    · rw [z]; exact nit b u e
    · exact nit c _ z
theorem Inv.tok (I : Inv X pins σ H s) (t : Nat) : Inv X pins σ H { s with toks := t } := I.un (h' := s.heap) (t' := t) Un.refl I.hok
/-- all objects kept -/
theorem Inv.kept {t' : Nat} (I : Inv X pins σ H s) (k : ∀ b u, s.heap.get? b = some u → h'.get? b = some u) : Inv X pins σ H { s with heap := h', toks := t' } := I.un (Un.kept k) (I.hok.kept k)
/-- a new object laid and tracked -/
theorem Inv.laid {a : Addr} {o : HO} {t' : Nat} (I : Inv X pins σ H s) (k : ∀ b u, s.heap.get? b = some u → h'.get? b = some u) (hp : s.heap.objs.size ≤ a) (new : ObjOk X.prog X.w (upd H a o) h' a o) :
    Inv X pins σ (upd H a o) { s with heap := h', toks := t' } := I.un (Un.laid k hp (I.hok.fresh hp)) (I.hok.laid k hp new)
/-- an object written -/
theorem Inv.write {x e : Addr} {o : HO} {t' : Nat} (I : Inv X pins σ H s) (mu : Mut (H x)) (he : e = x ∨ H e = some (.own x)) (k : ∀ b u, b ≠ e → s.heap.get? b = some u → h'.get? b = some u) (heo : ∃ u, h'.get? e = some u)
    (new : ObjOk X.prog X.w (upd H x o) h' x o) : Inv X pins σ (upd H x o) { s with heap := h', toks := t' } := I.un (Un.write mu he k heo) (I.hok.write mu he k heo new)
/-- forgetting slots, pins -/
theorem Inv.weak {σ' : List (Option V)} (I : Inv X pins σ H s) (hl : σ'.length = σ.length) (w : ∀ (i : Nat) v, σ'[i]? = some (some v) → σ[i]? = some (some v)) : Inv X pins σ' H s :=
  ⟨I.ok, I.os, I.bare, I.base, let ⟨m, hn, hl'⟩ := I.loc; ⟨m, hn, fun i x v e1 e2 e3 => hl' i x v e1 (w i v e2) e3⟩, I.cell, I.free, I.freeC, I.pin, I.hok, hl.trans I.len⟩
theorem Inv.pins_of {pins' : List (Addr × Obj)} (I : Inv X pins σ H s) (h : ∀ p ∈ pins', s.heap.get? p.1 = some p.2 ∧ H p.1 = none ∧ p.1 ≠ X.env.locals ∧ p.1 ∉ X.fs ∧ ∀ v, p.2.data ≠ .cell v) : Inv X pins' σ H s :=
  ⟨I.ok, I.os, I.bare, I.base, I.loc, I.cell, I.free, I.freeC, fun p hp => (List.mem_append.mp hp).elim (fun z => I.pin p (List.mem_append_left _ z)) (h p), I.hok, I.len⟩

theorem nodup_ix {N : List Str} (hN : N.Nodup) {i j : Nat} {x : Str} (a : N[i]? = some x) (b : N[j]? = some x) : i = j := by
  obtain ⟨h1, e1⟩ := List.getElem?_eq_some_iff.mp a
  obtain ⟨h2, e2⟩ := List.getElem?_eq_some_iff.mp b
  exact (List.getElem_inj hN).mp (e1.trans e2.symm)

/-- a name is stored; what changed -/
theorem store_ok2 {M : Model} {A : Around} {E : Value → Shared → Prop} {i : Nat} {x : Str} {v : V} {u : Value} {Q : Unit → Shared → Prop} (I : Inv X pins σ H s) (hN : X.N.Nodup) (hi : X.N[i]? = some x) (hx : Loc X.env.scope x) (r : RelV v u)
    (h : ∀ s', Inv X pins (σ.set i (some v)) H s' → (∃ a, Heap.SameBut a s.heap s'.heap ∧ (a = X.env.locals ∨ X.env.cells.lookup x = some a)) → Q () s') (hf : X.fn x = true ∨ X.env.scope.names.lookup x = some .local := by first | exact .inl rfl | exact .inr rfl | assumption) : wpAny M A (storeName X.env x u) Q E s := by
  obtain ⟨m, hn, hl⟩ := id I.loc
  have hcls : (X.env.scope.kind == .class || (X.env.scope.kind == .module && X.env.locals != X.env.globals)) = false := by rw [I.ok.kind]; rfl
  have hiσ : i < σ.length := by rw [I.len]; exact (List.getElem?_eq_some_iff.mp hi).1
  have cne := I.cne
  have tracked : ∀ {a : Addr} {h' : Heap}, (∃ o, s.heap.get? a = some o ∧ H a = none) → Heap.SameBut a s.heap h' → HOk X.prog X.w H h' := fun {a h'} ha hs b ob e => by
    obtain ⟨_, _, hfree⟩ := ha
    refine (I.hok b ob e).stay (fun c w' hc q => (hs.2 c ?_).trans q) (fun _ q => q) fun _ _ q => q
    rintro rfl
    rcases hc with rfl | hc
    · rw [hfree] at e; cases e
    · rw [hfree] at hc; cases hc
  rcases hx with hk | hk
  · refine wpAny_storeName_local hk hn (fun h' hn' hs => ?_) hcls
    obtain ⟨oL, _, _, hoL, _⟩ := id hn
    refine h _ ⟨I.ok, I.os, I.bare, ⟨fun b o e n hb hx => ?_, fun b o e n hb hx => ?_, I.base.free, fun b o e hx => ?_, I.base.tups, I.base.frzs, I.base.tbls⟩, ⟨_, hn', fun j y v' e1 e2 e3 => ?_⟩, fun y c e => ?_, I.free, I.freeC, fun p hp => ?_, tracked ⟨oL, hoL, I.free⟩ hs, by simpa using I.len⟩ ⟨_, hs, .inl rfl⟩
    · exact (hs.2 b (Nat.ne_of_lt (Nat.lt_of_lt_of_le (Heap.lt_size e) I.ok.above))).trans (I.base.keep b o e n hb hx)
    · obtain ⟨sl, e1⟩ := I.base.slot b o e n hb hx
      exact ⟨sl, (hs.2 b (Nat.ne_of_lt (Nat.lt_of_lt_of_le (Heap.lt_size e) I.ok.above))).trans e1⟩
    · obtain ⟨o', e1⟩ := I.base.there b o e hx
      exact ⟨o', (hs.2 b (Nat.ne_of_lt (Nat.lt_of_lt_of_le (Heap.lt_size e) I.ok.above))).trans e1⟩
    · by_cases hj : j = i
      · subst hj
        rw [hi] at e1; cases e1
        rw [List.getElem?_set_self hiσ] at e2
        cases e2
        exact ⟨u, r, .inl ⟨hk, by simp⟩⟩
      · rw [List.getElem?_set_ne (Ne.symm hj)] at e2
        obtain ⟨u', r', q⟩ := hl j y v' e1 e2 e3
        refine ⟨u', r', ?_⟩
        rcases q with ⟨k, e⟩ | ⟨k, c, e, z⟩
        · refine .inl ⟨k, ?_⟩
          have : y ≠ x := fun e => hj (nodup_ix hN e1 (e ▸ hi))
          simp [this, e]
        · exact .inr ⟨k, c, e, z.sameBut hs (cne y c e)⟩
    · obtain ⟨w', z⟩ := I.cell y c e
      exact ⟨w', z.sameBut hs (cne y c e)⟩
    · obtain ⟨e, n, ne, nf, d⟩ := I.pin p hp
      exact ⟨(hs.2 p.1 ne).trans e, n, ne, nf, d⟩
  · have hfn : X.fn x = true := by
      rcases hf with z | z
      · exact z
      · rw [z] at hk; cases hk
    obtain ⟨c, hc⟩ := I.ok.has x (.inl hk)
    obtain ⟨w', z⟩ := I.cell x c hc
    refine wpAny_storeName_cell I.ok.kind hk hc z (fun h' hc' hs => ?_)
    obtain ⟨oc, hoc, hocd⟩ := id z
    refine h { s with heap := h' } ⟨I.ok, I.os, I.bare, ⟨fun b o e n hb hx => ?_, fun b o e n hb hx => ?_, I.base.free, fun b o e hx => ?_, I.base.tups, I.base.frzs, I.base.tbls⟩, ⟨m, hn.sameBut hs (Ne.symm (cne x c hc)), fun j y v' e1 e2 e3 => ?_⟩, fun y c' e => ?_, I.free, I.freeC, fun p hp => ?_, tracked ⟨oc, hoc, I.freeC x c hc⟩ hs, by simpa using I.len⟩ ⟨c, hs, .inr hc⟩
    · exact (hs.2 b (Nat.ne_of_lt (Nat.lt_of_lt_of_le (Heap.lt_size e) (I.ok.cab x c hfn hc)))).trans (I.base.keep b o e n hb hx)
    · obtain ⟨sl, e1⟩ := I.base.slot b o e n hb hx
      exact ⟨sl, (hs.2 b (Nat.ne_of_lt (Nat.lt_of_lt_of_le (Heap.lt_size e) (I.ok.cab x c hfn hc)))).trans e1⟩
    · obtain ⟨o', e1⟩ := I.base.there b o e hx
      exact ⟨o', (hs.2 b (Nat.ne_of_lt (Nat.lt_of_lt_of_le (Heap.lt_size e) (I.ok.cab x c hfn hc)))).trans e1⟩
    · by_cases hj : j = i
      · subst hj
        rw [hi] at e1; cases e1
        rw [List.getElem?_set_self hiσ] at e2
        cases e2
        exact ⟨u, r, .inr ⟨.inl hk, c, hc, hc'⟩⟩
      · rw [List.getElem?_set_ne (Ne.symm hj)] at e2
        obtain ⟨u', r', q⟩ := hl j y v' e1 e2 e3
        refine ⟨u', r', ?_⟩
        rcases q with q | ⟨k, c', e, z'⟩
        · exact .inl q
        · refine .inr ⟨k, c', e, z'.sameBut hs ?_⟩
          rintro rfl
          exact hj (nodup_ix hN e1 (I.ok.inj _ _ _ e hc ▸ hi))
    · by_cases hcc : c' = c
      · subst hcc; exact ⟨_, hc'⟩
      · obtain ⟨w2, z2⟩ := I.cell y c' e
        exact ⟨w2, z2.sameBut hs hcc⟩
    · obtain ⟨e, n, ne, nf, d⟩ := I.pin p hp
      refine ⟨(hs.2 p.1 ?_).trans e, n, ne, nf, d⟩
      intro q
      rw [q, hoc] at e
      have q' : oc = p.2 := Option.some.inj e
      exact d w' (by rw [← q']; exact hocd)
theorem store_ok {M : Model} {A : Around} {E : Value → Shared → Prop} {i : Nat} {x : Str} {v : V} {u : Value} {Q : Unit → Shared → Prop} (I : Inv X pins σ H s) (hN : X.N.Nodup) (hi : X.N[i]? = some x) (hx : Loc X.env.scope x) (r : RelV v u)
    (h : ∀ s', Inv X pins (σ.set i (some v)) H s' → Q () s') (hf : X.fn x = true ∨ X.env.scope.names.lookup x = some .local := by first | exact .inl rfl | exact .inr rfl | assumption) : wpAny M A (storeName X.env x u) Q E s :=
  store_ok2 I hN hi hx r (fun s' I' _ => h s' I') hf
/-- behind a call or a block, the state as it is -/
theorem Inv.call' {s' : Shared} {ch : List Addr} (I : Inv X pins σ H s) (ho : s'.os = s.os) (u : Un (frs X.stack) ch H H' s.heap s'.heap) (hok : HOk X.prog X.w H' s'.heap) (hg : AllBare s'.gens)
    (hch : ∀ b ∈ ch, (b ∈ X.ex ∨ X.s₀.heap.objs.size ≤ b) ∧ b ≠ X.env.locals ∧ (∀ x c, X.env.cells.lookup x = some c → c ≠ b) ∧ ∀ p ∈ X.pn ++ pins, p.1 ≠ b) : Inv X pins σ H' s' := by
  obtain ⟨h', g', d', t', o'⟩ := s'
  have e : o' = s.os := ho
  subst e
  exact I.call (g' := g') (t' := t') (d' := d') u hok hg hch
end

/-! ### the judgements -/
/-- an exception: its class, its own dict's address (where it has one), the abstract heap behind it -/
abbrev XK := Value → Option Addr → Hp → Prop
abbrev St := List (Option V)
abbrev VK := V → Hp → Prop
/-- an expression's reading; a test's; an argument list's -/
abbrev TE := St → Hp → VK → Prop
abbrev TT := St → Hp → (Bool → Hp → Prop) → Prop
abbrev TA := St → Hp → (List V → Hp → Prop) → Prop
/-- what is wanted behind a statement -/
structure Ends where
  nx : St → Hp → Prop
  rt : VK
  bk : St → Hp → Prop := fun _ _ => False
  ct : St → Hp → Prop := fun _ _ => False
abbrev TS := Ends → St → Hp → Prop

def EP (X : Cx) (pins : List (Addr × Obj)) (σ : St) (Q : VK) (u : Value) (s' : Shared) : Prop := ∃ v H', Inv X pins σ H' s' ∧ RelV v u ∧ Q v H'
def TP (X : Cx) (pins : List (Addr × Obj)) (σ : St) (Q : Bool → Hp → Prop) (b : Bool) (s' : Shared) : Prop := ∃ H', Inv X pins σ H' s' ∧ Q b H'
def AP (X : Cx) (pins : List (Addr × Obj)) (σ : St) (Q : List V → Hp → Prop) (us : List Value) (s' : Shared) : Prop := ∃ vs H', Inv X pins σ H' s' ∧ Vals vs us ∧ Q vs H'
def SP (X : Cx) (pins : List (Addr × Obj)) (D : Ends) (f : Flow) (s' : Shared) : Prop :=
  match f with
  | .next => ∃ σ' H', Inv X pins σ' H' s' ∧ D.nx σ' H'
  | .brk => ∃ σ' H', Inv X pins σ' H' s' ∧ D.bk σ' H'
  | .cont => ∃ σ' H', Inv X pins σ' H' s' ∧ D.ct σ' H'
  | .ret u => ∃ v σ' H', Inv X pins σ' H' s' ∧ RelV v u ∧ D.rt v H'

def PE (X : Cx) (e : Expr) (t : TE) : Prop :=
  ∀ (pins : List (Addr × Obj)) (s : Shared) (σ : St) (H : Hp) (Q : VK), Inv X pins σ H s → t σ H Q → wpAny (model X.prog X.w) X.A (eval e X.env) (EP X pins σ Q) X.xe s
def PT (X : Cx) (e : Expr) (t : TT) : Prop :=
  ∀ (pins : List (Addr × Obj)) (s : Shared) (σ : St) (H : Hp) (Q : Bool → Hp → Prop), Inv X pins σ H s → t σ H Q → wpAny (model X.prog X.w) X.A (isTrue e X.env (eval e X.env)) (TP X pins σ Q) X.xe s
/-- a test whatever its 'whole' is (and, or) -/
def PW (X : Cx) (e : Expr) (t : TT) : Prop :=
  ∀ (whole : Sem Value) (pins : List (Addr × Obj)) (s : Shared) (σ : St) (H : Hp) (Q : Bool → Hp → Prop), Inv X pins σ H s → t σ H Q → wpAny (model X.prog X.w) X.A (isTrue e X.env whole) (TP X pins σ Q) X.xe s
theorem PW.pt {X : Cx} {e : Expr} {t : TT} (h : PW X e t) : PT X e t := h _
/-- an argument list (no star), from the left -/
def PA (X : Cx) (es : List Expr) (t : TA) : Prop :=
  ∀ (pos : Pos) (pins : List (Addr × Obj)) (s : Shared) (σ : St) (H : Hp) (Q : List V → Hp → Prop), Inv X pins σ H s → t σ H Q → wpAny (model X.prog X.w) X.A (spliced (backTo pos (starEach es X.env))) (AP X pins σ Q) X.xe s
def PS (X : Cx) (st : Stmt) (t : TS) : Prop :=
  ∀ (pins : List (Addr × Obj)) (s : Shared) (σ : St) (H : Hp) (D : Ends), Inv X pins σ H s → t D σ H → wpAny (model X.prog X.w) X.A (exec st X.env) (SP X pins D) X.xe s
def PSs (X : Cx) (st : List Stmt) (t : TS) : Prop :=
  ∀ (pins : List (Addr × Obj)) (s : Shared) (σ : St) (H : Hp) (D : Ends), Inv X pins σ H s → t D σ H → wpAny (model X.prog X.w) X.A (execs st X.env) (SP X pins D) X.xe s
/-- weaken the end -/
theorem thn {α : Type} {t : Sem α} {Q Q' : α → Shared → Prop} {M : Model} {A : Around} {E : Value → Shared → Prop} {s : Shared} (h : wpAny M A t Q E s) (hQ : ∀ a s, Q a s → Q' a s) : wpAny M A t Q' E s := wpAny_mono h hQ fun _ _ x => x
end L2

namespace L2
open PySem PySem.Spec PyProof.Rows
section
variable {X : Cx}

/-- two expressions in a row -/
theorem bin {a b : Expr} {ta tb : TE} (ha : PE X a ta) (hb : PE X b tb) {pins : List (Addr × Obj)} {s : Shared} {σ : St} {H : Hp} {R : V → V → Hp → Prop} (I : Inv X pins σ H s) (h : ta σ H fun x H1 => tb σ H1 fun y H2 => R x y H2)
    {α : Type} {Q : α → Shared → Prop} {f : Value → Value → Sem α}
    (hf : ∀ v u s2 x y H2, Inv X pins σ H2 s2 → RelV x v → RelV y u → R x y H2 → wpAny (model X.prog X.w) X.A (f v u) Q X.xe s2) :
    wpAny (model X.prog X.w) X.A (eval a X.env) (fun v s₁ => wpAny (model X.prog X.w) X.A (eval b X.env) (fun u s₂ => wpAny (model X.prog X.w) X.A (f v u) Q X.xe s₂) X.xe s₁) X.xe s := by
  refine thn (ha pins s σ H _ I h) fun v s1 ⟨x, H1, I1, r1, q1⟩ => ?_
  refine thn (hb pins s1 σ H1 _ I1 q1) fun u s2 ⟨y, H2, I2, r2, q2⟩ => ?_
  exact hf v u s2 x y H2 I2 r1 r2 q2

/-! ### names and constants -/
def tVar (i : Nat) : TE := fun σ H Q => ∃ v, σ[i]? = some (some v) ∧ Q v H
def tC (v : V) : TE := fun _ H Q => Q v H
theorem pe_var {i : Nat} {x : Str} {pos : Pos} (hN : X.N[i]? = some x) (hv : Vis X.env.scope x) (hd : (x == ("__debug__" : Str)) = false := by decide) (hcd : (x == ("__classdict__" : Str)) = false := by decide) : PE X (.Name x pos) (tVar i) := by
  intro pins s σ H Q I h
  obtain ⟨v, e, h⟩ := h
  obtain ⟨m, hn, hl⟩ := I.loc
  obtain ⟨u, r, l⟩ := hl i x v hN e hv
  have fin : EP X pins σ Q u s := ⟨v, H, I, r, h⟩
  rcases l with ⟨hk, hm⟩ | ⟨hk, c, hc, hcell⟩
  · exact wpAny_Name (wpAny_loadName_local I.ok.kind hk hn hm fin) hd
  · rcases hk with hk | hk
    · exact wpAny_Name (wpAny_loadName_cell I.ok.kind hk hc hcell fin) hd
    · exact wpAny_Name (wpAny_loadName_free I.ok.kind hk hc hcell fin hcd) hd
theorem pe_int {i j pos} : PE X (.Constant (.int i) j pos) (tC (.int i)) := fun _ _ _ H _ I h => wpAny_Constant_int ⟨.int i, H, I.tok _, ⟨_, rfl⟩, h⟩
theorem pe_bl {b j pos} : PE X (.Constant (.bool b) j pos) (tC (.bl b)) := fun _ _ _ H _ I h => Constant_bool ⟨.bl b, H, I, rfl, h⟩
theorem pe_str {x j pos} : PE X (.Constant (.str x) j pos) (tC (.str x)) := fun _ _ _ H _ I h => Calls.Constant_str ⟨.str x, H, I.tok _, ⟨_, rfl⟩, h⟩

/-- a global name of the def -/
def Gl (X : Cx) (x : Str) : Prop := X.env.kindOf x = some .globalImplicit
theorem ld_glob {E : Value → Shared → Prop} {pins : List (Addr × Obj)} {s : Shared} {σ : St} {H : Hp} {x : Str} {u : Value} {pos : Pos} {Q : Value → Shared → Prop} (I : Inv X pins σ H s) (hg : Gl X x) (hm : X.mg x = some u) (h : Q u s)
    (hd : (x == ("__debug__" : Str)) = false := by decide) : wpAny (model X.prog X.w) X.A (eval (.Name x pos) X.env) Q E s :=
  Calls.Name_function_global I.ok.kind hg (Calls.loadGlobal_global (by rw [I.ok.glob]; exact I.mod.glob.keeps I.bk) hm h) hd
theorem ld_blt {E : Value → Shared → Prop} {pins : List (Addr × Obj)} {s : Shared} {σ : St} {H : Hp} {x : Str} {u : Value} {pos : Pos} {Q : Value → Shared → Prop} (I : Inv X pins σ H s) (hg : Gl X x) (hm : X.mg x = none) (hv : bootBuiltins x = some u) (h : Q u s)
    (hn : x ≠ "__name__" := by decide) (hd : (x == ("__debug__" : Str)) = false := by decide) : wpAny (model X.prog X.w) X.A (eval (.Name x pos) X.env) Q E s := by
  obtain ⟨mb, h1, h2⟩ := I.mod.blt
  exact Calls.Name_function_global I.ok.kind hg (Calls.loadGlobal_builtin (by rw [I.ok.glob]; exact I.mod.glob.keeps I.bk) hm (by rw [I.ok.blt]; exact h1.keeps I.bk) ((h2 x hn).trans hv) h) hd
/-- a module's constant, a class, a function, as a value -/
theorem pe_glob {x : Str} {v : V} {u : Value} {pos : Pos} (hg : Gl X x) (hm : X.mg x = some u) (r : RelV v u) (hd : (x == ("__debug__" : Str)) = false := by decide) : PE X (.Name x pos) (tC v) :=
  fun _ _ _ H _ I h => ld_glob I hg hm ⟨v, H, I, r, h⟩ hd
theorem pe_bltn {x : Str} {v : V} {u : Value} {pos : Pos} (hg : Gl X x) (hm : X.mg x = none) (hv : bootBuiltins x = some u) (r : RelV v u) (hn : x ≠ "__name__" := by decide) (hd : (x == ("__debug__" : Str)) = false := by decide) : PE X (.Name x pos) (tC v) :=
  fun _ _ _ H _ I h => ld_blt I hg hm hv ⟨v, H, I, r, h⟩ hn hd

/-! ### arithmetic -/
/-- two ints -/
def t2I (ta tb : TE) (k : Int → Int → Hp → Prop) : St → Hp → Prop := fun σ H => ta σ H fun x H1 => tb σ H1 fun y H2 => ∃ i j, x = .int i ∧ y = .int j ∧ k i j H2
def tAdd (ta tb : TE) : TE := fun σ H Q => t2I ta tb (fun i j H2 => Q (.int (i + j)) H2) σ H
def tSub (ta tb : TE) : TE := fun σ H Q => t2I ta tb (fun i j H2 => Q (.int (i - j)) H2) σ H
/-- the left factor below 2^64 -/
def tMul (ta tb : TE) : TE := fun σ H Q => t2I ta tb (fun i j H2 => (-(2 ^ 64) < i ∧ i < 2 ^ 64) ∧ Q (.int (i * j)) H2) σ H
variable {a b : Expr} {ta tb : TE} {pos : Pos}
/-! ### comparisons -/
def PC (X : Cx) (op : CmpOp) (a b : Expr) (t : TE) : Prop :=
  ∀ (pins : List (Addr × Obj)) (s : Shared) (σ : St) (H : Hp) (Q : VK), Inv X pins σ H s → t σ H Q →
    wpAny (model X.prog X.w) X.A (eval a X.env) (fun v s₁ => wpAny (model X.prog X.w) X.A (eval b X.env) (fun u s₂ => wpAny (model X.prog X.w) X.A (compareOp op v u) (EP X pins σ Q) X.xe s₂) X.xe s₁) X.xe s
def tCmp (p : Int → Int → Bool) (ta tb : TE) : TE := fun σ H Q => t2I ta tb (fun i j H2 => Q (.bl (p i j)) H2) σ H
abbrev tLt : TE → TE → TE := tCmp fun i j => decide (i < j)
abbrev tLe : TE → TE → TE := tCmp fun i j => decide (i ≤ j)
abbrev tGt : TE → TE → TE := tCmp fun i j => decide (j < i)
abbrev tGe : TE → TE → TE := tCmp fun i j => decide (j ≤ i)
abbrev tEqI : TE → TE → TE := tCmp fun i j => decide (i = j)
abbrev tNeI : TE → TE → TE := tCmp fun i j => !decide (i = j)
/-- is None -/
def tIsN (ta : TE) : TE := fun σ H Q => ta σ H fun x H1 => Q (.bl (decide (x = .non))) H1
def tNotN (ta : TE) : TE := fun σ H Q => ta σ H fun x H1 => Q (.bl (!decide (x = .non))) H1
/-- a comparison as a value, as a test -/
def tB (t : TE) : TT := fun σ H Q => t σ H fun x H1 => ∃ c, x = .bl c ∧ Q c H1
theorem pt_cmp {op : CmpOp} {t : TE} (h : PC X op a b t) (h1 : behindInMarks op b = false := by first | exact nobehind _ (by decide) (by decide) | rfl) : PT X (.Compare a [op] [b] pos) (tB t) := by
  intro pins s σ H Q I hw
  refine wpAny_isTrue_Compare1 (thn (h pins s σ H _ I hw) fun v s1 h1 => thn h1 fun u s2 h2 => thn h2 fun c s3 ⟨x, H1, I1, r1, q1⟩ => ?_) h1
  obtain ⟨d, rfl, q⟩ := q1
  cases r1
  exact wpAny_truthy_bool ⟨H1, I1, q⟩
/-- an expression whose value is a bool, as a test -/
theorem pt_val {e : Expr} {t : TE} (h : PE X e t) (he : ∀ whole, isTrue e X.env whole = (do let v ← whole; standAt e.pos; holding [v] (truthy v)) := by intro _; rfl) : PT X e (tB t) := by
  intro pins s σ H Q I hw
  refine isTrue_plain (thn (h pins s σ H _ I hw) fun v s1 ⟨x, H1, I1, r1, q1⟩ => ?_) (he _)
  obtain ⟨d, rfl, q⟩ := q1
  cases r1
  exact wpAny_truthy_bool ⟨H1, I1, q⟩

/-! ### and, or, not -/
variable {tA tB' : TT} {rest : List Expr}
def tAnd (t u : TT) : TT := fun σ H Q => t σ H fun c H1 => if c = true then u σ H1 Q else Q false H1
def tOr (t u : TT) : TT := fun σ H Q => t σ H fun c H1 => if c = true then Q true H1 else u σ H1 Q
def tNot (t : TT) : TT := fun σ H Q => t σ H fun c H1 => Q (!c) H1
theorem pw_and1 (ha : PT X a tA) : PW X (.BoolOp .And [a] pos) tA := by
  intro wh pins s σ H Q I h
  refine isTrue_and (thn (ha pins s σ H Q I h) fun c s1 e => ?_)
  cases c with
  | true => exact isTrue_and_nil e
  | false => exact e
theorem pw_or1 (ha : PT X a tA) : PW X (.BoolOp .Or [a] pos) tA := by
  intro wh pins s σ H Q I h
  refine isTrue_or (thn (ha pins s σ H Q I h) fun c s1 e => ?_)
  cases c with
  | false => exact isTrue_or_nil e
  | true => exact e
theorem pw_and (ha : PT X a tA) (hb : PW X (.BoolOp .And (b :: rest) pos) tB') : PW X (.BoolOp .And (a :: b :: rest) pos) (tAnd tA tB') := by
  intro wh pins s σ H Q I h
  refine isTrue_and (thn (ha pins s σ H _ I h) fun c s1 ⟨H1, I1, q1⟩ => ?_)
  cases c with
  | true => exact hb wh pins s1 σ H1 Q I1 q1
  | false => exact ⟨H1, I1, q1⟩
theorem pw_or (ha : PT X a tA) (hb : PW X (.BoolOp .Or (b :: rest) pos) tB') : PW X (.BoolOp .Or (a :: b :: rest) pos) (tOr tA tB') := by
  intro wh pins s σ H Q I h
  refine isTrue_or (thn (ha pins s σ H _ I h) fun c s1 ⟨H1, I1, q1⟩ => ?_)
  cases c with
  | true => exact ⟨H1, I1, q1⟩
  | false => exact hb wh pins s1 σ H1 Q I1 q1
theorem pt_not (ha : PT X a tA) : PT X (.UnaryOp .Not a pos) (tNot tA) := by
  intro pins s σ H Q I h
  exact isTrue_not (ha pins s σ H (fun c H1 => Q (!c) H1) I h)
/-- .. as values (bools) -/
def tAndV (ta tb : TE) : TE := fun σ H Q => ta σ H fun x H1 => ∃ c, x = .bl c ∧ if c = true then tb σ H1 Q else Q (.bl false) H1
def tOrV (ta tb : TE) : TE := fun σ H Q => ta σ H fun x H1 => ∃ c, x = .bl c ∧ if c = true then Q (.bl true) H1 else tb σ H1 Q
def tNotV (ta : TE) : TE := fun σ H Q => ta σ H fun x H1 => ∃ c, x = .bl c ∧ Q (.bl (!c)) H1
theorem pe_one {op} {t : TE} (h : PE X a t) : PE X (.BoolOp op [a] pos) t := fun pins s σ H Q I hw => BoolOp_one (h pins s σ H Q I hw)
theorem pe_and (ha : PE X a ta) (hb : PE X (.BoolOp .And (b :: rest) pos) tb) : PE X (.BoolOp .And (a :: b :: rest) pos) (tAndV ta tb) := by
  intro pins s σ H Q I h
  refine BoolOp_and (thn (ha pins s σ H _ I h) fun v s1 ⟨x, H1, I1, r1, q1⟩ => ?_)
  obtain ⟨c, rfl, q1⟩ := q1
  cases r1
  refine wpAny_truthy_bool ?_
  cases c with
  | true => exact hb pins s1 σ H1 Q I1 q1
  | false => exact ⟨.bl false, H1, I1, rfl, q1⟩
theorem pe_not (ha : PE X a ta) : PE X (.UnaryOp .Not a pos) (tNotV ta) := by
  intro pins s σ H Q I h
  refine UnaryOp_ (thn (ha pins s σ H _ I h) fun v s1 ⟨x, H1, I1, r1, q1⟩ => ?_)
  obtain ⟨c, rfl, q1⟩ := q1
  cases r1
  exact not_of (wpAny_truthy_bool ⟨.bl (!c), H1, I1, rfl, q1⟩)
/-- a if t else b -/
def tIf (t : TT) (ta tb : TE) : TE := fun σ H Q => t σ H fun c H1 => if c = true then ta σ H1 Q else tb σ H1 Q
end
end L2

namespace L2
open PySem PySem.Spec PyProof.Rows

/-! ### a list, a tuple that is read: tracked, frozen, or an object of the module -/
def SqL (K : PySem.W.Frag) (H : Hp) (a : Addr) (xs : List V) : Prop :=
  Rd H a (.lst xs) ∨
    ∃ (o : Obj) (its : Array Value) (n : Nat), K.lookup a = some o ∧ o.cls = .type "list" ∧ o.dict = none ∧ o.data = .seq its n ∧ its.size ≤ sizeLine ∧ Vals xs its.toList
def SqT (K : PySem.W.Frag) (H : Hp) (a : Addr) (xs : List V) : Prop :=
  Rd H a (.tup xs) ∨
    ∃ (o : Obj) (its : Array Value) (n : Nat), K.lookup a = some o ∧ o.cls = .type "tuple" ∧ o.data = .seq its n ∧ its.size ≤ sizeLine ∧ Vals xs its.toList
def absV : Value → Option V
  | .none => some .non
  | .bool b => some (.bl b)
  | .int i _ => some (.int i)
  | .str x _ => some (.str x)
  | .bytes b _ => some (.byt b)
  | .float b _ => some (.flt b)
  | .ref a => some (.ref a)
  | .type n => some (.ty n)
  | _ => none
theorem RelV.abs {x : V} {u : Value} (r : RelV x u) : absV u = some x := by
  cases x with
  | non => cases r; rfl
  | bl _ => cases r; rfl
  | int _ => obtain ⟨t, rfl⟩ := r; rfl
  | str _ => obtain ⟨t, rfl⟩ := r; rfl
  | byt _ => obtain ⟨t, rfl⟩ := r; rfl
  | flt _ => obtain ⟨t, rfl⟩ := r; rfl
  | ref _ => cases r; rfl
  | ty _ => cases r; rfl
theorem RelV.inj {x y : V} {u : Value} (r : RelV x u) (q : RelV y u) : x = y := Option.some.inj (r.abs.symm.trans q.abs)
theorem Vals.inj : ∀ {xs ys : List V} {us : List Value}, Vals xs us → Vals ys us → xs = ys
  | _, _, _, .nil, .nil => rfl
  | _, _, _, .cons r t, .cons r' t' => by rw [r.inj r', Vals.inj t t']
section
variable {X : Cx} {pins : List (Addr × Obj)} {σ : St} {H : Hp} {s : Shared} {a : Addr} {xs ys : List V}
theorem SqL.of {K : PySem.W.Frag} (h : H a = some (.lst xs)) : SqL K H a xs := .inl (.inl h)
theorem SqT.of {K : PySem.W.Frag} (h : H a = some (.tup xs)) : SqT K H a xs := .inl (.inl h)
theorem Inv.list (I : Inv X pins σ H s) (h : SqL X.K H a xs) : ∃ its : List Value, Vals xs its ∧ PlainL s.heap a its.toArray ∧ xs.length ≤ sizeLine := by
  rcases h with h | ⟨o, its, n, hk, hc, hd, hs, hz, r⟩
  · obtain ⟨z, its, n, r, e⟩ := h.ok I.hok
    exact ⟨its, r, ⟨_, n, e, rfl, rfl, rfl⟩, z⟩
  · refine ⟨its.toList, r, ⟨o, n, I.kIn a o hk, hc, hd, by simpa using hs⟩, ?_⟩
    have e := r.length
    simp only [Array.length_toList] at e
    omega
theorem Inv.tuple (I : Inv X pins σ H s) (h : SqT X.K H a xs) : ∃ its : List Value, Vals xs its ∧ IsTup s.heap a its.toArray ∧ xs.length ≤ sizeLine := by
  rcases h with h | ⟨o, its, n, hk, hc, hs, hz, r⟩
  · obtain ⟨z, its, r, p⟩ := h.ok I.hok
    exact ⟨its, r, p, z⟩
  · refine ⟨its.toList, r, ⟨o, I.kIn a o hk, hc, n, by simpa using hs⟩, ?_⟩
    have e := r.length
    simp only [Array.length_toList] at e
    omega
theorem Inv.list_inj (I : Inv X pins σ H s) (h : SqL X.K H a xs) (h' : SqL X.K H a ys) : xs = ys := by
  obtain ⟨its, r, ⟨o, n, e, _, _, d⟩, _⟩ := I.list h
  obtain ⟨its', r', ⟨o', n', e', _, _, d'⟩, _⟩ := I.list h'
  rw [e] at e'; cases e'
  rw [d] at d'
  injection d' with d1 _
  have : its = its' := by simpa using congrArg Array.toList d1
  subst this
  exact r.inj r'
end

/-! ### another wish about exceptions -/
abbrev Cx.wish (X : Cx) (E : Value → Shared → Prop) : Cx := { X with xe := E }
/-- no exception leaves -/
abbrev Cx.nox (X : Cx) : Cx := X.wish fun _ _ => False
theorem Cx.Ok.wish {X : Cx} (ok : X.Ok) (E : Value → Shared → Prop) : (X.wish E).Ok :=
  ⟨ok.mod, ok.kind, ok.glob, ok.blt, ok.above, ok.inj, ok.has, ok.cab, ok.hd, ok.frames, ok.stk, ok.exf, ok.bs, ok.bsz, ok.noex, ok.exfs, ok.funs, ok.frf⟩
theorem Cx.Ok.unwish {X : Cx} {E : Value → Shared → Prop} (ok : (X.wish E).Ok) : X.Ok :=
  ⟨ok.mod, ok.kind, ok.glob, ok.blt, ok.above, ok.inj, ok.has, ok.cab, ok.hd, ok.frames, ok.stk, ok.exf, ok.bs, ok.bsz, ok.noex, ok.exfs, ok.funs, ok.frf⟩
section
variable {X : Cx} {pins : List (Addr × Obj)} {σ : St} {H : Hp} {s : Shared} {E : Value → Shared → Prop}
theorem Inv.wish (I : Inv X pins σ H s) (E : Value → Shared → Prop) : Inv (X.wish E) pins σ H s := ⟨I.ok.wish E, I.os, I.bare, I.base, I.loc, I.cell, I.free, I.freeC, I.pin, I.hok, I.len⟩
theorem Inv.unwish (I : Inv (X.wish E) pins σ H s) : Inv X pins σ H s := ⟨I.ok.unwish, I.os, I.bare, I.base, I.loc, I.cell, I.free, I.freeC, I.pin, I.hok, I.len⟩
theorem SP.unwish {D : Ends} {f : Flow} {s' : Shared} (h : SP (X.wish E) pins D f s') : SP X pins D f s' := by
  cases f with
  | next => obtain ⟨σ', H', I, q⟩ := h; exact ⟨σ', H', I.unwish, q⟩
  | brk => obtain ⟨σ', H', I, q⟩ := h; exact ⟨σ', H', I.unwish, q⟩
  | cont => obtain ⟨σ', H', I, q⟩ := h; exact ⟨σ', H', I.unwish, q⟩
  | ret u => obtain ⟨v, σ', H', I, r, q⟩ := h; exact ⟨v, σ', H', I.unwish, r, q⟩
theorem PSs.nox {st : List Stmt} {t : TS} (h : PSs X.nox st t) : PSs X st t := fun pins s σ H D I hw =>
  wpAny_mono (h pins s σ H D (I.wish _) hw) (fun _ _ q => q.unwish) fun _ _ z => False.elim z
end

/-! ### blocks and small statements -/
section
variable {X : Cx} {st : Stmt} {rest : List Stmt} {t u : TS} {e : Expr} {te : TE} {pos : Pos}
def tNext : TS := fun D σ H => D.nx σ H
def tSeq (t u : TS) : TS := fun D σ H => t { D with nx := u D } σ H
theorem pss_nil : PSs X [] tNext := fun _ _ σ H _ I h => wpAny_execs_nil ⟨σ, H, I, h⟩
theorem pss_cons (h1 : PS X st t) (h2 : PSs X rest u) : PSs X (st :: rest) (tSeq t u) := by
  intro pins s σ H D I h
  refine wpAny_execs_cons (thn (h1 pins s σ H { D with nx := u D } I h) fun f s1 q => ?_)
  cases f with
  | next =>
    obtain ⟨σ', H', I', q⟩ := q
    exact h2 pins s1 σ' H' D I' q
  | ret v => exact q
  | brk => exact q
  | cont => exact q
theorem pss_one (h1 : PS X st t) : PSs X [st] t := by
  intro pins s σ H D I h
  refine wpAny_execs_cons (thn (h1 pins s σ H D I h) fun f s1 q => ?_)
  cases f with
  | next => exact wpAny_execs_nil q
  | ret v => exact q
  | brk => exact q
  | cont => exact q
def tBreak : TS := fun D σ H => D.bk σ H
def tCont : TS := fun D σ H => D.ct σ H
/-- in a def's body nothing is shown -/
theorem Inv.quiet {pins : List (Addr × Obj)} {σ : St} {H : Hp} {s : Shared} (I : Inv X pins σ H s) : interactive X.env = false := by simp [interactive, I.ok.kind]
/-- an expression whose value is dropped -/
def tDrop (te : TE) : TS := fun D σ H => te σ H fun _ H1 => D.nx σ H1
def tRet (te : TE) : TS := fun D σ H => te σ H D.rt
theorem ps_ret (he : PE X e te) : PS X (.Return (some e) pos) (tRet te) := by
  intro pins s σ H D I h
  exact wpAny_Return_some (thn (he pins s σ H _ I h) fun v s1 ⟨x, H1, I1, r1, q1⟩ => ⟨x, σ, H1, I1, r1, q1⟩)
def tRetN : TS := fun D _ H => D.rt .non H
def tIfS (c : TT) (t u : TS) : TS := fun D σ H => c σ H fun b H1 => if b = true then t D σ H1 else u D σ H1
theorem ps_if {c : Expr} {a b : List Stmt} {tc : TT} (hc : PT X c tc) (ha : PSs X a t) (hb : PSs X b u) : PS X (.If c a b pos) (tIfS tc t u) := by
  intro pins s σ H D I h
  refine wpAny_If (thn (hc pins s σ H _ I h) fun d s1 ⟨H1, I1, q1⟩ => ?_)
  cases d with
  | true => exact ha pins s1 σ H1 D I1 q1
  | false => exact hb pins s1 σ H1 D I1 q1
/-- code that the proof never comes to -/
def tNever : TS := fun _ _ _ => False
end

/-! ### targets -/
abbrev TG := V → St → Hp → (St → Hp → Prop) → Prop
abbrev TGs := List V → St → Hp → (St → Hp → Prop) → Prop
def PG (X : Cx) (target : Expr) (t : TG) : Prop :=
  ∀ (pins : List (Addr × Obj)) (s : Shared) (σ : St) (H : Hp) (v : V) (u : Value) (Q : St → Hp → Prop), Inv X pins σ H s → RelV v u → t v σ H Q →
    wpAny (model X.prog X.w) X.A (assign target X.env u) (fun _ s' => ∃ σ' H', Inv X pins σ' H' s' ∧ Q σ' H') X.xe s
/-- several targets, one after another -/
def PGs (X : Cx) (ts : List Expr) (t : TGs) : Prop :=
  ∀ (pins : List (Addr × Obj)) (s : Shared) (σ : St) (H : Hp) (vs : List V) (us : List Value) (Q : St → Hp → Prop), Inv X pins σ H s → Vals vs us → t vs σ H Q →
    wpAny (model X.prog X.w) X.A (assignInOrder ((assignEach ts X.env).map (·.2)) us) (fun _ s' => ∃ σ' H', Inv X pins σ' H' s' ∧ Q σ' H') X.xe s
/-- o[i] = v, by values -/
abbrev TSet := V → V → V → Hp → (Hp → Prop) → Prop
def PSet (X : Cx) (t : TSet) : Prop :=
  ∀ (pins : List (Addr × Obj)) (s : Shared) (σ : St) (H : Hp) (o i v : V) (ov iv u : Value) (Q : Hp → Prop), Inv X pins σ H s → RelV o ov → RelV i iv → RelV v u → t o i v H Q →
    wpAny (model X.prog X.w) X.A (setItem ov iv u) (fun _ s' => ∃ H', Inv X pins σ H' s' ∧ Q H') X.xe s
/-- a op= b, by values -/
abbrev TIp := V → V → Hp → VK → Prop
def PIp (X : Cx) (op : Operator) (t : TIp) : Prop :=
  ∀ (pins : List (Addr × Obj)) (s : Shared) (σ : St) (H : Hp) (x y : V) (v u : Value) (Q : VK), Inv X pins σ H s → RelV x v → RelV y u → t x y H Q →
    wpAny (model X.prog X.w) X.A (inplaceOp op v u) (EP X pins σ Q) X.xe s
section
variable {X : Cx} {pos : Pos}
def gName (i : Nat) : TG := fun v σ H Q => Q (σ.set i (some v)) H
theorem pg_name {i : Nat} {x : Str} (hN : X.N.Nodup) (hi : X.N[i]? = some x) (hx : Loc X.env.scope x) (hf : X.fn x = true ∨ X.env.scope.names.lookup x = some .local := by first | exact .inl rfl | exact .inr rfl | assumption) : PG X (.Name x pos) (gName i) := by
  intro pins s σ H v u Q I r h
  exact wpAny_assign_Name (store_ok I hN hi hx r (fun s' I' => ⟨_, H, I', h⟩) hf)
def gNil : TGs := fun vs σ H Q => vs = [] ∧ Q σ H
def gCons (t : TG) (u : TGs) : TGs := fun vs σ H Q => ∃ v r, vs = v :: r ∧ t v σ H fun σ' H' => u r σ' H' Q
/-- (a, b, ..) = a tuple of that length -/
def gTup (K : PySem.W.Frag) (n : Nat) (t : TGs) : TG := fun v σ H Q => ∃ a xs, v = .ref a ∧ SqT K H a xs ∧ xs.length = n ∧ t xs σ H Q
/-- o[i] = .. -/
def gSub (to ti : TE) (t : TSet) : TG := fun v σ H Q => to σ H fun o H1 => ti σ H1 fun i H2 => t o i v H2 fun H3 => Q σ H3
theorem pg_sub {o i : Expr} {to ti : TE} {t : TSet} (ho : PE X o to) (hi : PE X i ti) (hs : PSet X t)
    (ha : ∀ v, assign (.Subscript o i pos) X.env v = (do
      let ov ← holding [v] (eval o X.env)
      let iv ← holding [v, ov] (eval i X.env)
      standAt pos
      holding [v, ov, iv] (setItem ov iv v)
      release [v, ov, iv] []) := by intro _; rfl) : PG X (.Subscript o i pos) (gSub to ti t) := by
  intro pins s σ H v u Q I r h
  rw [ha]
  refine wpAny_bind (wpAny_holding (thn (ho pins s σ H _ I h) fun ov s1 ⟨x, H1, I1, r1, q1⟩ => ?_))
  refine wpAny_bind (wpAny_holding (thn (hi pins s1 σ H1 _ I1 q1) fun iv s2 ⟨y, H2, I2, r2, q2⟩ => ?_))
  refine wpAny_bind (wpAny_standAt (wpAny_bind (wpAny_holding (thn (hs pins s2 σ H2 x y v ov iv u _ I2 r1 r2 r q2) fun _ s3 ⟨H3, I3, q3⟩ => ?_))))
  exact wpAny_release ⟨σ, H3, I3, q3⟩
/-- target = value -/
def tAsg (te : TE) (g : TG) : TS := fun D σ H => te σ H fun x H1 => g x σ H1 D.nx
theorem ps_asg {tg e : Expr} {te : TE} {g : TG} (he : PE X e te) (hg : PG X tg g) (hs : swapsWithSole [tg] e pos.line X.env = pure false := by rfl) (hw : swappedStores [tg] e X.env = pure none := by rfl)
    (h1 : (assignEach [tg] X.env).map (·.2) = [assign tg X.env] := by rfl) : PS X (.Assign [tg] e pos) (tAsg te g) := by
  intro pins s σ H D I h
  refine wpAny_Assign_stores (thn (he pins s σ H _ I h) fun v s1 ⟨x, H1, I1, r1, q1⟩ => ?_) hs hw
  rw [h1]
  exact thn (hg pins s1 σ H1 x v _ I1 r1 q1) fun _ s2 q => q
/-- name = value -/
theorem ps_set {i : Nat} {x : Str} {e : Expr} {te : TE} {pos' : Pos} (hN : X.N.Nodup) (hi : X.N[i]? = some x) (hx : Loc X.env.scope x) (he : PE X e te) (hs : swapsWith e (some (.Name x pos')) pos.line X.env = pure false := by rfl) (hf : X.fn x = true ∨ X.env.scope.names.lookup x = some .local := by first | exact .inl rfl | exact .inr rfl | assumption) :
    PS X (.Assign [.Name x pos'] e pos) (tAsg te (gName i)) := by
  intro pins s σ H D I h
  refine wpAny_Assign_Name (thn (he pins s σ H _ I h) fun v s1 ⟨y, H1, I1, r1, q1⟩ => ?_) hs
  exact store_ok I1 hN hi hx r1 (fun s2 I2 => ⟨_, H1, I2, q1⟩) hf
/-- a, b = x, y with plain local names: stored from the right; the pair itself is not tracked (the opening rows as in PyProof/Rows/TupAssign.lean:23) -/
def tPar (i j : Nat) (ta : TA) : TS := fun D σ H => ta σ H fun vs H1 => ∃ v w, vs = [v, w] ∧ D.nx ((σ.set i (some v)).set j (some w)) H1
/-- name op= e -/
def tAug (i : Nat) (te : TE) (ti : TIp) : TS := fun D σ H => ∃ x, σ[i]? = some (some x) ∧ te σ H fun y H1 => ti x y H1 fun z H2 => D.nx (σ.set i (some z)) H2
/-- o[i] op= e -/
def tAugS (to ti te : TE) (tget : V → V → Hp → VK → Prop) (tip : TIp) (tset : TSet) : TS := fun D σ H => to σ H fun o H1 => ti σ H1 fun i H2 => tget o i H2 fun x H3 => te σ H3 fun y H4 => tip x y H4 fun z H5 => tset o i z H5 fun H6 => D.nx σ H6
/-- o[i], by values -/
def PGet (X : Cx) (t : V → V → Hp → VK → Prop) : Prop :=
  ∀ (pins : List (Addr × Obj)) (s : Shared) (σ : St) (H : Hp) (o i : V) (ov iv : Value) (Q : VK), Inv X pins σ H s → RelV o ov → RelV i iv → t o i H Q →
    wpAny (model X.prog X.w) X.A (getItem ov iv) (EP X pins σ Q) X.xe s
theorem ps_augS {o i e : Expr} {to ti te : TE} {tget : V → V → Hp → VK → Prop} {tip : TIp} {tset : TSet} {op : Operator} {tpos : Pos} (ho : PE X o to) (hi : PE X i ti) (hg : PGet X tget) (he : PE X e te) (hp : PIp X op tip) (hs : PSet X tset)
    (ha : ∀ ov iv new, augStore i ov iv new = (do holding [new, ov, iv] (setItem ov iv new); release [new, ov, iv] []; pure .next) := by intros; rfl) : PS X (.AugAssign (.Subscript o i tpos) op e pos) (tAugS to ti te tget tip tset) := by
  intro pins s σ H D I h
  refine wpAny_AugAssign_SubscriptAny (thn (ho pins s σ H _ I h) fun ov s1 ⟨x1, H1, I1, r1, q1⟩ => ?_) ha
  refine thn (hi pins s1 σ H1 _ I1 q1) fun iv s2 ⟨x2, H2, I2, r2, q2⟩ => ?_
  refine thn (hg pins s2 σ H2 x1 x2 ov iv _ I2 r1 r2 q2) fun old s3 ⟨x3, H3, I3, r3, q3⟩ => ?_
  refine thn (he pins s3 σ H3 _ I3 q3) fun v s4 ⟨x4, H4, I4, r4, q4⟩ => ?_
  refine thn (hp pins s4 σ H4 x3 x4 old v _ I4 r3 r4 q4) fun new s5 ⟨x5, H5, I5, r5, q5⟩ => ?_
  exact thn (hs pins s5 σ H5 x1 x2 x5 ov iv new _ I5 r1 r2 r5 q5) fun _ s6 ⟨H6, I6, q6⟩ => ⟨σ, H6, I6, q6⟩
/-- ints -/
def ipI (f : Int → Int → Int) : TIp := fun x y H Q => ∃ i j, x = .int i ∧ y = .int j ∧ Q (.int (f i j)) H
theorem ip_add : PIp X .Add (ipI fun i j => i + j) := by
  intro pins s σ H x y v u Q I r1 r2 h
  obtain ⟨i, j, e1, e2, q⟩ := h
  subst e1; subst e2
  obtain ⟨t, rfl⟩ := r1
  obtain ⟨t', rfl⟩ := r2
  exact iadd_int ⟨.int _, H, I.tok _, ⟨_, rfl⟩, q⟩
end

/-! ### while -/
section
variable {X : Cx} {pos : Pos}
/-- the invariant W with its measure -/
def tWhile (c : TT) (tb : TS) : TS := fun D σ H => ∃ W : Nat → St → Hp → Prop, (∃ m, W m σ H) ∧ ∀ m σ H, W m σ H →
  c σ H fun b H1 => if b = true then ∃ N : St → Hp → Prop, (∀ σ' H', N σ' H' → ∃ m', m' < m ∧ W m' σ' H') ∧ tb { D with nx := N, ct := N, bk := D.nx } σ H1 else D.nx σ H1
end

/-! ### what a loop or a comprehension walks -/
/-- at turn i: it yields x (the heap may grow), or it stops -/
structure It where
  go : Nat → Hp → Prop
  yld : Nat → Hp → V → Hp → Prop
  stop : Nat → Hp → Prop
/-- the iterator's own objects may turn: they are not the frame's, not pinned, younger than the entry (or a comprehension's own) -/
def FpOk (X : Cx) (pins : List (Addr × Obj)) (H : Hp) (b : Addr) : Prop :=
  H b = none ∧ b ≠ X.env.locals ∧ b ∉ X.fs ∧ (b ∈ X.ex ∨ X.s₀.heap.objs.size ≤ b) ∧ (∀ x c, X.env.cells.lookup x = some c → c ≠ b) ∧ ∀ p ∈ X.pn ++ pins, p.1 ≠ b
theorem Inv.fpOk {X : Cx} {pins : List (Addr × Obj)} {σ : St} {H H' : Hp} {s : Shared} {b : Addr} (I : Inv X pins σ H s) (hb : s.heap.objs.size ≤ b) (hn : H' b = none) : FpOk X pins H' b := by
  refine ⟨hn, Nat.ne_of_gt (Nat.lt_of_lt_of_le I.lt hb), I.nofs hb, .inr (Nat.le_trans I.sz hb), fun x c e z => ?_, fun p hp z => ?_⟩
  · obtain ⟨v, q⟩ := I.cell x c e
    exact absurd (Nat.lt_of_lt_of_le q.lt (by rw [z]; exact hb)) (Nat.lt_irrefl _)
  · exact absurd (Nat.lt_of_lt_of_le (Heap.lt_size (I.pin p hp).1) (by rw [z]; exact hb)) (Nat.lt_irrefl _)
structure Turn (P : Program) (w : World) (K : PySem.W.Frag) (tg : Expr) (J : It) (fp : List Addr) (it : Addr) (tn : Nat → Heap → Prop) : Prop where
  mem : it ∈ fp
  obj : ∀ i h, tn i h → ∀ b ∈ fp, ∃ o, h.get? b = some o ∧ ∀ v, o.data ≠ .cell v
  keep : ∀ i h h', tn i h → (∀ b ∈ fp, ∀ o, h.get? b = some o → h'.get? b = some o) → tn i h'
  item : ∀ (X : Cx), X.prog = P → X.w = w → X.K = K → X.calm = true → ∀ (i : Nat) (pins : List (Addr × Obj)) (s : Shared) (σ : St) (H : Hp) (E : Value → Shared → Prop), Inv X pins σ H s → (∀ b ∈ fp, FpOk X pins H b) → tn i s.heap → J.go i H →
    wpAny (model P w) X.A (pyNext (.ref it)) (fun r s1 => ∃ u, r = some u ∧
      wpAny (model P w) X.A (letOwnedTupleGo tg (.ref it) u) (fun _ s2 => ∃ x H', Inv X pins σ H' s2 ∧ RelV x u ∧ J.yld i H x H' ∧ tn (i + 1) s2.heap ∧ ∀ b ∈ fp, H' b = none) E s1) E s
  done : ∀ (X : Cx), X.prog = P → X.w = w → X.K = K → X.calm = true → ∀ (i : Nat) (pins : List (Addr × Obj)) (s : Shared) (σ : St) (H : Hp) (E : Value → Shared → Prop), Inv X pins σ H s → (∀ b ∈ fp, FpOk X pins H b) → tn i s.heap → J.stop i H →
    wpAny (model P w) X.A (pyNext (.ref it)) (fun r s1 => r = none ∧ Inv X pins σ H s1) E s
  self : ∀ (A : Around) (i : Nat) (s : Shared) (Q : Value → Shared → Prop) (E : Value → Shared → Prop), tn i s.heap → Q (.ref it) s → wpAny (model P w) A (pyIter (.ref it)) Q E s
abbrev TI := St → Hp → (It → Hp → Prop) → Prop
/-- an iterator has come -/
def PIE (X : Cx) (pins : List (Addr × Obj)) (σ : St) (tg : Expr) (R : It → Hp → Prop) (itv : Value) (s2 : Shared) : Prop :=
  ∃ (it : Addr) (fp : List Addr) (tn : Nat → Heap → Prop) (J : It) (H' : Hp), itv = .ref it ∧ Inv X pins σ H' s2 ∧ Turn X.prog X.w X.K tg J fp it tn ∧ tn 0 s2.heap ∧ (∀ b ∈ fp, FpOk X pins H' b) ∧ R J H'
def PI (X : Cx) (tg iter : Expr) (wi : TI) : Prop :=
  ∀ (pins : List (Addr × Obj)) (s : Shared) (σ : St) (H : Hp) (R : It → Hp → Prop), Inv X pins σ H s → wi σ H R →
    wpAny (model X.prog X.w) X.A (eval iter X.env) (fun v s1 => wpAny (model X.prog X.w) X.A (pyIter v) (PIE X pins σ tg R) X.xe s1) X.xe s

/-- the step ahead of the store is nothing for an iterator that keeps no tuple -/
theorem go_of {M : Model} {A : Around} {E : Value → Shared → Prop} {s : Shared} {tg : Expr} {it : Addr} {u : Value} {o : Obj} {n : String} {vs : Array Value} {Q : Unit → Shared → Prop} (ho : s.heap.get? it = some o) (hc : o.cls = .type n) (hd : o.data = .fields vs)
    (hn : ["enumerate", "zip", "dict_itemiterator", "dict_reverseitemiterator", "odict_iterator", "itertools.zip_longest", "itertools.pairwise"].contains n = false) (hQ : Q () s) : wpAny M A (letOwnedTupleGo tg (.ref it) u) Q E s := by
  unfold letOwnedTupleGo
  cases tg <;> first
    | exact wpAny_pure hQ
    | (cases u <;> first
        | exact wpAny_pure hQ
        | (refine wpAny_bind (wpAny_load ho ?_)
           rw [hc, hd]
           show wpAny M A (if (["enumerate", "zip", "dict_itemiterator", "dict_reverseitemiterator", "odict_iterator", "itertools.zip_longest", "itertools.pairwise"].contains n && vs[0]? == some (rawInt _)) = true then _ else _) Q E s
           rw [if_neg (by intro h; rw [hn, Bool.false_and] at h; cases h)]
           exact wpAny_pure hQ))

/-- the list at a, as it stands at each turn (a loop may append to it) -/
def Itl (K : PySem.W.Frag) (a : Addr) : It :=
  ⟨fun i H => ∃ xs x, SqL K H a xs ∧ xs[i]? = some x, fun i H x H' => H' = H ∧ ∀ xs, SqL K H a xs → xs[i]? = some x, fun i H => ∃ xs, SqL K H a xs ∧ xs.length ≤ i⟩
def Itt (K : PySem.W.Frag) (a : Addr) : It :=
  ⟨fun i H => ∃ xs x, SqT K H a xs ∧ xs[i]? = some x, fun i H x H' => H' = H ∧ ∀ xs, SqT K H a xs → xs[i]? = some x, fun i H => ∃ xs, SqT K H a xs ∧ xs.length ≤ i⟩
/-- lo, lo + 1, .. (n of them) -/
def Itr (lo : Int) (n : Nat) : It := ⟨fun i _ => i < n, fun i H x H' => H' = H ∧ x = .int (lo + i), fun i _ => n ≤ i⟩
theorem turn_list {P : Program} {w : World} {K : PySem.W.Frag} {tg : Expr} (a it : Addr) : Turn P w K tg (Itl K a) [it] it (fun i h => h.IsListIter it a i) where
  mem := by simp
  obj := fun i h st b hb => by
    have e : b = it := by simpa using hb
    subst e
    obtain ⟨o, e, c, d⟩ := st
    exact ⟨o, e, fun v z => by rw [d] at z; cases z⟩
  keep := fun i h h' st k => st.at fun o e => k it (by simp) o e
  item := by
    intro X hP hw hK hc i pins s σ H E I hf st hg
    subst hP hw hK
    obtain ⟨xs, x, hq, hx⟩ := hg
    obtain ⟨its, rv, p, hz⟩ := I.list hq
    obtain ⟨u, hu, ru⟩ := rv.get hx
    obtain ⟨f0, f1, f2, f3, f4, f5⟩ := hf it (by simp)
    refine wpAny_pyNext_list_item st p.isList (x := u) (by simpa using hu) fun h' st' sb => ?_
    have I1 : Inv X pins σ H { s with heap := h' } := I.turned (t' := s.toks) (fun b o hb e => (sb.2 b hb).trans e) f0 f1 f3 f4 f5
    obtain ⟨o, e, c, d⟩ := id st'
    exact ⟨u, rfl, go_of (s := { s with heap := h' }) e c d (by decide) ⟨x, H, I1, ru, ⟨rfl, fun ys hy => by rw [I.list_inj hy hq]; exact hx⟩, st', fun b hb => (hf b hb).1⟩⟩
  done := by
    intro X hP hw hK hc i pins s σ H E I hf st hg
    subst hP hw hK
    obtain ⟨xs, hq, hx⟩ := hg
    obtain ⟨its, rv, p, hz⟩ := I.list hq
    obtain ⟨f0, f1, f2, f3, f4, f5⟩ := hf it (by simp)
    have hl := rv.length
    exact wpAny_pyNext_list_end (I.ok.hd hc) st p.isList (by simp; omega) fun h' eb => ⟨rfl, I.turned (t' := s.toks) (fun b o hb e => eb b o hb e) f0 f1 f3 f4 f5⟩
  self := fun _ _ _ _ _ st h => wpAny_pyIter_listiter st h
theorem turn_range {P : Program} {w : World} {K : PySem.W.Frag} {tg : Expr} (it : Addr) (lo : Int) (n : Nat) : Turn P w K tg (Itr lo n) [it] it (fun i h => IsRangeIter h it (lo + (i : Nat) * 1) ((n : Int) - (i : Nat)) 1) where
  mem := by simp
  obj := fun i h st b hb => by
    have e : b = it := by simpa using hb
    subst e
    exact ⟨_, st, fun v z => by
      have z' : Data.fields _ = Data.cell v := z
      cases z'⟩
  keep := fun i h h' st k => k it (by simp) _ st
  item := by
    intro X hP hw hK hc i pins s σ H E I hf st hg
    subst hP hw hK
    obtain ⟨f0, f1, f2, f3, f4, f5⟩ := hf it (by simp)
    have W := Walks.range (prog := X.prog) (w := X.w) (I.ok.hd hc) it lo 1 n
    refine W.item i s _ _ hg st fun v h' tk hv st' kk => ?_
    obtain ⟨t, rfl⟩ := hv
    have I1 : Inv X pins σ H { s with heap := h', toks := tk } := I.turned (fun b o hb e => kk b o (by simpa using hb) e) f0 f1 f3 f4 f5
    refine ⟨_, rfl, go_of (s := { s with heap := h', toks := tk }) (n := "range_iterator") st' rfl rfl (by decide) ⟨.int (lo + i), H, I1, ⟨t, ?_⟩, ⟨rfl, rfl⟩, st', fun b hb => (hf b hb).1⟩⟩
    rw [Int.mul_one]
  done := by
    intro X hP hw hK hc i pins s σ H E I hf st hg
    subst hP hw hK
    obtain ⟨f0, f1, f2, f3, f4, f5⟩ := hf it (by simp)
    exact wpAny_pyNext_range_end (I.ok.hd hc) st (by have : n ≤ i := hg; omega) fun h' eb => ⟨rfl, I.turned (t' := s.toks) (fun b o hb e => eb b o hb e) f0 f1 f3 f4 f5⟩
  self := fun _ _ _ _ _ st h => wpAny_pyIter_rangeiter st h
end L2

namespace L2
open PySem PySem.Spec PyProof.Rows
section
variable {X : Cx} {tg : Expr}
def iList (K : PySem.W.Frag) (tl : TE) : TI := fun σ H R => tl σ H fun x H1 => ∃ a, x = .ref a ∧ (∃ xs, SqL K H1 a xs) ∧ R (Itl K a) H1
def iTup (K : PySem.W.Frag) (tl : TE) : TI := fun σ H R => tl σ H fun x H1 => ∃ a, x = .ref a ∧ (∃ xs, SqT K H1 a xs) ∧ R (Itt K a) H1
theorem pi_list {l : Expr} {tl : TE} (hl : PE X l tl) : PI X tg l (iList X.K tl) := by
  intro pins s σ H R I h
  refine thn (hl pins s σ H _ I h) fun v s1 ⟨x, H1, I1, r1, q1⟩ => ?_
  obtain ⟨a, e, ⟨xs, hq⟩, q⟩ := q1
  subst e
  cases r1
  obtain ⟨its, rv, p, hz⟩ := I1.list hq
  refine wpAny_pyIter_list p.isList ?_
  refine ⟨s1.heap.objs.size, [s1.heap.objs.size], _, _, H1, rfl, I1.kept (t' := s1.toks) fun b o e => Heap.get?_push_of_some _ e, turn_list a _, ⟨_, Heap.get?_push_size _ rfl, rfl, rfl⟩, fun b hb => ?_, q⟩
  have e : b = s1.heap.objs.size := by simpa using hb
  subst e
  exact I1.fpOk (Nat.le_refl _) (I1.hok.fresh (Nat.le_refl _))
/-- a range object just made, walked -/
theorem range_it {pins : List (Addr × Obj)} {σ : St} {H : Hp} {s : Shared} {R : It → Hp → Prop} {E : Value → Shared → Prop} {lo hi : Int} {t u v : Tok} {tk : Nat} (I : Inv X pins σ H s) (h1 : -(2 ^ 62) ≤ lo) (h2 : lo < 2 ^ 62) (h3 : -(2 ^ 62) ≤ hi) (h4 : hi < 2 ^ 62)
    (q : R (Itr lo (hi - lo).toNat) H) : wpAny (model X.prog X.w) X.A (pyIter (.ref s.heap.objs.size)) (PIE X pins σ tg R) E { s with heap := s.heap.push { cls := .type "range", data := .fields #[.int lo t, .int hi u, .int 1 v] }, toks := tk } := by
  refine wpAny_pyIter_range (IsRange.new ..) (small_one h1 h2 h3 h4) ?_
  have I1 : Inv X pins σ H { s with heap := s.heap.push { cls := .type "range", data := .fields #[.int lo t, .int hi u, .int 1 v] }, toks := tk } := I.kept fun b o e => Heap.get?_push_of_some _ e
  refine ⟨(s.heap.push { cls := .type "range", data := .fields #[.int lo t, .int hi u, .int 1 v] }).objs.size, [(s.heap.push { cls := .type "range", data := .fields #[.int lo t, .int hi u, .int 1 v] }).objs.size], _, _, H, rfl,
    I1.kept (t' := tk) fun b o e => Heap.get?_push_of_some _ e, turn_range _ lo (hi - lo).toNat, ?_, fun b hb => ?_, q⟩
  · have e1 : lo + ((0 : Nat) : Int) * 1 = lo := by simp
    have e2 : (((hi - lo).toNat : Nat) : Int) - ((0 : Nat) : Int) = Builtin.Range.rangeSize lo hi 1 := by rw [rangeSize_one]; split <;> omega
    show IsRangeIter _ _ (lo + ((0 : Nat) : Int) * 1) ((((hi - lo).toNat : Nat) : Int) - ((0 : Nat) : Int)) 1
    rw [e1, e2]
    exact Heap.get?_push_size _ rfl
  · have e : b = (s.heap.push { cls := .type "range", data := .fields #[.int lo t, .int hi u, .int 1 v] }).objs.size := by simpa using hb
    subst e
    exact I1.fpOk (Nat.le_refl _) (I1.hok.fresh (Nat.le_refl _))
def iRng1 (ta : TA) : TI := fun σ H R => ta σ H fun vs H1 => ∃ j : Int, vs = [.int j] ∧ -(2 ^ 62) ≤ j ∧ j < 2 ^ 62 ∧ R (Itr 0 j.toNat) H1
def iRng2 (ta : TA) : TI := fun σ H R => ta σ H fun vs H1 => ∃ i j : Int, vs = [.int i, .int j] ∧ (-(2 ^ 62) ≤ i ∧ i < 2 ^ 62 ∧ -(2 ^ 62) ≤ j ∧ j < 2 ^ 62) ∧ R (Itr i (j - i).toNat) H1
theorem pi_range1 {a : Expr} {ta : TA} {p pos : Pos} (hg : Gl X "range") (hm : X.mg "range" = none) (ha : PA X [a] ta) (hs : starEach [a] X.env = [(false, eval a X.env)] := by rfl) : PI X tg (.Call (.Name "range" p) [a] [] pos) (iRng1 ta) := by
  intro pins s σ H R I h
  refine Call_ (ld_blt I hg hm boot_range (PyProof.Rows.callWith_type1 (thn (ha pos pins s σ H _ I h) fun us s1 ⟨vs, H1, I1, r1, q1⟩ => ?_) hs rfl))
  obtain ⟨j, e, q1, q2, q⟩ := q1
  subst e
  cases r1 with
  | cons r rr =>
    cases rr
    obtain ⟨t, rfl⟩ := r
    exact call_range_1 (range_it I1 (by omega) (by omega) q1 q2 (by simpa using q))
/-! ### for -/
/-- W: the invariant by the turn and a measure; N: what the body is to reach -/
def tFor (wi : TI) (g : TG) (tb : TS) : TS := fun D σ H => wi σ H fun J H1 => ∃ W : Nat → Nat → St → Hp → Prop, (∃ m, W 0 m σ H1) ∧ ∀ i m σ H, W i m σ H →
  (J.stop i H ∧ D.nx σ H) ∨ (J.go i H ∧ ∃ N : St → Hp → Prop, (∀ σ' H', N σ' H' → ∃ m', m' < m ∧ W (i + 1) m' σ' H') ∧ ∀ x H', J.yld i H x H' → g x σ H' fun σ2 H2 => tb { D with nx := N, ct := N, bk := D.nx } σ2 H2)
/-- the records at fp as they stand -/
def pinsAt (fp : List Addr) (h : Heap) : List (Addr × Obj) := fp.filterMap fun b => (h.get? b).map fun o => (b, o)
theorem mem_pinsAt {fp : List Addr} {h : Heap} {b : Addr} {o : Obj} (hb : b ∈ fp) (e : h.get? b = some o) : (b, o) ∈ pinsAt fp h := List.mem_filterMap.mpr ⟨b, hb, by rw [e]; rfl⟩
theorem of_pinsAt {fp : List Addr} {h : Heap} {p : Addr × Obj} (hp : p ∈ pinsAt fp h) : p.1 ∈ fp ∧ h.get? p.1 = some p.2 := by
  obtain ⟨b, hb, e⟩ := List.mem_filterMap.mp hp
  cases q : h.get? b with
  | none => rw [q] at e; cases e
  | some o =>
    rw [q] at e
    have e' : (b, o) = p := Option.some.inj e
    subst e'
    exact ⟨hb, q⟩
theorem Inv.pinned {pins : List (Addr × Obj)} {σ : St} {H : Hp} {s : Shared} {fp : List Addr} (I : Inv X pins σ H s) (hf : ∀ b ∈ fp, FpOk X pins H b) (ho : ∀ b ∈ fp, ∃ o, s.heap.get? b = some o ∧ ∀ v, o.data ≠ .cell v) : Inv X (pins ++ pinsAt fp s.heap) σ H s :=
  I.pins_of fun p hp => (List.mem_append.mp hp).elim (fun z => I.pin p (List.mem_append_right _ z)) fun z => by
    obtain ⟨hb, e⟩ := of_pinsAt z
    obtain ⟨f0, f1, f2, _⟩ := hf p.1 hb
    obtain ⟨o, e', d⟩ := ho p.1 hb
    rw [e] at e'; cases e'
    exact ⟨e, f0, f1, f2, d⟩
theorem Inv.unpinned {pins pl : List (Addr × Obj)} {σ : St} {H : Hp} {s : Shared} (I : Inv X (pins ++ pl) σ H s) : Inv X pins σ H s := I.pins_of fun p hp => I.pin p (List.mem_append_right _ (List.mem_append_left _ hp))
theorem ps_for {iter : Expr} {body : List Stmt} {wi : TI} {g : TG} {tb : TS} {pos : Pos} (hp : PassesOwn (model X.prog X.w) X.A X.env X.xe) (hc : X.calm = true) (hi : PI X tg iter wi) (hg : PG X tg g) (hb : PSs X body tb)
    (hs : ∀ x, foldedSetIterable iter X.env x = pure x := by intro _; rfl) : PS X (.For tg iter body [] pos) (tFor wi g tb) := by
  intro pins s σ H D I h
  refine wpAny_For (thn (hi pins s σ H _ I h) fun v s1 h1 => thn h1 fun itv s2 h2 => ?_) hs
  obtain ⟨it, fp, tn, J, H2, e, I2, T, st2, f2, W, ⟨m0, w0⟩, turn⟩ := h2
  subst e
  -- what stays true of the iterator's objects through the loop
  have stat : ∀ {H' : Hp}, (∀ b ∈ fp, H' b = none) → ∀ b ∈ fp, FpOk X pins H' b := fun hn b hb => ⟨hn b hb, (f2 b hb).2⟩
  refine codeAny_forLoop_any (fun n s' => ∃ i σ' H', Inv X pins σ' H' s' ∧ tn i s'.heap ∧ (∀ b ∈ fp, H' b = none) ∧ W i n σ' H') ?_ m0 ⟨0, σ, H2, I2, st2, fun b hb => (f2 b hb).1, w0⟩
  rintro n s3 ⟨i, σ3, H3, I3, st3, fr3, w3⟩
  rcases turn i n σ3 H3 w3 with ⟨stop, qn⟩ | ⟨go, N, hN, step⟩
  · refine wpAny_passesOwn hp (thn (T.done X rfl rfl rfl hc i pins s3 σ3 H3 X.xe I3 (stat fr3) st3 stop) fun r s4 ⟨hr, I4⟩ => ?_)
    subst hr
    exact wpAny_execs_nil ⟨σ3, H3, I4, qn⟩
  · refine wpAny_passesOwn hp (thn (T.item X rfl rfl rfl hc i pins s3 σ3 H3 X.xe I3 (stat fr3) st3 go) fun r s4 ⟨u, hr, h4⟩ => ?_)
    subst hr
    refine wpAny_passesOwn hp (thn h4 fun _ s5 ⟨x, H5, I5, r5, y5, st5, fr5⟩ => ?_)
    have I5' := I5.pinned (stat fr5) (T.obj _ _ st5)
    refine wpAny_passesOwn hp (thn (hg _ s5 σ3 H5 x u _ I5' r5 (step x H5 y5)) fun _ s6 ⟨σ6, H6, I6, q6⟩ => ?_)
    refine wpAny_passesOwn hp (thn (hb _ s6 σ6 H6 _ I6 q6) fun f s7 q7 => ?_)
    have again : ∀ {σ7 : St} {H7 : Hp}, Inv X (pins ++ pinsAt fp s5.heap) σ7 H7 s7 → N σ7 H7 → ∃ m, m < n ∧ ∃ i σ' H', Inv X pins σ' H' s7 ∧ tn i s7.heap ∧ (∀ b ∈ fp, H' b = none) ∧ W i m σ' H' := fun {σ7 H7} I7 n7 => by
      obtain ⟨m', hm, w7⟩ := hN σ7 H7 n7
      refine ⟨m', hm, i + 1, σ7, H7, I7.unpinned, T.keep _ _ _ st5 fun b hb o e => (I7.pin (b, o) (List.mem_append_right _ (List.mem_append_right _ (mem_pinsAt hb e)))).1, fun b hb => ?_, w7⟩
      obtain ⟨o, e, d⟩ := T.obj _ _ st5 b hb
      exact (I7.pin (b, o) (List.mem_append_right _ (List.mem_append_right _ (mem_pinsAt hb e)))).2.1
    cases f with
    | next => obtain ⟨σ7, H7, I7, n7⟩ := q7; exact again I7 n7
    | cont => obtain ⟨σ7, H7, I7, n7⟩ := q7; exact again I7 n7
    | brk => obtain ⟨σ7, H7, I7, q7⟩ := q7; exact ⟨σ7, H7, I7.unpinned, q7⟩
    | ret v => obtain ⟨x7, σ7, H7, I7, r7, q7⟩ := q7; exact ⟨x7, σ7, H7, I7.unpinned, r7, q7⟩
end

/-! ### the forms one uses -/
theorem for_range {lo : Int} {n : Nat} {g : TG} {tb : TS} {D : Ends} {σ : St} {H : Hp} (Pv : Nat → St → Hp → Prop) (h0 : Pv 0 σ H)
    (hs : ∀ i σ H, i < n → Pv i σ H → g (.int (lo + i)) σ H fun σ2 H2 => tb { D with nx := Pv (i + 1), ct := Pv (i + 1), bk := D.nx } σ2 H2) (hd : ∀ σ H, Pv n σ H → D.nx σ H) :
    ∃ W : Nat → Nat → St → Hp → Prop, (∃ m, W 0 m σ H) ∧ ∀ i m σ H, W i m σ H →
      ((Itr lo n).stop i H ∧ D.nx σ H) ∨ ((Itr lo n).go i H ∧ ∃ N : St → Hp → Prop, (∀ σ' H', N σ' H' → ∃ m', m' < m ∧ W (i + 1) m' σ' H') ∧ ∀ x H', (Itr lo n).yld i H x H' → g x σ H' fun σ2 H2 => tb { D with nx := N, ct := N, bk := D.nx } σ2 H2) := by
  refine ⟨fun i m σ H => m = n - i ∧ i ≤ n ∧ Pv i σ H, ⟨n, by simp, Nat.zero_le _, h0⟩, ?_⟩
  rintro i m σ H ⟨rfl, hi, p⟩
  by_cases hlt : i < n
  · refine .inr ⟨hlt, Pv (i + 1), fun σ' H' p' => ⟨n - (i + 1), by omega, rfl, hlt, p'⟩, fun x H' y => ?_⟩
    obtain ⟨e, y⟩ := y
    subst e y
    exact hs i σ _ hlt p
  · have e : i = n := by omega
    subst e
    exact .inl ⟨Nat.le_refl _, hd σ H p⟩
end L2

namespace L2
open PySem PySem.Spec PyProof.Rows

abbrev R2 := V → V → Hp → VK → Prop
/-- a two-place operation on values: f is binaryOp op, inplaceOp op or compareOp op -/
def OpR (X : Cx) (f : Value → Value → Sem Value) (r : R2) : Prop :=
  ∀ (pins : List (Addr × Obj)) (s : Shared) (σ : St) (H : Hp) (x y : V) (v u : Value) (Q : VK), Inv X pins σ H s → RelV x v → RelV y u → r x y H Q →
    wpAny (model X.prog X.w) X.A (f v u) (EP X pins σ Q) X.xe s
/-- a one-place operation -/
def UnR (X : Cx) (f : Value → Sem Value) (r : V → Hp → VK → Prop) : Prop :=
  ∀ (pins : List (Addr × Obj)) (s : Shared) (σ : St) (H : Hp) (x : V) (v : Value) (Q : VK), Inv X pins σ H s → RelV x v → r x H Q →
    wpAny (model X.prog X.w) X.A (f v) (EP X pins σ Q) X.xe s
/-- a call of a value that is known (a builtin, a type) with values -/
def CallR (X : Cx) (f : Value) (r : List V → Hp → VK → Prop) : Prop :=
  ∀ (pins : List (Addr × Obj)) (s : Shared) (σ : St) (H : Hp) (xs : List V) (us : List Value) (Q : VK), Inv X pins σ H s → Vals xs us → r xs H Q →
    wpAny (model X.prog X.w) X.A (call f us) (EP X pins σ Q) X.xe s
/-- a value's truth -/
def TruR (X : Cx) (r : V → Hp → (Bool → Hp → Prop) → Prop) : Prop :=
  ∀ (pins : List (Addr × Obj)) (s : Shared) (σ : St) (H : Hp) (x : V) (v : Value) (Q : Bool → Hp → Prop), Inv X pins σ H s → RelV x v → r x H Q →
    wpAny (model X.prog X.w) X.A (truthy v) (TP X pins σ Q) X.xe s

def tOp (r : R2) (ta tb : TE) : TE := fun σ H Q => ta σ H fun x H1 => tb σ H1 fun y H2 => r x y H2 Q
def tUn (r : V → Hp → VK → Prop) (ta : TE) : TE := fun σ H Q => ta σ H fun x H1 => r x H1 Q
/-- ints in, under C, and a value out -/
def rI (C : Int → Int → Prop) (g : Int → Int → V) : R2 := fun x y H Q => ∃ i j, x = .int i ∧ y = .int j ∧ C i j ∧ Q (g i j) H
def rI0 (g : Int → Int → V) : R2 := fun x y H Q => ∃ i j, x = .int i ∧ y = .int j ∧ Q (g i j) H
def rU (g : Int → V) : V → Hp → VK → Prop := fun x H Q => ∃ i, x = .int i ∧ Q (g i) H

section
variable {X : Cx} {a b c : Expr} {ta tb tc : TE} {pos : Pos}

theorem binT (ha : PE X a ta) (hb : PE X b tb) {pins : List (Addr × Obj)} {s : Shared} {σ : St} {H : Hp} {R : V → V → Hp → Prop} (I : Inv X pins σ H s)
    (h : ta σ H fun x H1 => tb σ H1 fun y H2 => R x y H2) {Q : Value → Shared → Prop} {f : Value → Value → Sem Value}
    (hf : ∀ v u s2 x y H2, Inv X pins σ H2 s2 → RelV x v → RelV y u → R x y H2 → wpAny (model X.prog X.w) X.A (f v u) Q X.xe s2) :
    wpAny (model X.prog X.w) X.A (eval a X.env) (fun v s₁ => wpAny (model X.prog X.w) X.A (eval b X.env) (fun u s₂ => wpAny (model X.prog X.w) X.A (f v u) Q X.xe s₂) X.xe s₁) X.xe s := by
  refine thn (ha pins s σ H _ I h) fun v s1 ⟨x, H1, I1, r1, q1⟩ => ?_
  refine thn (hb pins s1 σ H1 _ I1 q1) fun u s2 ⟨y, H2, I2, r2, q2⟩ => ?_
  exact hf v u s2 x y H2 I2 r1 r2 q2

theorem pe_op {op : Operator} {r : R2} (ho : OpR X (binaryOp op) r) (ha : PE X a ta) (hb : PE X b tb) : PE X (.BinOp a op b pos) (tOp r ta tb) := by
  intro pins s σ H Q I h
  exact wpAny_BinOp (binT ha hb I h fun v u s2 x y H2 I2 rx ry q => ho pins s2 σ H2 x y v u Q I2 rx ry q)
/-! ### ints -/
theorem opI {f : Value → Value → Sem Value} {C : Int → Int → Prop} {g : Int → Int → Int}
    (rule : ∀ (i j : Int) (t u : Tok) (s : Shared) (Q : Value → Shared → Prop) (E : Value → Shared → Prop), C i j → Q (.int (g i j) s.toks) { s with toks := s.toks + 1 } → wpAny (model X.prog X.w) X.A (f (.int i t) (.int j u)) Q E s) :
    OpR X f (rI C fun i j => .int (g i j)) := by
  intro pins s σ H x y v u Q I rx ry h
  obtain ⟨i, j, rfl, rfl, hc, q⟩ := h
  obtain ⟨t, rfl⟩ := rx
  obtain ⟨t', rfl⟩ := ry
  exact rule i j t t' s _ _ hc ⟨.int (g i j), H, I.tok _, ⟨_, rfl⟩, q⟩
theorem opI0 {f : Value → Value → Sem Value} {g : Int → Int → Int}
    (rule : ∀ (i j : Int) (t u : Tok) (s : Shared) (Q : Value → Shared → Prop) (E : Value → Shared → Prop), Q (.int (g i j) s.toks) { s with toks := s.toks + 1 } → wpAny (model X.prog X.w) X.A (f (.int i t) (.int j u)) Q E s) :
    OpR X f (rI0 fun i j => .int (g i j)) := by
  intro pins s σ H x y v u Q I rx ry h
  obtain ⟨i, j, rfl, rfl, q⟩ := h
  obtain ⟨t, rfl⟩ := rx
  obtain ⟨t', rfl⟩ := ry
  exact rule i j t t' s _ _ ⟨.int (g i j), H, I.tok _, ⟨_, rfl⟩, q⟩
theorem opB0 {f : Value → Value → Sem Value} {g : Int → Int → Bool}
    (rule : ∀ (i j : Int) (t u : Tok) (s : Shared) (Q : Value → Shared → Prop) (E : Value → Shared → Prop), Q (.bool (g i j)) s → wpAny (model X.prog X.w) X.A (f (.int i t) (.int j u)) Q E s) :
    OpR X f (rI0 fun i j => .bl (g i j)) := by
  intro pins s σ H x y v u Q I rx ry h
  obtain ⟨i, j, rfl, rfl, q⟩ := h
  obtain ⟨t, rfl⟩ := rx
  obtain ⟨t', rfl⟩ := ry
  exact rule i j t t' s _ _ ⟨.bl (g i j), H, I, rfl, q⟩

def CDiv (i j : Int) : Prop := 0 < j ∧ j < 1073741824
def CDivN (i j : Int) : Prop := j ≠ 0 ∧ j.natAbs < 1073741824
def CPow (i j : Int) : Prop := 0 ≤ j ∧ j ≤ 1000000 ∧ i.natAbs < 2 ^ 64
def CMul (i j : Int) : Prop := (-(2 ^ 64) < i ∧ i < 2 ^ 64) ∨ (-(2 ^ 64) < j ∧ j < 2 ^ 64)
theorem CMul.ok {i j : Int} (h : CMul i j) : IntMulOk i j := by
  rcases h with ⟨h1, h2⟩ | ⟨h1, h2⟩
  · exact .of_left (intBits_le_64 h1 h2)
  · exact .of_right (intBits_le_64 h1 h2)
theorem op_add : OpR X (binaryOp .Add) (rI0 fun i j => .int (i + j)) := opI0 fun _ _ _ _ _ _ _ q => add_int q
theorem op_mul : OpR X (binaryOp .Mult) (rI CMul fun i j => .int (i * j)) := opI fun _ _ _ _ _ _ _ hc q => mul_int q hc.ok
/-- // by a positive divisor -/
theorem op_fdiv : OpR X (binaryOp .FloorDiv) (rI CDiv fun i j => .int (i / j)) := opI fun i j _ _ _ _ _ hc q => by
  have h1 : (0 : Int) < j := hc.1
  have h2 : j < 1073741824 := hc.2
  exact floordiv_int (by omega) (by rw [Int.fdiv_eq_ediv_of_nonneg i (by omega)]; exact q) (.inl (PyProof.noPylong_small (by omega)))
/-- % by a positive divisor of any size -/
theorem op_mod : OpR X (binaryOp .Mod) (rI (fun _ j => 0 < j) fun i j => .int (i % j)) := opI fun i j _ _ _ _ _ hc q => by
  have h1 : (0 : Int) < j := hc
  exact mod_int' (by omega) (by rw [Int.fmod_eq_emod_of_nonneg i (by omega)]; exact q)
theorem op_pow : OpR X (binaryOp .Pow) (rI CPow fun i j => .int (i ^ j.toNat)) := opI fun _ _ _ _ _ _ _ hc q => pow_int_small hc.1 hc.2.1 hc.2.2 q
/-! ### bools among ints: n += (a < b) -/
end

/-! ### comparisons -/
/-- the scalars that == tells apart as data does -/
def scal : V → V → Bool
  | .non, .non => true | .non, .int _ => true | .int _, .non => true | .non, .bl _ => true | .bl _, .non => true | .non, .str _ => true | .str _, .non => true
  | .int _, .int _ => true | .bl _, .bl _ => true | .str _, .str _ => true | .byt _, .byt _ => true
  | .int _, .str _ => true | .str _, .int _ => true | .bl _, .str _ => true | .str _, .bl _ => true
  | _, _ => false
def rEq : R2 := fun x y H Q => scal x y = true ∧ Q (.bl (decide (x = y))) H
def rNe : R2 := fun x y H Q => scal x y = true ∧ Q (.bl (!decide (x = y))) H

theorem dec_int {i j : Int} : decide (V.int i = V.int j) = (i == j) := by
  rw [Bool.eq_iff_iff]
  simp
theorem dec_bl {i j : Bool} : decide (V.bl i = V.bl j) = (i == j) := by
  rw [Bool.eq_iff_iff]
  simp
theorem dec_str {i j : Str} : decide (V.str i = V.str j) = (i == j) := by
  rw [Bool.eq_iff_iff]
  simp
theorem dec_byt {i j : Array UInt8} : decide (V.byt i = V.byt j) = (i.toList == j.toList) := by
  rw [Bool.eq_iff_iff]
  cases i
  cases j
  simp

section
variable {X : Cx} {a b c : Expr} {ta tb tc : TE} {pos : Pos}
theorem fin_bl {pins : List (Addr × Obj)} {σ : St} {H : Hp} {s : Shared} {Q : VK} {k k' : Bool} (I : Inv X pins σ H s) (q : Q (.bl k) H) (e : k = k') : EP X pins σ Q (.bool k') s := by
  subst e
  exact ⟨.bl k, H, I, rfl, q⟩
theorem op_eq : OpR X (compareOp .Eq) rEq := by
  intro pins s σ H x y v u Q I rx ry h
  obtain ⟨hs, q⟩ := h
  cases x with
  | non =>
    cases rx
    cases y with
    | non => cases ry; exact PySem.EqNone.eq_none_none (fin_bl I q (by simp))
    | bl j => cases ry; exact PySem.EqNone.eq_none_bool (fin_bl I q (by simp))
    | int j => obtain ⟨t', rfl⟩ := ry; exact PySem.EqNone.eq_none_int (fin_bl I q (by simp))
    | str j => obtain ⟨t', rfl⟩ := ry; exact PySem.EqNone.eq_none_str (fin_bl I q (by simp))
    | _ => exact absurd (show false = true from hs) Bool.false_ne_true
  | bl i =>
    cases rx
    cases y with
    | non => cases ry; exact PySem.EqNone.eq_bool_none (fin_bl I q (by simp))
    | bl j => cases ry; exact eq_bool (fin_bl I q dec_bl)
    | str j => obtain ⟨t', rfl⟩ := ry; exact PySem.EqMixed.eq_bool_str (fin_bl I q (by simp))
    | _ => exact absurd (show false = true from hs) Bool.false_ne_true
  | int i =>
    obtain ⟨t, rfl⟩ := rx
    cases y with
    | non => cases ry; exact PySem.EqNone.eq_int_none (fin_bl I q (by simp))
    | int j => obtain ⟨t', rfl⟩ := ry; exact eq_int (fin_bl I q dec_int)
    | str j => obtain ⟨t', rfl⟩ := ry; exact PySem.EqMixed.eq_int_str (fin_bl I q (by simp))
    | _ => exact absurd (show false = true from hs) Bool.false_ne_true
  | str i =>
    obtain ⟨t, rfl⟩ := rx
    cases y with
    | non => cases ry; exact PySem.EqNone.eq_str_none (fin_bl I q (by simp))
    | bl j => cases ry; exact PySem.EqMixed.eq_str_bool (fin_bl I q (by simp))
    | int j => obtain ⟨t', rfl⟩ := ry; exact PySem.EqMixed.eq_str_int (fin_bl I q (by simp))
    | str j => obtain ⟨t', rfl⟩ := ry; exact eq_str (fin_bl I q dec_str)
    | _ => exact absurd (show false = true from hs) Bool.false_ne_true
  | byt i =>
    obtain ⟨t, rfl⟩ := rx
    cases y with
    | byt j => obtain ⟨t', rfl⟩ := ry; exact PySem.W.eq_bytes (fin_bl I q dec_byt)
    | _ => exact absurd (show false = true from hs) Bool.false_ne_true
  | _ => cases y <;> exact absurd (show false = true from hs) Bool.false_ne_true
theorem op_ne : OpR X (compareOp .NotEq) rNe := by
  intro pins s σ H x y v u Q I rx ry h
  obtain ⟨hs, q⟩ := h
  cases x with
  | non =>
    cases rx
    cases y with
    | non => cases ry; exact PySem.EqNone.ne_none_none (fin_bl I q (by simp))
    | bl j => cases ry; exact PySem.EqNone.ne_none_bool (fin_bl I q (by simp))
    | int j => obtain ⟨t', rfl⟩ := ry; exact PySem.EqNone.ne_none_int (fin_bl I q (by simp))
    | str j => obtain ⟨t', rfl⟩ := ry; exact PySem.EqNone.ne_none_str (fin_bl I q (by simp))
    | _ => exact absurd (show false = true from hs) Bool.false_ne_true
  | bl i =>
    cases rx
    cases y with
    | non => cases ry; exact PySem.EqNone.ne_bool_none (fin_bl I q (by simp))
    | bl j => cases ry; exact ne_bool (fin_bl I q (congrArg not dec_bl))
    | str j => obtain ⟨t', rfl⟩ := ry; exact PySem.EqMixed.ne_bool_str (fin_bl I q (by simp))
    | _ => exact absurd (show false = true from hs) Bool.false_ne_true
  | int i =>
    obtain ⟨t, rfl⟩ := rx
    cases y with
    | non => cases ry; exact PySem.EqNone.ne_int_none (fin_bl I q (by simp))
    | int j => obtain ⟨t', rfl⟩ := ry; exact ne_int (fin_bl I q (congrArg not dec_int))
    | str j => obtain ⟨t', rfl⟩ := ry; exact PySem.EqMixed.ne_int_str (fin_bl I q (by simp))
    | _ => exact absurd (show false = true from hs) Bool.false_ne_true
  | str i =>
    obtain ⟨t, rfl⟩ := rx
    cases y with
    | non => cases ry; exact PySem.EqNone.ne_str_none (fin_bl I q (by simp))
    | bl j => cases ry; exact PySem.EqMixed.ne_str_bool (fin_bl I q (by simp))
    | int j => obtain ⟨t', rfl⟩ := ry; exact PySem.EqMixed.ne_str_int (fin_bl I q (by simp))
    | str j => obtain ⟨t', rfl⟩ := ry; exact ne_str (fin_bl I q (congrArg not dec_str))
    | _ => exact absurd (show false = true from hs) Bool.false_ne_true
  | byt i =>
    obtain ⟨t, rfl⟩ := rx
    cases y with
    | byt j => obtain ⟨t', rfl⟩ := ry; exact PySem.W.ne_bytes (fin_bl I q (congrArg not dec_byt))
    | _ => exact absurd (show false = true from hs) Bool.false_ne_true
  | _ => cases y <;> exact absurd (show false = true from hs) Bool.false_ne_true

theorem op_lt : OpR X (compareOp .Lt) (rI0 fun i j => .bl (decide (i < j))) := opB0 fun _ _ _ _ _ _ _ q => lt_int q
theorem op_gt : OpR X (compareOp .Gt) (rI0 fun i j => .bl (decide (j < i))) := opB0 fun _ _ _ _ _ _ _ q => gt_int q
theorem op_ge : OpR X (compareOp .GtE) (rI0 fun i j => .bl (decide (j ≤ i))) := opB0 fun _ _ _ _ _ _ _ q => ge_int q
/-- is, is not of two objects that are tracked lists or instances -/
def isObj : HO → Bool
  | .lst _ => true
  | .ins _ _ _ => true
  | _ => false
theorem nomark (b : Expr) {op : CmpOp} (h : op ≠ .In := by decide) (h2 : op ≠ .NotIn := by decide) : behindInMarks op b = false := by
  have e1 : (op == CmpOp.In) = false := by cases op <;> first | rfl | exact absurd rfl h
  have e2 : (op == CmpOp.NotIn) = false := by cases op <;> first | rfl | exact absurd rfl h2
  cases b <;> simp [behindInMarks, e1, e2]
/-- a comparison as a value; hm: nomark b, or (for in, not in) by with_unfolding_all rfl -/
theorem pe_cmpR {op : CmpOp} {r : R2} (ho : OpR X (compareOp op) r) (ha : PE X a ta) (hb : PE X b tb) (hm : behindInMarks op b = false) : PE X (.Compare a [op] [b] pos) (tOp r ta tb) := by
  intro pins s σ H Q I h
  exact wpAny_Compare1 (binT ha hb I h fun v u s2 x y H2 I2 rx ry q => ho pins s2 σ H2 x y v u Q I2 rx ry q) hm
/-- a reading of a value as a test -/
def tTest (t : TE) : TT := fun σ H Q => t σ H fun x H' => ∃ k, x = .bl k ∧ Q k H'
theorem pt_cmpR {op : CmpOp} {r : R2} (ho : OpR X (compareOp op) r) (ha : PE X a ta) (hb : PE X b tb) (hm : behindInMarks op b = false) : PT X (.Compare a [op] [b] pos) (tTest (tOp r ta tb)) := by
  intro pins s σ H Q I h
  refine wpAny_isTrue_Compare1 (thn (ha pins s σ H _ I h) fun v s1 ⟨x, H1, I1, r1, q1⟩ => thn (hb pins s1 σ H1 _ I1 q1) fun u s2 ⟨y, H2, I2, r2, q2⟩ =>
    thn (ho pins s2 σ H2 x y v u _ I2 r1 r2 q2) fun c s3 ⟨z, H3, I3, r3, k, e, q3⟩ => ?_) hm
  subst e
  cases r3
  exact wpAny_truthy_bool ⟨H3, I3, q3⟩
/-- a op1 b op2 c -/
def tChain (r r' : R2) (ta tb tc : TE) : TE := fun σ H Q => ta σ H fun x H1 => tb σ H1 fun y H2 => r x y H2 fun z H3 => ∃ k, z = .bl k ∧
  (if k = true then tc σ H3 fun w' H4 => r' y w' H4 Q else Q (.bl false) H3)
/-! ### truth -/
/-- a value's truth by the abstract heap -/
def TruV (K : PySem.W.Frag) (x : V) (H : Hp) (k : Bool) : Prop :=
  match x with
  | .non => k = false
  | .bl b => k = b
  | .int i => k = (i != 0)
  | .str y => y.length ≤ sizeLine ∧ k = ((y.length : Int) != 0)
  | .byt y => y.size ≤ sizeLine ∧ k = ((y.size : Int) != 0)
  | .ref p => (∃ xs, SqL K H p xs ∧ k = !xs.isEmpty) ∨ (∃ xs, SqT K H p xs ∧ k = !xs.isEmpty) ∨ ∃ kvs, H p = some (.dK kvs) ∧ k = !kvs.isEmpty
  | _ => False
theorem line63 : (sizeLine : Nat) < 2 ^ 63 := by rw [sizeLine_eq]; decide
/-! ### strs and bytes -/
def PlainIxT (b : Expr) : Prop := ∀ o i, subscripted b false o i = operate [o, i] (getItem o i)
/-! ### scalar builtins, by CallR -/
theorem vals1 {x : V} {us : List Value} (r : Vals [x] us) : ∃ u, us = [u] ∧ RelV x u := by
  cases r with
  | cons r1 r2 => cases r2; exact ⟨_, rfl, r1⟩
theorem vals2 {x y : V} {us : List Value} (r : Vals [x, y] us) : ∃ u w', us = [u, w'] ∧ RelV x u ∧ RelV y w' := by
  cases r with
  | cons r1 r2 =>
    cases r2 with
    | cons r3 r4 => cases r4; exact ⟨_, _, rfl, r1, r3⟩
theorem call_abs : CallR X (.builtin "abs") (fun xs H Q => ∃ i, xs = [.int i] ∧ Q (.int (if i < 0 then -i else i)) H) := by
  intro pins s σ H xs us Q I r h
  obtain ⟨i, rfl, q⟩ := h
  obtain ⟨u, rfl, t, rfl⟩ := vals1 r
  exact call_abs_int fun u tk => ⟨.int (if i < 0 then -i else i), H, I.tok _, ⟨_, rfl⟩, q⟩
/-- len of a str, a bytes, a list, a tuple -/
def LenV (K : PySem.W.Frag) (x : V) (H : Hp) (n : Nat) : Prop :=
  match x with
  | .str y => y.length ≤ sizeLine ∧ n = y.length
  | .byt y => y.size ≤ sizeLine ∧ n = y.size
  | .ref p => (∃ xs, SqL K H p xs ∧ n = xs.length) ∨ ∃ xs, SqT K H p xs ∧ n = xs.length
  | _ => False
end
end L2

namespace L2
open PySem PySem.Spec PyProof.Rows

/-! ### an instance, its attributes a map -/
structure ObjM (h : Heap) (x dx C : Addr) (mA : Str → Option Value) : Prop where
  obj : h.get? x = some (PySem.W.instObj C dx)
  ns : h.Ns1 dx mA
  ne : dx ≠ x

theorem lookIn_ns {h : Heap} {dx : Addr} {mA : Str → Option Value} (n : h.Ns1 dx mA) : ∃ od, h.get? dx = some od ∧ ∀ name, PySem.W.lookIn name od = some (mA name) := by
  obtain ⟨o, es, ep, ho, hd, hk, _, hm⟩ := n
  refine ⟨o, ho, fun name => ?_⟩
  have e := hm name
  unfold nsFind findBy at e
  rw [← Array.find?_toList] at e
  unfold PySem.W.lookIn
  rw [hd]
  dsimp only
  split
  · rename_i y q
    rw [q] at e
    exact congrArg some e
  · rename_i q
    rw [q] at e
    have a : es.toList.any (·.refKey) = false := by
      rw [List.any_eq_false]
      intro y hy
      obtain ⟨z, t, hkey⟩ := hk y (Array.mem_toList_iff.mp hy)
      simp [DictEntry.refKey, hkey]
    have a' : ¬ es.toList.any (·.refKey) = true := by rw [a]; exact Bool.false_ne_true
    rw [if_neg a']
    exact congrArg some e

theorem ObjM.look {h : Heap} {x dx C : Addr} {mA : Str → Option Value} (I : ObjM h x dx C mA) : ∃ od, PySem.W.InstAt h x (PySem.W.instObj C dx) C (some od) ∧ ∀ name, PySem.W.lookIn name od = some (mA name) :=
  let ⟨od, ho, hl⟩ := lookIn_ns I.ns
  ⟨od, ⟨I.obj, rfl, rfl, ho⟩, hl⟩

section
variable {prog : Program} {w : World} {A : Around} {E : Value → Shared → Prop} {s : Shared} {K : PySem.W.Frag} {x dx C f : Addr} {mA : Str → Option Value} {name : Str} {v : Value}

end

/-! ### the attributes as a list of pairs -/
def putF (f : Str) (v : V) : List (Str × V) → List (Str × V)
  | [] => [(f, v)]
  | (g, x) :: r => if g = f then (g, v) :: r else (g, x) :: putF f v r
theorem RelO.some_of {v : V} {o : Option Value} (r : RelO (some v) o) : ∃ u, o = some u ∧ RelV v u := by
  cases o with
  | none => exact (show False from r).elim
  | some u => exact ⟨u, rfl, r⟩
theorem handed_of {v : V} {u : Value} (r : RelV v u) : PySem.W.handedIn u = true := by
  cases v with
  | non => cases (show u = Value.none from r); rfl
  | bl b => cases (show u = Value.bool b from r); rfl
  | int i => obtain ⟨t, e⟩ := (show ∃ t, u = Value.int i t from r); cases e; rfl
  | str x => obtain ⟨t, e⟩ := (show ∃ t, u = Value.str x t from r); cases e; rfl
  | byt b => obtain ⟨t, e⟩ := (show ∃ t, u = Value.bytes b t from r); cases e; rfl
  | flt b => obtain ⟨t, e⟩ := (show ∃ t, u = Value.float b t from r); cases e; rfl
  | ref a => cases (show u = Value.ref a from r); rfl
  | ty n => cases (show u = Value.type n from r); rfl

section
variable {P : Program} {w : World} {H H' : Hp} {h h' : Heap} {a C dx : Addr} {fs fs' : List (Str × V)}
theorem ins_get (hok : HOk P w H h) (e : H a = some (.ins C dx fs)) : ∃ mA, ObjM h a dx C mA ∧ (∀ f, RelO (fs.lookup f) (mA f)) ∧ PySem.Within mA (fs.map (·.1)) ∧ fs.length ≤ 1000 ∧ H dx = some (.own a) := by
  obtain ⟨d, z, ne, ob, mA, n, r, q⟩ := (show ObjOk P w H h a (.ins C dx fs) from hok a _ e)
  exact ⟨mA, ⟨ob, n, ne⟩, r, q, z, d⟩
end

/-! ### what of the text a class must have -/
structure Cls (K : PySem.W.Frag) (C : Addr) : Prop where
  pg : PySem.W.plainGet K C Str.empty = true
  hd : PySem.W.hasDictIn K C = true
  po : PySem.W.plainOver K C = true
  sa : PySem.W.findIn K (.ref C) "__setattr__" = some (some (.builtin "object.__setattr__"))
theorem Cls.get {K : PySem.W.Frag} {C : Addr} (c : Cls K C) (f : Str) : PySem.W.plainGet K C f = true := c.pg
/-- no class of it has the name -/
def NoAttr (K : PySem.W.Frag) (C : Addr) (f : Str) : Prop := PySem.W.findIn K (.ref C) f = some none
/-- a constant of the class -/
structure Con (K : PySem.W.Frag) (C : Addr) (f : Str) (v : V) (u : Value) : Prop where
  at_ : PySem.W.findIn K (.ref C) f = some (some u)
  rel : RelV v u
  get : PySem.W.specialIn K u "__get__" = some none
  cp : PySem.W.copiedNames.contains f = false
/-- a method: a plain def of the class or of one above it -/
structure Meth (K : PySem.W.Frag) (C : Addr) (m : Str) (f : Addr) : Prop where
  at_ : PySem.W.findIn K (.ref C) m = some (some (.ref f))
  fn : PySem.W.isFn K (.ref f) = true
  kp : PySem.W.keepIn K (.ref f) = true

section
variable {X : Cx} {pins : List (Addr × Obj)} {σ : St} {H : Hp} {s : Shared} {a C dx : Addr} {fs : List (Str × V)} {f : Str} {v : V} {A : Around} {E : Value → Shared → Prop}

/-- e.f where nothing but the object is asked: through attributeBase (super) and the last hold -/
theorem attr_of {prog : Program} {w : World} {env : Env} {e : Expr} {f : Str} {pos : Pos} {s : Shared} {Q : Value → Shared → Prop} (hb : attributeBase e f env (eval e env) = eval e env)
    (h : wpAny (model prog w) A (eval e env) (fun o s₁ => wpAny (model prog w) A (getAttr o f true) Q E s₁) E s) : wpAny (model prog w) A (eval (.Attribute e f pos) env) Q E s :=
  Attribute_any_ h (by rw [arm_eval_Attribute, hb])
end

/-! ### readings and rules -/
/-- e.f, an attribute of the instance -/
def tFld (K : PySem.W.Frag) (ta : TE) (f : Str) : TE := fun σ H Q => ta σ H fun x H1 => ∃ a C dx fs v, x = .ref a ∧ H1 a = some (.ins C dx fs) ∧ Cls K C ∧ NoAttr K C f ∧ fs.lookup f = some v ∧ Q v H1
/-- e.f, a constant of the class -/
def tCon (K : PySem.W.Frag) (ta : TE) (f : Str) : TE := fun σ H Q => ta σ H fun x H1 => ∃ a C dx fs v u, x = .ref a ∧ H1 a = some (.ins C dx fs) ∧ Cls K C ∧ Con K C f v u ∧ fs.lookup f = none ∧ Q v H1
/-- e.f = value -/
def sFld (K : PySem.W.Frag) (ta tv : TE) (f : Str) : TS := fun D σ H => tv σ H fun y H1 => ta σ H1 fun x H2 => ∃ a C dx fs, x = .ref a ∧ H2 a = some (.ins C dx fs) ∧ Cls K C ∧ NoAttr K C f ∧ fs.length < 1000 ∧
  D.nx σ (upd H2 a (.ins C dx (putF f y fs)))
/-- an augmented operator on two values -/
def InOp (X : Cx) (op : Operator) (rd : V → V → Hp → VK → Prop) : Prop :=
  ∀ (pins : List (Addr × Obj)) (s : Shared) (σ : St) (H : Hp) (x y : V) (u v : Value) (Q : VK), Inv X pins σ H s → RelV x u → RelV y v → rd x y H Q → wpAny (model X.prog X.w) X.A (inplaceOp op u v) (EP X pins σ Q) X.xe s
/-- e.f op= value -/
def sFldAug (K : PySem.W.Frag) (ta tv : TE) (rd : V → V → Hp → VK → Prop) (f : Str) : TS := fun D σ H => ta σ H fun x H1 => ∃ a C dx fs v, x = .ref a ∧ H1 a = some (.ins C dx fs) ∧ Cls K C ∧ NoAttr K C f ∧ fs.lookup f = some v ∧
  tv σ H1 fun y H2 => rd v y H2 fun z H3 => ∃ dx' fs', H3 a = some (.ins C dx' fs') ∧ fs'.length < 1000 ∧ D.nx σ (upd H3 a (.ins C dx' (putF f z fs')))

section
variable {X : Cx} {o e value : Expr} {f : Str} {pos pos' tpos : Pos} {ta tv : TE}
def rAdd : V → V → Hp → VK → Prop := fun x y H Q => ∃ i j, x = .int i ∧ y = .int j ∧ Q (.int (i + j)) H
def rSub : V → V → Hp → VK → Prop := fun x y H Q => ∃ i j, x = .int i ∧ y = .int j ∧ Q (.int (i - j)) H
end

/-! ### isinstance -/
section
variable {X : Cx} {pins : List (Addr × Obj)} {σ : St} {H : Hp} {s : Shared} {A : Around} {E : Value → Shared → Prop} {Q : Value → Shared → Prop} {c : Value} {b : Bool}
/-- the type of a value, as the fragment's deciders take it; for an instance its class -/
inductive TyOf (K : PySem.W.Frag) (H : Hp) : V → Value → Prop where
  | non : TyOf K H .non (.type "NoneType")
  | bl (x : Bool) : TyOf K H (.bl x) (.type "bool")
  | int (i : Int) : TyOf K H (.int i) (.type "int")
  | str (x : Str) : TyOf K H (.str x) (.type "str")
  | flt (x : UInt64) : TyOf K H (.flt x) (.type "float")
  | lst {a : Addr} {xs : List V} (e : H a = some (.lst xs)) : TyOf K H (.ref a) (.type "list")
  | frz {a : Addr} {o : Obj} {xs : List V} (e : H a = some (.frz o (.lst xs))) : TyOf K H (.ref a) (.type "list")
  | tup {a : Addr} {xs : List V} (e : H a = some (.tup xs)) : TyOf K H (.ref a) (.type "tuple")
  | dK {a : Addr} {kvs : List (Key × V)} (e : H a = some (.dK kvs)) : TyOf K H (.ref a) (.type "dict")
  | dT {a : Addr} {kvs : List (List Key × V)} (e : H a = some (.dT kvs)) : TyOf K H (.ref a) (.type "dict")
  | ins {a C dx : Addr} {fs : List (Str × V)} (e : H a = some (.ins C dx fs)) (cl : Cls K C) (ha : PySem.W.findIn K (.ref C) "__class__" = some (some (.builtin "object.__class__")))
      (hn : PySem.W.specialIn K (.builtin "object.__class__") "__get__" = some (some (.builtin "getset_descriptor.__get__"))) (htk : PySem.W.takesIn K (.builtin "object.__class__") = some true)
      (hm : PySem.W.mroIn K C (.type "object") = some true) : TyOf K H (.ref a) (.ref C)
/-- isinstance(x, c) for one class c, a built-in or an own one: kitOne's answer -/
theorem isinst_ok {x : V} {u t : Value} (I : Inv X pins σ H s) (rx : RelV x u) (ty : TyOf X.K H x t) (e : PySem.W.kitOne X.K t c = some b) (h : ∀ tk, Q (.bool b) { s with toks := tk }) :
    wpAny (model X.prog X.w) A (call (.builtin "isinstance") [u, c]) Q E s := by
  cases ty with
  | non => cases (show u = Value.none from rx); exact PySem.W.kia_one PySem.W.kitx_none I.kIn True.intro e (fun z => nomatch z) h
  | bl y => cases (show u = Value.bool y from rx); exact PySem.W.kia_one PySem.W.kitx_bool I.kIn True.intro e (fun z => nomatch z) h
  | int i => obtain ⟨t, q⟩ := (show ∃ t, u = Value.int i t from rx); cases q; exact PySem.W.kia_one PySem.W.kitx_int I.kIn True.intro e (fun z => nomatch z) h
  | str y => obtain ⟨t, q⟩ := (show ∃ t, u = Value.str y t from rx); cases q; exact PySem.W.kia_one PySem.W.kitx_str I.kIn True.intro e (fun z => nomatch z) h
  | flt y => obtain ⟨t, q⟩ := (show ∃ t, u = Value.float y t from rx); cases q; exact PySem.W.kia_one PySem.W.kitx_float I.kIn True.intro e (fun z => nomatch z) h
  | @lst a xs ea =>
    cases (show u = Value.ref a from rx)
    obtain ⟨_, _, n, _, h1⟩ := (show ObjOk X.prog X.w H s.heap a (.lst xs) from I.hok a _ ea)
    exact PySem.W.kia_one PySem.W.kitx_list I.kIn ⟨_, h1, rfl⟩ e (fun z => nomatch z) h
  | @frz a ob xs ea =>
    cases (show u = Value.ref a from rx)
    obtain ⟨_, _, _, n, _, h1⟩ := (show ObjOk X.prog X.w H s.heap a (.frz ob (.lst xs)) from I.hok a _ ea)
    exact PySem.W.kia_one PySem.W.kitx_list I.kIn ⟨_, h1, rfl⟩ e (fun z => nomatch z) h
  | @tup a xs ea =>
    cases (show u = Value.ref a from rx)
    obtain ⟨_, _, _, p⟩ := (show ObjOk X.prog X.w H s.heap a (.tup xs) from I.hok a _ ea)
    obtain ⟨o, h1, h2, _⟩ := p
    exact PySem.W.kia_one PySem.W.kitx_tuple I.kIn ⟨o, h1, h2⟩ e (fun z => nomatch z) h
  | @dK a kvs ea =>
    cases (show u = Value.ref a from rx)
    obtain ⟨_, _, vs, _, p⟩ := (show ObjOk X.prog X.w H s.heap a (.dK kvs) from I.hok a _ ea)
    obtain ⟨o, es, ep, h1, h2, _⟩ := p
    exact PySem.W.kia_one PySem.W.kitx_dict I.kIn ⟨o, h1, h2.1⟩ e (fun z => nomatch z) h
  | @dT a kvs ea =>
    cases (show u = Value.ref a from rx)
    obtain ⟨_, _, xs, _, o, es, ep, h1, h2, _⟩ := (show ObjOk X.prog X.w H s.heap a (.dT kvs) from I.hok a _ ea)
    exact PySem.W.kia_one PySem.W.kitx_dict I.kIn ⟨o, h1, h2.1⟩ e (fun z => nomatch z) h
  | @ins a C dx fs ea cl ha hn htk hm =>
    cases (show u = Value.ref a from rx)
    obtain ⟨mA, O, _⟩ := ins_get I.hok ea
    obtain ⟨od, J, _⟩ := O.look
    exact PySem.W.kia_one (PySem.W.kitx_own (cl.get _) cl.hd ha hn htk hm) I.kIn J e (fun z => nomatch z) h
end
end L2

namespace L2
open PySem PySem.Spec PyProof.Rows

/-! ### room -/
structure Room (k : Nat) (A : Around) : Prop where
  hd : A.handled = none
  dp : A.depth + 3 * k + 5 < recursionLimit
  un : A.units + 16 * k + 200 < cLine
theorem Room.mono {j k : Nat} {A : Around} (r : Room k A) (h : j ≤ k) : Room j A := ⟨r.hd, by have := r.dp; omega, by have := r.un; omega⟩
theorem Room.deeper {k : Nat} {A : Around} (r : Room (k + 1) A) (env : Env) : Room k (A.deeper env) :=
  ⟨r.hd, by have := r.dp; show A.depth + 1 + 3 * k + 5 < _; omega, by have := r.un; show A.units + 3 + 16 * k + 200 < _; omega⟩
theorem make_depth {A : Around} {C : Addr} {us : List Value} {kw : List (Str × Value)} : (A.under (.builtin "type.__call__" ⟨.ref C :: us, kw⟩)).depth = A.depth + 1 := by
  first | rfl | simp [Around.under, Code.weight, Code.isCreation, Code.isGuard, Code.isCaller, Code.frames, Code.isFrame, guardIds]
theorem make_units {A : Around} {C : Addr} {us : List Value} {kw : List (Str × Value)} : (A.under (.builtin "type.__call__" ⟨.ref C :: us, kw⟩)).units = A.units + 1 := by
  first | rfl | simp [Around.under, Code.cUnits, Code.frames, Code.isFrame]
theorem Room.make {k : Nat} {A : Around} (r : Room (k + 1) A) (C : Addr) (us : List Value) (kw : List (Str × Value)) : Room k (A.under (.builtin "type.__call__" ⟨.ref C :: us, kw⟩)) :=
  ⟨r.hd, by have := r.dp; rw [make_depth]; omega, by have := r.un; rw [make_units]; omega⟩
theorem Room.depth {k : Nat} {A : Around} (r : Room k A) : A.depth < recursionLimit := by have := r.dp; omega
theorem Room.units0 {k : Nat} {A : Around} (r : Room k A) : A.units < cLine := by have := r.un; omega

/-! ### argument lists and displays -/
def tNil : TA := fun _ H Q => Q [] H
def tCons (ta : TE) (tr : TA) : TA := fun σ H Q => ta σ H fun x H1 => tr σ H1 fun xs H2 => Q (x :: xs) H2
section
variable {X : Cx} {e : Expr} {es : List Expr} {te : TE} {t : TA} {pos : Pos}
theorem pa_nil : PA X [] tNil := fun _ _ _ _ H Q I h => Calls.spliced_nil ⟨[], H, I, .nil, h⟩
theorem pa_cons (ha : PE X e te) (hr : PA X es t) (hs : starEach (e :: es) X.env = (false, eval e X.env) :: starEach es X.env := by rfl) : PA X (e :: es) (tCons te t) := by
  intro pos pins s σ H Q I h
  rw [hs]
  show wpAny _ _ (spliced ((false, eval e X.env) :: backTo pos (starEach es X.env))) _ _ s
  refine Calls.spliced_cons (thn (ha pins s σ H _ I h) fun u s1 ⟨x, H1, I1, r1, q1⟩ => ?_)
  exact thn (hr pos pins s1 σ H1 _ I1 q1) fun us s2 ⟨xs, H2, I2, r2, q2⟩ => ⟨x :: xs, H2, I2, .cons r1 r2, q2⟩

/-- a tuple, a list of written items -/
def tTup (t : TA) : TE := fun σ H Q => t σ H fun xs H1 => xs.length ≤ sizeLine ∧ ∀ p, H1 p = none → Q (.ref p) (upd H1 p (.tup xs))
def tLst (t : TA) : TE := fun σ H Q => t σ H fun xs H1 => xs.length ≤ sizeLine ∧ ∀ p, H1 p = none → Q (.ref p) (upd H1 p (.lst xs))
theorem pe_tup {x1} (h : PA X es t) : PE X (.Tuple es x1 pos) (tTup t) := by
  intro pins s σ H Q I hq
  refine wpAny_Tuple_spliced (thn (h pos pins s σ H _ I hq) fun us s1 ⟨xs, H1, I1, r, z, q⟩ => ⟨by rw [← r.length]; exact z, ?_⟩)
  have hf : H1 s1.heap.objs.size = none := I1.hok.fresh (Nat.le_refl _)
  refine ⟨.ref s1.heap.objs.size, upd H1 s1.heap.objs.size (.tup xs), I1.laid (t' := s1.toks) (fun b u e => Heap.get?_push_of_some _ e) (Nat.le_refl _) ?_, rfl, q _ hf⟩
  exact ⟨z, us, r, ⟨_, Heap.get?_push_size _ rfl, rfl, _, rfl⟩⟩
theorem pe_lst (h : PA X es t) : PE X (.List es pos) (tLst t) := by
  intro pins s σ H Q I hq
  refine wpAny_List_spliced (thn (h pos pins s σ H _ I hq) fun us s1 ⟨xs, H1, I1, r, z, q⟩ => ⟨by rw [← r.length]; exact z, ?_⟩)
  have hf : H1 s1.heap.objs.size = none := I1.hok.fresh (Nat.le_refl _)
  refine ⟨.ref s1.heap.objs.size, upd H1 s1.heap.objs.size (.lst xs), I1.laid (t' := s1.toks) (fun b u e => Heap.get?_push_of_some _ e) (Nat.le_refl _) ?_, rfl, q _ hf⟩
  exact ⟨z, us, 0, r, Heap.get?_push_size _ rfl⟩
end

/-! ### what a def promises -/
/-- a def's promise: the bound arguments in the parameters' order, the heap, the wanted end, the wanted exception -/
abbrev Sp := List V → Hp → VK → XK → Prop
/-- how an exception lies behind a call (file 08 gives it): the callers' frames, abstract heap and state ahead of the call, the wish, the exception, the state -/
abbrev CXT := List Env → Hp → Shared → XK → Value → Shared → Prop

/-- the state at a call -/
structure Env0 (P : Program) (w : World) (K : PySem.W.Frag) (mg : Str → Option Value) (base : Heap) (A : Around) (outer : List Env) (s : Shared) (H : Hp) : Prop where
  frames : A.frames = some outer
  mod : Mod K mg base
  bs : ∀ b o, base.get? b = some o → s.heap.get? b = some o ∧ H b = none
  bsz : base.objs.size ≤ s.heap.objs.size
  funs : s.heap.FunFrames base outer
  frf : ∀ b ∈ frs outer, H b = none
  hok : HOk P w H s.heap
  bare : AllBare s.gens
/-- a call's end -/
def CE (outer : List Env) (P : Program) (w : World) (H : Hp) (s : Shared) (Q : VK) (u : Value) (s' : Shared) : Prop :=
  ∃ v H', s'.os = s.os ∧ AllBare s'.gens ∧ Un (frs outer) [] H H' s.heap s'.heap ∧ HOk P w H' s'.heap ∧ RelV v u ∧ Q v H'
def CR (CX : CXT) (outer : List Env) (P : Program) (w : World) (H : Hp) (s : Shared) (Q : VK) (E : XK) (r : Result) (s' : Shared) : Prop :=
  match r with
  | .ok (.ret u) => CE outer P w H s Q u s'
  | .ok _ => False
  | .error e => CX outer H s E e s'
structure FnOk (P : Program) (w : World) (K : PySem.W.Frag) (mg : Str → Option Value) (base : Heap) (CX : CXT) (k : Nat) (f : Addr) (fd : FuncData) (ps : List Str) (sp : Sp) : Prop where
  len : ∀ vs H Q E, sp vs H Q E → vs.length = ps.length
  run : ∀ (A : Around) (outer : List Env) (s : Shared) (H : Hp) (args : Args) (us : List Value) (vs : List V) (Q : VK) (E : XK), Room k A → Env0 P w K mg base A outer s H → BindsTo s fd args (ps.zip us) → Vals vs us → sp vs H Q E →
    codeAny (model P w) A (.call (.ref f) args) (CR CX outer P w H s Q E) s
theorem Env0.make {P : Program} {w : World} {K : PySem.W.Frag} {mg : Str → Option Value} {base : Heap} {A : Around} {outer : List Env} {s : Shared} {H : Hp} (e : Env0 P w K mg base A outer s H) (C : Addr) (us : List Value) (kw : List (Str × Value)) :
    Env0 P w K mg base (A.under (.builtin "type.__call__" ⟨.ref C :: us, kw⟩)) outer s H := ⟨by first | exact e.frames | (simpa [Around.under, Code.envs, Code.isFrame, pushEnvs] using e.frames), e.mod, e.bs, e.bsz, e.funs, e.frf, e.hok, e.bare⟩
section
variable {X : Cx} {pins : List (Addr × Obj)} {σ : St} {H : Hp} {s s' : Shared}
/-- from a body: what a callee wants -/
theorem Inv.env0 (I : Inv X pins σ H s) : Env0 X.prog X.w X.K X.mg X.base X.A X.stack s H :=
  ⟨I.ok.frames, I.ok.mod, I.bs, Nat.le_trans I.ok.bsz I.sz, I.stack, I.stkFree, I.hok, I.bare⟩
/-- behind a call -/
theorem Inv.after {Q : VK} {u : Value} (I : Inv X pins σ H s) (h : CE X.stack X.prog X.w H s Q u s') : EP X pins σ Q u s' := by
  obtain ⟨v, H', os, bare, un, hok, r, q⟩ := h
  obtain ⟨hh, g, d, t, os'⟩ := s'
  obtain rfl : os' = s.os := os
  exact ⟨v, H', I.call (h' := hh) (g' := g) (d' := d) (t' := t) (ch := []) un hok bare (fun b z => absurd z (by simp)), r, q⟩
end

/-! ### calls -/
/-- f(..): the written arguments, then the defaults dvs; E: what is wanted of an exception -/
def tCall (sp : Sp) (dvs : List V) (E : XK) (t : TA) : TE := fun σ H Q => t σ H fun vs H1 => sp (vs ++ dvs) H1 Q E
/-- o.m(..) of an instance of the class at C -/
def tMeth (C : Addr) (m : Str) (sp : Sp) (dvs : List V) (E : XK) (ta : TE) (t : TA) : TE := fun σ H Q => ta σ H fun x H1 => ∃ a dx fs, x = .ref a ∧ H1 a = some (.ins C dx fs) ∧ fs.lookup m = none ∧
  t σ H1 fun vs H2 => sp (x :: (vs ++ dvs)) H2 Q E
/-- C(..): a new instance and its dict, then __init__ -/
def tMake (C : Addr) (sp : Sp) (dvs : List V) (E : XK) (t : TA) : TE := fun σ H Q => t σ H fun vs H1 => ∀ x dx, H1 x = none → H1 dx = none → dx ≠ x →
  sp (.ref x :: (vs ++ dvs)) (upd (upd H1 dx (.own x)) x (.ins C dx [])) (fun v H2 => v = .non ∧ Q (.ref x) H2) E

/-- how the parameters are bound: us the positional arguments, kw the keywords' values by name, ds the defaults that fill up -/
def Binds (K : PySem.W.Frag) (fd : FuncData) (ps : List Str) (ds : List Value) : Prop :=
  ∀ (s : Shared) (us : List Value), K.In s.heap → (us ++ ds).length = ps.length → BindsTo s fd ⟨us, []⟩ (ps.zip (us ++ ds))
/-- every parameter is given -/
theorem Binds.all {K : PySem.W.Frag} {fd : FuncData} {ps : List Str} (h : ∀ us : List Value, us.length = ps.length → bindArgs fd ⟨us, []⟩ = pure (ps.zip us)) : Binds K fd ps [] := fun s us _ hl => by
  rw [List.append_nil] at hl ⊢
  exact .of_eq (h us hl)

/-- an exception of a callee reaches what this body wants of exceptions -/
def Passes (CX : CXT) (X : Cx) (E : XK) : Prop := ∀ (pins : List (Addr × Obj)) (σ : St) (H : Hp) (s : Shared) (e : Value) (s' : Shared), Inv X pins σ H s → CX X.stack H s E e s' → X.xe e s'

section
variable {X : Cx} {CX : CXT} {k : Nat} {f C : Addr} {fd : FuncData} {ps : List Str} {sp : Sp} {dvs : List V} {ds : List Value} {E : XK} {x m : Str} {p pos apos : Pos} {e o : Expr} {es : List Expr} {ta : TE} {t : TA}

/-- the callee runs -/
theorem run_fn {pins : List (Addr × Obj)} {σ : St} {H : Hp} {s : Shared} {Q : VK} {us : List Value} {vs : List V} (F : FnOk X.prog X.w X.K X.mg X.base CX k f fd ps sp) (hr : Room k X.A) (hb : Binds X.K fd ps ds) (hd : Vals dvs ds) (hx : Passes CX X E)
    (I : Inv X pins σ H s) (r : Vals vs us) (h : sp (vs ++ dvs) H Q E) : wpAny (model X.prog X.w) X.A (call (.ref f) us) (EP X pins σ Q) X.xe s := by
  have r2 : Vals (vs ++ dvs) (us ++ ds) := r.append hd
  have hl : (us ++ ds).length = ps.length := by rw [← r2.length]; exact F.len _ _ _ _ h
  refine wpAny_call (codeAny_mono (F.run X.A X.stack s H ⟨us, []⟩ (us ++ ds) (vs ++ dvs) Q E hr I.env0 (hb s us I.kIn hl) r2 h) fun r s' hq => ?_)
  cases r with
  | error e => exact hx pins σ H s e s' I hq
  | ok fl =>
    cases fl with
    | ret u => exact I.after hq
    | next => exact False.elim hq
    | brk => exact False.elim hq
    | cont => exact False.elim hq

theorem pe_call (F : FnOk X.prog X.w X.K X.mg X.base CX k f fd ps sp) (hr : Room k X.A) (hg : Gl X x) (hm : X.mg x = some (.ref f)) (hk : PySem.W.keepIn X.K (.ref f) = true) (hb : Binds X.K fd ps ds) (hd : Vals dvs ds) (hx : Passes CX X E)
    (ha : PA X (e :: es) t) (hdb : (x == ("__debug__" : Str)) = false := by decide) (he : starEach (e :: es) X.env = (false, eval e X.env) :: starEach es X.env := by rfl) (hpl : (backTo pos (starEach es X.env)).any (·.1) = false := by rfl) :
    PE X (.Call (.Name x p) (e :: es) [] pos) (tCall sp dvs E t) := by
  intro pins s σ H Q I h
  refine wpAny_Call_Name_kw (ld_glob I hg hm ?_ hdb)
  refine PySem.W.callWith_K (h₀ := X.base) I.ok.mod.kin hk (thn (ha pos pins s σ H _ I h) fun us s1 ⟨vs, H1, I1, r, q⟩ => ⟨I1.kIn, ?_⟩) he hpl
  exact run_fn F hr hb hd hx I1 r q
/-- what a class must have to be made -/
structure Mk (K : PySem.W.Frag) (C f : Addr) : Prop where
  makes : PySem.W.makesIn K C = true
  init : PySem.W.findIn K (.ref C) "__init__" = some (some (.ref f))
  fn : PySem.W.isFn K (.ref f) = true
  kp : PySem.W.keepIn K (.ref C) = true

end

/-! ### keywords -/
/-- the values of the keywords, from the left -/
def PK (X : Cx) (kws : List Keyword) (t : TA) : Prop :=
  ∀ (pos : Pos) (pins : List (Addr × Obj)) (s : Shared) (σ : St) (H : Hp) (Q : List V → Hp → Prop), Inv X pins σ H s → t σ H Q → wpAny (model X.prog X.w) X.A (evalAll ((backToKw pos (keywordEach kws X.env)).map (·.2))) (AP X pins σ Q) X.xe s
section
variable {X : Cx} {CX : CXT} {k : Nat} {f C : Addr} {fd : FuncData} {ps ks : List Str} {sp : Sp} {E : XK} {x m : Str} {p pos apos kpos : Pos} {e o : Expr} {es : List Expr} {kws : List Keyword} {te ta : TE} {t tk : TA} {nm : Option Str}
/-- how a call with keywords binds: g puts the positional values us and the keywords' values ws (names ks) in the parameters' order, defaults among them -/
structure KBinds (K : PySem.W.Frag) (fd : FuncData) (ps ks : List Str) (g : List Value → List Value → List Value) (gV : List V → List V → List V) : Prop where
  to : ∀ (s : Shared) (us ws : List Value), K.In s.heap → (g us ws).length = ps.length → BindsTo s fd ⟨us, ks.zip ws⟩ (ps.zip (g us ws))
  rel : ∀ {vs : List V} {us : List Value} {zs : List V} {ws : List Value}, Vals vs us → Vals zs ws → Vals (gV vs zs) (g us ws)
def tCallK (sp : Sp) (gV : List V → List V → List V) (E : XK) (t tk : TA) : TE := fun σ H Q => t σ H fun vs H1 => tk σ H1 fun zs H2 => sp (gV vs zs) H2 Q E
variable {g : List Value → List Value → List Value} {gV : List V → List V → List V}
end

/-! ### a def's body keeps its promise -/
/-- names: the parameters first -/
structure FnScope (N P : List Str) (sc : Scope) : Prop where
  kind : sc.kind = .function
  co : sc.isCoroutine = false
  gen : sc.isGenerator = false
  nd : N.Nodup
  pre : N.take P.length = P
  par : ∀ x ∈ P, sc.names.lookup x = some .local ∨ sc.names.lookup x = some .cell
  nofree : ∀ y ∈ sc.names, y.2 ≠ .free

theorem bindL_out {kindOf : Str → Option NameKind} {x : Str} : ∀ {binds : List (Str × Value)} {m : Str → Option Value}, (∀ v, (x, v) ∉ binds) → bindL kindOf binds m x = m x
  | [], _, _ => rfl
  | (n, v) :: r, m, h => by
    unfold bindL
    rw [bindL_out fun w hw => h w (List.mem_cons_of_mem _ hw)]
    split
    · have : x ≠ n := by rintro rfl; exact h v List.mem_cons_self
      simp [this]
    · rfl
theorem bindC_out {kindOf : Str → Option NameKind} {x : Str} : ∀ {binds : List (Str × Value)} {m : Str → Option Value}, (∀ v, (x, v) ∉ binds) → bindC kindOf binds m x = m x
  | [], _, _ => rfl
  | (n, v) :: r, m, h => by
    unfold bindC
    rw [bindC_out fun w hw => h w (List.mem_cons_of_mem _ hw)]
    split
    · rfl
    · have : x ≠ n := by rintro rfl; exact h v List.mem_cons_self
      simp [this]
theorem bindL_get {kindOf : Str → Option NameKind} {x : Str} {v : Value} : ∀ {P : List Str} {vs : List Value} {i : Nat} {m : Str → Option Value}, P.Nodup → P[i]? = some x → vs[i]? = some v → kindOf x = some .local →
    bindL kindOf (P.zip vs) m x = some v
  | [], _, _, _, _, h, _, _ => by simp at h
  | _ :: _, [], _, _, _, _, h, _ => by simp at h
  | p :: P, w :: vs, 0, m, nd, h1, h2, hk => by
    simp at h1 h2; subst h1; subst h2
    show bindL kindOf ((p, w) :: P.zip vs) m p = _
    unfold bindL
    rw [bindL_out fun v hv => (List.nodup_cons.mp nd).1 (List.of_mem_zip hv).1, if_pos hk]
    simp
  | p :: P, w :: vs, i + 1, m, nd, h1, h2, hk => by
    show bindL kindOf ((p, w) :: P.zip vs) m x = _
    unfold bindL
    exact bindL_get (i := i) (List.nodup_cons.mp nd).2 (by simpa using h1) (by simpa using h2) hk
theorem bindC_get {kindOf : Str → Option NameKind} {x : Str} {v : Value} : ∀ {P : List Str} {vs : List Value} {i : Nat} {m : Str → Option Value}, P.Nodup → P[i]? = some x → vs[i]? = some v → kindOf x ≠ some .local →
    bindC kindOf (P.zip vs) m x = some v
  | [], _, _, _, _, h, _, _ => by simp at h
  | _ :: _, [], _, _, _, _, h, _ => by simp at h
  | p :: P, w :: vs, 0, m, nd, h1, h2, hk => by
    simp at h1 h2; subst h1; subst h2
    show bindC kindOf ((p, w) :: P.zip vs) m p = _
    unfold bindC
    rw [bindC_out fun v hv => (List.nodup_cons.mp nd).1 (List.of_mem_zip hv).1, if_neg hk]
    simp
  | p :: P, w :: vs, i + 1, m, nd, h1, h2, hk => by
    show bindC kindOf ((p, w) :: P.zip vs) m x = _
    unfold bindC
    exact bindC_get (i := i) (List.nodup_cons.mp nd).2 (by simpa using h1) (by simpa using h2) hk

/-- the names' values at the entry -/
def start (N : List Str) (vs : List V) : St := vs.map some ++ List.replicate (N.length - vs.length) none

/-- the context of a def's body, at its entry; an exception leaves the frame, then lies as CX says -/
def cxOf (CX : CXT) (P : Program) (w : World) (K : PySem.W.Frag) (mg : Str → Option Value) (base : Heap) (N : List Str) (qual : Str) (scope : Scope) (f : Addr) (cd : Value) (A : Around) (outer : List Env) (s : Shared) (H : Hp) (E : XK) : Cx where
  prog := P
  w := w
  K := K
  mg := mg
  base := base
  A := A.deeper (envOfC qual scope s.heap.objs.size f cd)
  N := N
  s₀ := s
  H₀ := H
  env := envOfC qual scope s.heap.objs.size f cd
  outer := outer
  stack := envOfC qual scope s.heap.objs.size f cd :: outer
  ex := []
  calm := true
  fn := fun _ => true
  pn := []
  xe := fun e s' => wpAny (model P w) (A.deeper (envOfC qual scope s.heap.objs.size f cd)) (leaving (envOfC qual scope s.heap.objs.size f cd) e) (fun _ s'' => CX outer H s E e s'') (fun e' s'' => CX outer H s E e' s'') s'

theorem cell_has {sc : Scope} {n : Nat} {x : Str} (h : sc.names.lookup x = some .cell) : ∃ c, (cellsFrom n sc.names []).lookup x = some c := by
  have q := PySem.W.cellsFrom_some sc.names n [] (.inl h)
  exact Option.isSome_iff_exists.mp q

theorem inv_start {CX : CXT} {P : Program} {w : World} {K : PySem.W.Frag} {mg : Str → Option Value} {base : Heap} {N ps : List Str} {qual : Str} {scope : Scope} {f : Addr} {cd : Value} {A : Around} {outer : List Env} {s s1 : Shared} {H : Hp} {E : XK} {us : List Value} {vs : List V}
    (S : FnScope N ps scope) (hd : A.handled = none) (e0 : Env0 P w K mg base A outer s H) (hl : vs.length = ps.length) (r : Vals vs us)
    (x : InCallC s s.heap.objs.size (bindL (envOfC qual scope s.heap.objs.size f cd).kindOf (ps.zip us) fun _ => none) (cellsFrom (s.heap.objs.size + 1) scope.names []) (bindC (envOfC qual scope s.heap.objs.size f cd).kindOf (ps.zip us) fun _ => none) s1) :
    Inv (cxOf CX P w K mg base N qual scope f cd A outer s H E) [] (start N vs) H s1 := by
  have hpl : ps.length ≤ N.length := by have := congrArg List.length S.pre; rw [List.length_take] at this; omega
  obtain ⟨h1, tk, rfl, hk⟩ := x.done
  have noA : ∀ b : Addr, b ∉ (cxOf CX P w K mg base N qual scope f cd A outer s H E).ex := fun b z => absurd (show b ∈ ([] : List Addr) from z) (by simp)
  refine ⟨⟨e0.mod, S.kind, rfl, rfl, Nat.le_refl _, fun y z c h1 h2 => ?_, fun y hy => ?_, fun y c _ h => ?_, fun _ => hd, Around.frames_deeper e0.frames, .inr ⟨rfl, rfl⟩, fun b z => absurd z (noA b), e0.bs, e0.bsz, fun b _ _ => noA b, fun b z => absurd z (noA b), e0.funs, e0.frf⟩,
    rfl, e0.bare, Un.kept hk, ⟨_, x.toInCall.ns, fun i y v h1 h2 h3 => ?_⟩, fun y c h => ⟨_, x.cell y c h⟩, e0.hok.fresh (Nat.le_refl _), fun y c h => ?_, fun p hp => absurd (show p ∈ ([] : List (Addr × Obj)) from hp) (by simp), e0.hok.kept hk, ?_⟩
  · exact name_of_addr x.apart (PySem.mem_of_lookup h1) (PySem.mem_of_lookup h2)
  · have hy : scope.names.lookup y = some .cell ∨ scope.names.lookup y = some .free := hy
    rcases hy with hy | hy
    · exact cell_has hy
    · exact absurd rfl (S.nofree _ (PySem.mem_of_lookup hy))
  · exact Nat.le_of_lt (x.above y c (PySem.mem_of_lookup h))
  · have hi : i < vs.length := by
      unfold start at h2
      by_cases hi : i < vs.length
      · exact hi
      · rw [List.getElem?_append_right (by simpa using hi)] at h2
        rw [List.getElem?_replicate] at h2
        split at h2 <;> cases h2
    have ha : vs[i]? = some v := by
      unfold start at h2
      rw [List.getElem?_append_left (by simpa using hi), List.getElem?_map] at h2
      cases e : vs[i]? with
      | none => rw [e] at h2; cases h2
      | some a => rw [e] at h2; cases h2; rfl
    obtain ⟨u, hu, rv⟩ := r.get ha
    have hp : ps[i]? = some y := by
      rw [← S.pre, List.getElem?_take_of_lt (by omega)]; exact h1
    have ndP : ps.Nodup := by rw [← S.pre]; exact S.nd.sublist (List.take_sublist _ _)
    refine ⟨u, rv, ?_⟩
    rcases S.par y (List.mem_of_getElem? hp) with k | k
    · exact .inl ⟨k, bindL_get ndP hp hu k⟩
    · obtain ⟨c, e⟩ := cell_has (n := s.heap.objs.size + 1) k
      refine .inr ⟨.inl k, c, e, ?_⟩
      have q := x.cell y c e
      rw [bindC_get ndP hp hu (by show scope.names.lookup y ≠ _; rw [k]; decide)] at q
      exact q
  · exact e0.hok.fresh (Nat.le_of_lt (x.above y c (PySem.mem_of_lookup h)))
  · unfold start
    show _ = N.length
    rw [List.length_append, List.length_map, List.length_replicate]
    omega

/-- THE RULE: a def (or a method) of the text, by its body. The body's reading t is chosen for each entry; it is run at the parameters' values -/
theorem fn_of {CX : CXT} {P : Program} {w : World} {K : PySem.W.Frag} {mg : Str → Option Value} {base : Heap} {k : Nat} {f : Addr} {name qual : Str} {params : Arguments} {body : List Stmt} {scope : Scope} {dV kV doc pm cdv ct oc : Value} {an od : Option Addr}
    {osl : Array (Option Value)} {N ps : List Str} {sp : Sp} (lk : K.lookup f = some ⟨oc, od, .func (PySem.W.fnOf name qual params body scope dV kV doc pm an cdv ct), osl⟩) (hcd : PySem.W.codeIn K cdv qual = true) (S : FnScope N ps scope)
    (len : ∀ vs H Q E, sp vs H Q E → vs.length = ps.length)
    (hbody : ∀ (A : Around) (outer : List Env) (s : Shared) (H : Hp) (vs : List V) (Q : VK) (E : XK), Room k (A.deeper (envOfC qual scope s.heap.objs.size f cdv)) → sp vs H Q E →
      ∃ t, PSs (cxOf CX P w K mg base N qual scope f cdv A outer s H E) body t ∧ t { nx := fun _ H' => Q .non H', rt := Q } (start N vs) H) :
    FnOk P w K mg base CX (k + 1) f (PySem.W.fnOf name qual params body scope dV kV doc pm an cdv ct) ps sp := by
  refine ⟨len, fun A outer s H args us vs Q E hr e0 hb r hsp => ?_⟩
  have hl := len _ _ _ _ hsp
  have KX : K.In s.heap := e0.mod.kin.keeps fun b o e => (e0.bs b o e).1
  have lim : s.heap.NoLimit := e0.mod.nolimit.keeps fun b o e => (e0.bs b o e).1
  have hkind : ∀ y ∈ ps.zip us, scope.names.lookup y.1 = some .local ∨ (scope.names.lookup y.1 = some .cell ∧ ((cellsFrom (s.heap.objs.size + 1) scope.names []).lookup y.1).isSome = true) := fun ⟨n, v⟩ hy => by
    rcases S.par n (List.of_mem_zip hy).1 with q | q
    · exact .inl q
    · exact .inr ⟨q, PySem.W.cellsFrom_some _ _ _ (.inl q)⟩
  refine codeAny_call_function hr.depth (KX _ _ lk) rfl S.co S.gen rfl (PySem.W.codeRec_of KX hcd) (hb _ _ _ _ ?_)
  refine wpAny_newFunctionEnv_cells S.kind hkind fun env he s1 x => ?_
  subst he
  refine ⟨lim.keeps x.toInCall.keep, codeAny_func ?_⟩
  obtain ⟨t, ht, hq⟩ := hbody A outer s H vs Q E (hr.deeper _) hsp
  have I : Inv (cxOf CX P w K mg base N qual scope f cdv A outer s H E) [] (start N vs) H s1 := inv_start S hr.hd e0 hl r x
  refine wpAny_mono (ht [] s1 (start N vs) H _ I hq) (fun fl s' hs => ?_) fun e s' hs => hs
  have fin : ∀ {σ' : St} {H' : Hp} {v : V} {u : Value}, Inv (cxOf CX P w K mg base N qual scope f cdv A outer s H E) [] σ' H' s' → RelV v u → Q v H' → CE outer P w H s Q u s' :=
    fun {σ' H' v u} J rv q => ⟨v, H', J.os, J.bare, J.base, J.hok, rv, q⟩
  cases fl with
  | ret u =>
    obtain ⟨v, σ', H', J, rv, q⟩ := hs
    exact fin J rv q
  | next =>
    obtain ⟨σ', H', J, q⟩ := hs
    exact fin (v := V.non) (u := Value.none) J rfl q
  | brk =>
    obtain ⟨_, _, _, q⟩ := hs
    exact False.elim q
  | cont =>
    obtain ⟨_, _, _, q⟩ := hs
    exact False.elim q
end L2

namespace L2
open PySem PySem.Spec PyProof.Rows
section
variable {X : Cx} {x : Str} {p pos : Pos} {e : Expr} {es : List Expr} {t : TA} {id T : String} {r : List V → Hp → VK → Prop}

def tCB (r : List V → Hp → VK → Prop) (t : TA) : TE := fun σ H Q => t σ H fun vs H1 => r vs H1 Q
/-- f(e, ..), f a built-in function -/
theorem pe_callB (hc : CallR X (.builtin id) r) (hg : Gl X x) (hm : X.mg x = none) (hv : bootBuiltins x = some (.builtin id)) (ha : PA X (e :: es) t) (hn : x ≠ "__name__" := by decide) (hdb : (x == ("__debug__" : Str)) = false := by decide)
    (he : starEach (e :: es) X.env = (false, eval e X.env) :: starEach es X.env := by rfl) (hpl : (backTo pos (starEach es X.env)).any (·.1) = false := by rfl) : PE X (.Call (.Name x p) (e :: es) [] pos) (tCB r t) := by
  intro pins s σ H Q I h
  refine wpAny_Call_Name_kw (ld_blt I hg hm hv ?_ hn hdb)
  exact PyProof.Rows.callWith_builtin1 (thn (ha pos pins s σ H _ I h) fun us s1 ⟨vs, H1, I1, r1, q1⟩ => hc pins s1 σ H1 vs us Q I1 r1 q1) he hpl
end
end L2

namespace HT
open PySem PyProof.Rows

/-- t < u of tuples of ints -/
def lexLt : List Int → List Int → Bool
  | [], [] => false
  | [], _ :: _ => true
  | _ :: _, [] => false
  | x :: xs, y :: ys => if x = y then lexLt xs ys else decide (x < y)
section
open PySem.SeqAt
open PySem.AutoSeq1 (wpAny_loadPart')
open PySem.MeetsSeq PySem.MeetsSeq2 PySem.MeetsSeq3

end

section
variable {prog : Program} {w : World} {A : Around} {E : Value → Shared → Prop} {s : Shared}

/-! ### t[a:b], not the whole -/
/-- a slice's bound as a place among n (d where it is left out) -/
def sIx (n d : Nat) : Option Int → Nat
  | none => d
  | some v => if v < 0 then (v + (n : Int)).toNat else min v.toNat n
theorem sIx_none (n d : Nat) : sIx n d none = d := rfl
theorem sIx_nat (n d k : Nat) : sIx n d (some (k : Int)) = min k n := by
  show (if (k : Int) < 0 then ((k : Int) + (n : Int)).toNat else min (k : Int).toNat n) = min k n
  rw [if_neg (by omega), Int.toNat_natCast]
end
end HT

namespace L2
open PySem PySem.Spec PyProof.Rows

/-! ### the parts of a slice -/
abbrev TO := St → Hp → (Option Int → Hp → Prop) → Prop
/-- a slice's part (left out, or an int) -/
def PO (X : Cx) (e : Option Expr) (t : TO) : Prop :=
  ∀ (pins : List (Addr × Obj)) (s : Shared) (σ : St) (H : Hp) (Q : Option Int → Hp → Prop), Inv X pins σ H s → t σ H Q →
    wpAny (model X.prog X.w) X.A (evalPart e X.env) (fun u s' => ∃ o H', Inv X pins σ H' s' ∧ IsPart u o ∧ Q o H') X.xe s
def tNoPart : TO := fun _ H Q => Q none H
def tPart (t : TE) : TO := fun σ H Q => t σ H fun x H1 => ∃ i, x = .int i ∧ Q (some i) H1

section
variable {X : Cx} {e : Expr} {te : TE} {lo hi : Option Expr} {tl th : TO} {pos p2 : Pos}

theorem po_none : PO X none tNoPart := by
  intro pins s σ H Q I h
  rw [evalPart_none]
  exact wpAny_pure ⟨none, H, I, .none, h⟩
theorem po_some (h : PE X e te) : PO X (some e) (tPart te) := by
  intro pins s σ H Q I hw
  rw [evalPart_some]
  refine thn (h pins s σ H _ I hw) fun u s1 ⟨x, H1, I1, r1, q1⟩ => ?_
  obtain ⟨i, rfl, q⟩ := q1
  obtain ⟨t, rfl⟩ := r1
  exact ⟨some i, H1, I1, .int i t, q⟩

/-- what a slice of a value is, by values: the slice object stands at sl -/
def SlR (X : Cx) (r : V → Option Int → Option Int → Hp → VK → Prop) : Prop :=
  ∀ (pins : List (Addr × Obj)) (s : Shared) (σ : St) (H : Hp) (x : V) (v vl vu : Value) (lo hi : Option Int) (sl : Addr) (Q : VK), Inv X pins σ H s → RelV x v → s.heap.IsSliceOf sl vl vu .none → IsPart vl lo → IsPart vu hi → r x lo hi H Q →
    ∃ T id, typeLookup (.type T) "__getitem__" = pure (some (.builtin id)) ∧ s.TypeIs v T ∧ wpAny (model X.prog X.w) X.A (getItem v (.ref sl)) (EP X pins σ Q) X.xe s
def tSl (r : V → Option Int → Option Int → Hp → VK → Prop) (te : TE) (tl th : TO) : TE := fun σ H Q => te σ H fun x H1 => tl σ H1 fun l H2 => th σ H2 fun u H3 => r x l u H3 Q
/-- a[lo:hi], any a -/
theorem pe_slice {r : V → Option Int → Option Int → Hp → VK → Prop} (hr : SlR X r) (he : PE X e te) (hl : PO X lo tl) (hu : PO X hi th) : PE X (.Subscript e (.Slice lo hi none p2) pos) (tSl r te tl th) := by
  intro pins s σ H Q I h
  refine Subscript_ (thn (he pins s σ H _ I h) fun v s1 ⟨x, H1, I1, r1, q1⟩ => ?_)
  refine wpAny_Slice (thn (hl pins s1 σ H1 _ I1 q1) fun vl s2 ⟨l, H2, I2, pl, q2⟩ => thn (hu pins s2 σ H2 _ I2 q2) fun vu s3 ⟨u, H3, I3, pu, q3⟩ => ?_)
  rw [evalPart_none]
  refine wpAny_pure ?_
  have I4 : Inv X pins σ H3 { s3 with heap := s3.heap.push { cls := .type "slice", data := .fields #[vl, vu, .none] } } := I3.kept (t' := s3.toks) fun b ob q => Heap.get?_push_of_some _ q
  obtain ⟨T, id, hT, ht, hg⟩ := hr pins { s3 with heap := s3.heap.push { cls := .type "slice", data := .fields #[vl, vu, .none] } } σ H3 x v vl vu l u s3.heap.objs.size Q I4 r1 (Heap.IsSliceOf.new ..) pl pu q3
  show wpAny (model X.prog X.w) X.A (subscriptTail e (.Slice lo hi none p2) v (.ref s3.heap.objs.size)) (EP X pins σ Q) X.xe { s3 with heap := s3.heap.push { cls := .type "slice", data := .fields #[vl, vu, .none] } }
  exact tail_any (ops := [.ref s3.heap.objs.size, v]) ht hT hg (by with_unfolding_all rfl)

/-- the items of xs[lo:hi] -/
def cutV (xs : List V) (lo hi : Option Int) : List V := (xs.drop (HT.sIx xs.length 0 lo)).take (HT.sIx xs.length xs.length hi - HT.sIx xs.length 0 lo)
theorem cutV_length (xs : List V) (lo hi : Option Int) : (cutV xs lo hi).length ≤ xs.length := by
  unfold cutV
  rw [List.length_take, List.length_drop]
  omega
/-- t[lo:hi], not the whole of it (the whole would be t itself) -/
def rSlT (K : PySem.W.Frag) : V → Option Int → Option Int → Hp → VK → Prop := fun x lo hi H Q => ∃ a xs, x = .ref a ∧ SqT K H a xs ∧
  ¬ (HT.sIx xs.length 0 lo = 0 ∧ HT.sIx xs.length xs.length hi = xs.length) ∧ ∀ p, H p = none → Q (.ref p) (upd H p (.tup (cutV xs lo hi)))
/-! ### t < u, t + u -/
def rLtT (K : PySem.W.Frag) : R2 := fun x y H Q => ∃ a b ns ms, x = .ref a ∧ y = .ref b ∧ SqT K H a (ns.map V.int) ∧ SqT K H b (ms.map V.int) ∧ Q (.bl (HT.lexLt ns ms)) H
/-- t + u, t not empty: u empty gives t itself -/
def rCatT (K : PySem.W.Frag) : R2 := fun x y H Q => ∃ a b xs ys, x = .ref a ∧ y = .ref b ∧ SqT K H a xs ∧ SqT K H b ys ∧ xs ≠ [] ∧ xs.length + ys.length ≤ sizeLine ∧
  (ys = [] → Q (.ref a) H) ∧ (ys ≠ [] → ∀ p, H p = none → Q (.ref p) (upd H p (.tup (xs ++ ys))))
end
end L2

namespace L2
open PySem PySem.Spec PyProof.Rows

/-! ### places -/
/-- the place that an index of any sign means -/
def ixN (n : Nat) (i : Int) : Option Nat := if 0 ≤ i then (if i < n then some i.toNat else none) else if -(n : Int) ≤ i then some (i + n).toNat else none
def atI {α : Type} (xs : List α) (i : Int) : Option α := (ixN xs.length i).bind fun j => xs[j]?
theorem ixN_seq {n : Nat} {i : Int} {j : Nat} (h : ixN n i = some j) : seqIndex? i n = some j ∧ j < n ∧ -(n : Int) ≤ i ∧ i < n := by
  unfold ixN at h
  by_cases h0 : 0 ≤ i
  · rw [if_pos h0] at h
    by_cases h1 : i < n
    · rw [if_pos h1] at h
      have e : i.toNat = j := Option.some.inj h
      exact ⟨by rw [seqIndex_of h0 h1, e], by omega, by omega, h1⟩
    · rw [if_neg h1] at h; cases h
  · rw [if_neg h0] at h
    by_cases h1 : -(n : Int) ≤ i
    · rw [if_pos h1] at h
      have e : (i + n).toNat = j := Option.some.inj h
      exact ⟨by rw [seqIndex_neg (by omega) h1, e], by omega, h1, by omega⟩
    · rw [if_neg h1] at h; cases h
theorem atI_get {α : Type} {xs : List α} {i : Int} {v : α} (h : atI xs i = some v) : ∃ j, seqIndex? i xs.length = some j ∧ xs[j]? = some v ∧ j < xs.length ∧ -(xs.length : Int) ≤ i ∧ i < xs.length := by
  unfold atI at h
  cases e : ixN xs.length i with
  | none => rw [e] at h; cases h
  | some j =>
    rw [e] at h
    obtain ⟨h1, h2, h3, h4⟩ := ixN_seq e
    exact ⟨j, h1, h, h2, h3, h4⟩
theorem atI_nat {α : Type} {xs : List α} {j : Nat} {v : α} (h : xs[j]? = some v) : atI xs (j : Int) = some v := by
  have hj : j < xs.length := (List.getElem?_eq_some_iff.mp h).1
  have e : ixN xs.length (j : Int) = some j := by
    unfold ixN
    rw [if_pos (by omega), if_pos (by omega)]; simp
  unfold atI; rw [e]; exact h
/-! ### what may be subscripted -/
/-- what stands as an index of a plain subscript -/
def PlainIx (b : Expr) : Prop := ∀ o i, subscripted b false o i = operate [o, i] (getItem o i)
/-- a subscript by values -/
def IxR (X : Cx) (r : R2) : Prop :=
  ∀ (value slice : Expr) (pins : List (Addr × Obj)) (s : Shared) (σ : St) (H : Hp) (x y : V) (v u : Value) (Q : VK), Inv X pins σ H s → RelV x v → RelV y u → r x y H Q →
    subscripted slice false v u = operate [v, u] (getItem v u) → wpAny (model X.prog X.w) X.A (subscriptTail value slice v u) (EP X pins σ Q) X.xe s
/-- a call of a builtin's method by values: the receiver, the arguments -/
def MtR (X : Cx) (id : String) (r : V → List V → Hp → VK → Prop) : Prop :=
  ∀ (pins : List (Addr × Obj)) (s : Shared) (σ : St) (H : Hp) (x : V) (xs : List V) (v : Value) (us : List Value) (Q : VK), Inv X pins σ H s → RelV x v → Vals xs us → r x xs H Q →
    wpAny (model X.prog X.w) X.A (call (.builtin id) (v :: us)) (EP X pins σ Q) X.xe s
section
variable {X : Cx} {a b : Expr} {ta tb : TE} {pos : Pos}
/-- a[b] -/
theorem pe_ix {r : R2} (hr : IxR X r) (ha : PE X a ta) (hb : PE X b tb) (hs : PlainIx b) : PE X (.Subscript a b pos) (tOp r ta tb) := by
  intro pins s σ H Q I h
  exact Subscript_ (binT ha hb I h fun v u s2 x y H2 I2 rx ry q => hr a b pins s2 σ H2 x y v u Q I2 rx ry q (hs _ _))

def rIxL (K : PySem.W.Frag) : R2 := fun x y H Q => ∃ p xs i v, x = .ref p ∧ y = .int i ∧ SqL K H p xs ∧ atI xs i = some v ∧ Q v H
def rIxT (K : PySem.W.Frag) : R2 := fun x y H Q => ∃ p xs i v, x = .ref p ∧ y = .int i ∧ SqT K H p xs ∧ atI xs i = some v ∧ Q v H
def rIxS : R2 := fun x y H Q => ∃ z i c, x = .str z ∧ y = .int i ∧ z.length ≤ sizeLine ∧ atI z.cps.toList i = some c ∧ Q (.str ⟨#[c]⟩) H
theorem ix_list : IxR X (rIxL X.K) := by
  intro value slice pins s σ H x y v u Q I rx ry h hs
  obtain ⟨p, xs, i, z, rfl, rfl, hq, he, q⟩ := h
  cases rx
  obtain ⟨t, rfl⟩ := ry
  obtain ⟨its, r, pl, hz⟩ := I.list hq
  obtain ⟨j, h1, h2, h3, h4, h5⟩ := atI_get he
  obtain ⟨w, ew, rw'⟩ := r.get h2
  have hl := r.length
  have hn := line63
  have fin : EP X pins σ Q w s := ⟨z, H, I, rw', q⟩
  by_cases h0 : 0 ≤ i
  · have hj : i.toNat = j := by
      rw [seqIndex_of h0 h5] at h1
      exact Option.some.inj h1
    exact item_listR pl.isList h0 (by omega) (by rw [hj]; simpa using ew) fin hs
  · have hj : (i + (its.toArray.size : Int)).toNat = j := by
      rw [seqIndex_neg (by omega) h4] at h1
      rw [List.size_toArray, ← hl]
      exact Option.some.inj h1
    exact subscriptTail_builtinR (x := w) pl.isList.typeIs slot_list_getitem.lookup
      (wpAny_getItem_list_neg (Q := fun r s' => r = w ∧ EP X pins σ Q r s') pl.isList (by omega) (by rw [List.size_toArray] <;> omega) (by omega) (by rw [hj]; simpa using ew) ⟨rfl, fin⟩) hs
theorem ix_str : IxR X rIxS := by
  intro value slice pins s σ H x y v u Q I rx ry h hs
  obtain ⟨z, i, c, rfl, rfl, hz, he, q⟩ := h
  obtain ⟨t, rfl⟩ := rx
  obtain ⟨t', rfl⟩ := ry
  obtain ⟨j, h1, h2, h3, h4, h5⟩ := atI_get he
  have hl : z.cps.toList.length = z.length := by simp [Str.length]
  rw [hl] at h1 h4 h5
  have hn := line63
  exact tail_any (typeIs_str s z t) slot_str_getitem.lookup (getItem_str (c := c) (by
    have e1 : decide (i < -(2 ^ 63 : Int)) = false := decide_eq_false (by omega)
    have e2 : decide (i ≥ 2 ^ 63) = false := decide_eq_false (by omega)
    rw [e1, e2, Bool.or_false]) (by rw [h1]; simpa using h2) ⟨.str ⟨#[c]⟩, H, I.tok _, ⟨_, rfl⟩, q⟩) hs
/-- list, tuple or str -/
def rIx (K : PySem.W.Frag) : R2 := fun x y H Q => rIxL K x y H Q ∨ rIxT K x y H Q ∨ rIxS x y H Q
/-! ### xs[i] = v, any sign -/
/-- the list's object behind a store -/
theorem mapSeq_set (its : List Value) (n j : Nat) (u : Value) : Obj.mapSeq (·.setIfInBounds j u) { cls := .type "list", data := .seq its.toArray n } = { cls := .type "list", data := .seq (its.set j u).toArray n } := by
  simp [Obj.mapSeq]
theorem Inv.lst {pins : List (Addr × Obj)} {σ : St} {H : Hp} {s : Shared} {p : Addr} {xs : List V} (I : Inv X pins σ H s) (h : H p = some (.lst xs)) :
    ∃ (its : List Value) (n : Nat), Vals xs its ∧ s.heap.get? p = some { cls := .type "list", data := .seq its.toArray n } ∧ xs.length ≤ sizeLine := by
  obtain ⟨z, its, n, r, e⟩ := I.hok p _ h
  exact ⟨its, n, r, e, z⟩
/-- the list at p is written by an update of its object -/
theorem Inv.lstUpd {pins : List (Addr × Obj)} {σ : St} {H : Hp} {s : Shared} {p : Addr} {xs ys : List V} {its its' : List Value} {n n' : Nat} {f : Obj → Obj} (I : Inv X pins σ H s) (h : H p = some (.lst xs))
    (ho : s.heap.get? p = some { cls := .type "list", data := .seq its.toArray n }) (hf : f { cls := .type "list", data := .seq its.toArray n } = { cls := .type "list", data := .seq its'.toArray n' }) (r : Vals ys its') (hz : ys.length ≤ sizeLine) (t : Nat) :
    Inv X pins σ (upd H p (.lst ys)) { s with heap := s.heap.update p f, toks := t } := by
  have e : (s.heap.update p f).get? p = some { cls := .type "list", data := .seq its'.toArray n' } := by
    rw [Heap.get?_update_self f ho (by rw [hf] <;> rfl), hf]
  refine I.write (x := p) (e := p) (by rw [h]; trivial) (.inl rfl) (fun b u hb q => (Heap.get?_update_other _ _ (Ne.symm hb)).trans q) ⟨_, e⟩ ?_
  exact ⟨hz, its', n', r, e⟩
def rSetL : V → V → V → Hp → (Hp → Prop) → Prop := fun o i v H Q => ∃ p xs k j, o = .ref p ∧ i = .int k ∧ H p = some (.lst xs) ∧ ixN xs.length k = some j ∧ Q (upd H p (.lst (xs.set j v)))
theorem set_list : PSet X rSetL := by
  intro pins s σ H o i v ov iv u Q I ro ri rv h
  obtain ⟨p, xs, k, j, rfl, rfl, hp, hj, q⟩ := h
  cases ro
  obtain ⟨t, rfl⟩ := ri
  obtain ⟨its, n, r, ho, hz⟩ := I.lst hp
  obtain ⟨h1, h2, h3, h4⟩ := ixN_seq hj
  have hl := r.length
  have hn := line63
  have I' : Inv X pins σ (upd H p (.lst (xs.set j v))) { s with heap := s.heap.update p (Obj.mapSeq (·.setIfInBounds j u)) } :=
    I.lstUpd hp ho (mapSeq_set its n j u) (r.set rv j) (by rw [List.length_set]; exact hz) s.toks
  by_cases h0 : 0 ≤ k
  · have hk : k.toNat = j := by
      rw [seqIndex_of h0 h4] at h1
      exact Option.some.inj h1
    exact PySem.W.ki_setAt ho h0 (by omega) (by rw [List.size_toArray, ← hl]; exact h4) (by rw [hk]; exact ⟨_, I', q⟩)
  · have hk : (k + (its.toArray.size : Int)).toNat = j := by
      rw [seqIndex_neg (by omega) h3] at h1
      rw [List.size_toArray, ← hl]
      exact Option.some.inj h1
    exact PySem.W.ki_setBack ho (by omega) (by rw [List.size_toArray, ← hl]; exact h3) (by omega) (by rw [hk]; exact ⟨_, I', q⟩)

/-! ### slices -/
theorem slice_bounds (lo hi : Option Int) (n : Nat) : (sliceBounds lo hi none n).1 = ((HT.sIx n 0 lo : Nat) : Int) ∧ (sliceBounds lo hi none n).2.1 = ((HT.sIx n n hi : Nat) : Int) ∧ (sliceBounds lo hi none n).2.2 = 1 := by
  refine ⟨?_, ?_, rfl⟩
  · cases lo with
    | none => simp [sliceBounds, HT.sIx]
    | some i =>
      simp only [sliceBounds, HT.sIx, Option.getD_none, show (1 : Int) > 0 by decide, if_true]
      by_cases h : i < 0
      · simp only [h, if_true] <;> omega
      · simp only [h, if_false] <;> omega
  · cases hi with
    | none => simp [sliceBounds, HT.sIx]
    | some i =>
      simp only [sliceBounds, HT.sIx, Option.getD_none, show (1 : Int) > 0 by decide, if_true]
      by_cases h : i < 0
      · simp only [h, if_true] <;> omega
      · simp only [h, if_false] <;> omega
theorem slicePick_cut (its : List Value) (lo hi : Option Int) : slicePick its.toArray lo hi none = ((its.drop (HT.sIx its.length 0 lo)).take (HT.sIx its.length its.length hi - HT.sIx its.length 0 lo)).toArray := by
  obtain ⟨h1, h2, h3⟩ := slice_bounds lo hi its.toArray.size
  unfold slicePick
  rw [h1, h2, h3]
  simp only [sliceRange_one, pick_run, List.size_toArray] <;> rfl
/-- xs[lo:hi] of a list: a new list -/
def rSlL (K : PySem.W.Frag) : V → Option Int → Option Int → Hp → VK → Prop := fun x lo hi H Q => ∃ a xs, x = .ref a ∧ SqL K H a xs ∧ ∀ p, H p = none → Q (.ref p) (upd H p (.lst (cutV xs lo hi)))
theorem sl_list : SlR X (rSlL X.K) := by
  intro pins s σ H x v vl vu lo hi sl Q I rx hs pl pu h
  obtain ⟨a, xs, rfl, hx, q⟩ := h
  cases rx
  obtain ⟨its, r, ht, hz⟩ := I.list hx
  have hlen := r.length
  refine ⟨"list", _, slot_list_getitem.lookup, ht.isList.typeIs, ?_⟩
  refine wpAny_getItem_list_slice ht.isList hs pl pu .none (by simp) ?_ (by rw [List.size_toArray] <;> omega)
  rw [slicePick_cut, ← hlen]
  refine ⟨.ref s.heap.objs.size, _, I.laid (t' := s.toks) (o := .lst (cutV xs lo hi)) (fun b ob q => Heap.get?_push_of_some _ q) (Nat.le_refl _) ?_, rfl, q _ (I.hok.fresh (Nat.le_refl _))⟩
  exact ⟨Nat.le_trans (cutV_length xs lo hi) hz, _, 0, (r.drop (HT.sIx xs.length 0 lo)).take (HT.sIx xs.length xs.length hi - HT.sIx xs.length 0 lo), Heap.get?_push_size _ rfl⟩

/-! ### in, not in: flat items -/
def flatV : V → Bool
  | .non => true
  | .bl _ => true
  | .int _ => true
  | .str _ => true
  | _ => false
/-- == of flat values -/
def eqV : V → V → Bool
  | .non, .non => true
  | .bl a, .bl b => a == b
  | .bl a, .int b => (if a then 1 else 0) == b
  | .int a, .bl b => a == (if b then 1 else 0)
  | .int a, .int b => a == b
  | .str a, .str b => a == b
  | _, _ => false
theorem eqAt_V {A : Around} {s : Shared} {y x : V} {u v : Value} (ry : RelV y u) (rx : RelV x v) (fy : flatV y = true) (fx : flatV x = true) : SeqAt.EqAt A s u v (eqV y x) := by
  cases y with
  | non =>
    cases ry
    cases x with
    | non => cases rx; exact SeqAt.EqAt.same _
    | bl b => cases rx; exact SeqAt.EqAt.none_bool b
    | int b => obtain ⟨t, rfl⟩ := rx; exact SeqAt.EqAt.none_int b t
    | str b => obtain ⟨t, rfl⟩ := rx; exact SeqAt.EqAt.none_str b t
    | _ => exact absurd (show false = true from fx) Bool.false_ne_true
  | bl a =>
    cases ry
    cases x with
    | non => cases rx; exact SeqAt.EqAt.bool_none a
    | bl b => cases rx; exact SeqAt.EqAt.bool_bool a b
    | int b => obtain ⟨t, rfl⟩ := rx; exact SeqAt.EqAt.bool_int a b t
    | str b => obtain ⟨t, rfl⟩ := rx; exact SeqAt.EqAt.bool_str a b t
    | _ => exact absurd (show false = true from fx) Bool.false_ne_true
  | int a =>
    obtain ⟨t', rfl⟩ := ry
    cases x with
    | non => cases rx; exact SeqAt.EqAt.int_none a t'
    | bl b => cases rx; exact SeqAt.EqAt.int_bool a t' b
    | int b => obtain ⟨t, rfl⟩ := rx; exact SeqAt.EqAt.int_int a t' b t
    | str b => obtain ⟨t, rfl⟩ := rx; exact SeqAt.EqAt.int_str a t' b t
    | _ => exact absurd (show false = true from fx) Bool.false_ne_true
  | str a =>
    obtain ⟨t', rfl⟩ := ry
    cases x with
    | non => cases rx; exact SeqAt.EqAt.str_none a t'
    | bl b => cases rx; exact SeqAt.EqAt.str_bool a t' b
    | int b => obtain ⟨t, rfl⟩ := rx; exact SeqAt.EqAt.str_int a t' b t
    | str b => obtain ⟨t, rfl⟩ := rx; exact SeqAt.EqAt.str_str a t' b t
    | _ => exact absurd (show false = true from fx) Bool.false_ne_true
  | _ => exact absurd (show false = true from fy) Bool.false_ne_true
/-- the items' answers, read off the values (a value's own answer does not lean on its token) -/
def eqU (x : V) (u : Value) : Bool := match u with
  | .none => eqV .non x
  | .bool b => eqV (.bl b) x
  | .int i _ => eqV (.int i) x
  | .str z _ => eqV (.str z) x
  | _ => false
theorem eqU_of {x y : V} {u : Value} (r : RelV y u) (f : flatV y = true) : eqU x u = eqV y x := by
  cases y with
  | non => cases r; rfl
  | bl b => cases r; rfl
  | int i => obtain ⟨t, rfl⟩ := r; rfl
  | str z => obtain ⟨t, rfl⟩ := r; rfl
  | _ => exact absurd (show false = true from f) Bool.false_ne_true
theorem any_eqU {x : V} : ∀ {xs : List V} {us : List Value}, Vals xs us → xs.all flatV = true → us.any (eqU x) = xs.any fun y => eqV y x
  | _, _, .nil, _ => rfl
  | y :: xs, u :: us, .cons r t, f => by
    rw [List.all_cons, Bool.and_eq_true] at f
    rw [List.any_cons, List.any_cons, eqU_of r f.1, any_eqU t f.2]
theorem mem_eqAt {A : Around} {s : Shared} {x : V} {v : Value} (rx : RelV x v) (fx : flatV x = true) : ∀ {xs : List V} {us : List Value}, Vals xs us → xs.all flatV = true → ∀ u ∈ us, SeqAt.EqAt A s u v (eqU x u)
  | _, _, .nil, _ => fun u hu => by cases hu
  | y :: xs, u :: us, .cons r t, f => fun u' hu => by
    rw [List.all_cons, Bool.and_eq_true] at f
    rcases List.mem_cons.mp hu with rfl | hu
    · rw [eqU_of r f.1]; exact eqAt_V r rx f.1 fx
    · exact mem_eqAt rx fx t f.2 u' hu
def inV (x : V) (xs : List V) : Bool := xs.any fun y => eqV y x
/-- x in a list or tuple of flat items -/
def rIn (K : PySem.W.Frag) (neg : Bool) : R2 := fun x y H Q => ∃ p xs, y = .ref p ∧ (SqL K H p xs ∨ SqT K H p xs) ∧ flatV x = true ∧ xs.all flatV = true ∧ Q (.bl (if neg then !inV x xs else inV x xs)) H
theorem op_in_seq : OpR X (compareOp .In) (rIn X.K false) := by
  intro pins s σ H x y v u Q I rx ry h
  obtain ⟨p, xs, rfl, hq, fx, fs, q⟩ := h
  cases ry
  rcases hq with hq | hq
  · obtain ⟨its, r, pl, hz⟩ := I.list hq
    refine SeqAt.in_listAt (eqU x) pl.isList (fun w hw => mem_eqAt rx fx r fs w (by simpa using hw)) ⟨.bl _, H, I, rfl, ?_⟩
    rw [show its.toArray.any (eqU x) = its.any (eqU x) by simp, any_eqU r fs]
    exact q
  · obtain ⟨its, r, pl, hz⟩ := I.tuple hq
    refine SeqAt.in_tupleAt (eqU x) pl (fun w hw => mem_eqAt rx fx r fs w (by simpa using hw)) ⟨.bl _, H, I, rfl, ?_⟩
    rw [show its.toArray.any (eqU x) = its.any (eqU x) by simp, any_eqU r fs]
    exact q
/-! ### len, list(x), tuple(x) of any list or tuple that is read -/
theorem call_len_seq : CallR X (.builtin "len") (fun xs H Q => ∃ p ys, xs = [.ref p] ∧ (SqL X.K H p ys ∨ SqT X.K H p ys) ∧ Q (.int ys.length) H) := by
  intro pins s σ H xs us Q I r h
  obtain ⟨p, ys, rfl, hq, q⟩ := h
  obtain ⟨u, rfl, rx⟩ := vals1 r
  cases rx
  have hn := line63
  rcases hq with hq | hq
  · obtain ⟨its, r', pl, hz⟩ := I.list hq
    have hlen := r'.length
    exact Calls.call_len_list pl.isList (by simp only [List.size_toArray] <;> omega) ⟨.int ys.length, H, I.tok _, ⟨s.toks + 1, by rw [List.size_toArray, hlen]⟩, q⟩
  · obtain ⟨its, r', pl, hz⟩ := I.tuple hq
    have hlen := r'.length
    exact len_tuple pl (by simp only [List.size_toArray] <;> omega) ⟨.int ys.length, H, I.tok _, ⟨s.toks + 1, by rw [List.size_toArray, hlen]⟩, q⟩
/-! ### the call of a builtin's method: o.m(..) -/
/-- the value is of that builtin type -/
def tyV (K : PySem.W.Frag) (T : String) (x : V) (H : Hp) : Prop := match x with
  | .str _ => T = "str"
  | .int _ => T = "int"
  | .ref p => (T = "list" ∧ ∃ xs, SqL K H p xs) ∨ (T = "tuple" ∧ ∃ o, K.lookup p = some o ∧ o.cls = .type "tuple" ∧ o.dict = none) ∨
      (T = "dict" ∧ ((∃ kvs, H p = some (.dK kvs)) ∨ ∃ kvs, H p = some (.dT kvs))) ∨ (T = "set" ∧ ∃ S n, H p = some (.set S n))
  | _ => False
theorem tyV_is {pins : List (Addr × Obj)} {σ : St} {H : Hp} {s : Shared} {T : String} {x : V} {v : Value} (I : Inv X pins σ H s) (r : RelV x v) (ty : tyV X.K T x H) :
    s.TypeIs v T ∧ ∀ a, v = .ref a → ∃ ob, s.heap.get? a = some ob ∧ ob.dict = none := by
  cases x with
  | str z =>
    obtain ⟨t, rfl⟩ := r
    cases (show T = "str" from ty)
    exact ⟨typeIs_str s z t, fun _ e => nomatch e⟩
  | int i =>
    obtain ⟨t, rfl⟩ := r
    cases (show T = "int" from ty)
    exact ⟨typeIs_int s i t, fun _ e => nomatch e⟩
  | ref p =>
    cases r
    rcases ty with ⟨rfl, xs, hq⟩ | ⟨rfl, o, hk, hc, hd⟩ | ⟨rfl, hk⟩ | ⟨rfl, S, n, hk⟩
    · obtain ⟨its, _, pl, _⟩ := I.list hq
      refine ⟨pl.isList.typeIs, fun a e => ?_⟩
      cases e
      obtain ⟨o, n, e, c, hd, _⟩ := pl
      exact ⟨o, e, hd⟩
    · refine ⟨⟨o, I.kIn p o hk, hc⟩, fun a e => ?_⟩
      cases e
      exact ⟨o, I.kIn _ o hk, hd⟩
    · have z : ∃ o, s.heap.get? p = some o ∧ o.ExactDict := by
        rcases hk with ⟨kvs, hk⟩ | ⟨kvs, hk⟩
        · obtain ⟨_, _, _, _, o, _, _, e, ex, _⟩ := I.hok p _ hk
          exact ⟨o, e, ex⟩
        · obtain ⟨_, _, _, _, o, _, _, e, ex, _⟩ := I.hok p _ hk
          exact ⟨o, e, ex⟩
      obtain ⟨o, e, ex⟩ := z
      refine ⟨⟨o, e, ex.1⟩, fun a e2 => ?_⟩
      cases e2
      exact ⟨o, e, ex.2.1⟩
    · obtain ⟨o, _, _, _, e, ex, _⟩ := I.hok p _ hk
      refine ⟨⟨o, e, ex.1⟩, fun a e2 => ?_⟩
      cases e2
      exact ⟨o, e, ex.2.1⟩
  | _ => exact False.elim ty
def tBM0 (K : PySem.W.Frag) (T : String) (r : V → List V → Hp → VK → Prop) (to : TE) : TE := fun σ H Q => to σ H fun x H1 => tyV K T x H1 ∧ r x [] H1 Q
def tBM (K : PySem.W.Frag) (T : String) (r : V → List V → Hp → VK → Prop) (to : TE) (t : TA) : TE := fun σ H Q => to σ H fun x H1 => tyV K T x H1 ∧ t σ H1 fun xs H2 => r x xs H2 Q
variable {o e : Expr} {es : List Expr} {to : TE} {t : TA} {name : Str} {apos cpos : Pos} {T id : String} {r : V → List V → Hp → VK → Prop}
theorem pe_bm (pa : PlainAttrs T) (slot : Slot T name id) (hty : typeOf (.builtin id) = pure (.type "method_descriptor")) (hm : MtR X id r) (ho : PE X o to) (ha : PA X (e :: es) t)
    (hbase : attributeBase o name X.env (eval o X.env) = eval o X.env := by rfl)
    (hfew : ((backTo cpos (starEach (e :: es) X.env)).all (fun x => !x.1) && (backToKw cpos (keywordEach [] X.env)).all (fun x => x.1.isSome)
      && decide ((e :: es).length + ([] : List Keyword).length + (if ([] : List Keyword).isEmpty then 0 else 1) < 30)) = true := by rfl)
    (hline : (apos.endLine == cpos.line) = true := by rfl) (hs : starEach (e :: es) X.env = (false, eval e X.env) :: starEach es X.env := by rfl) (hplain : (backTo cpos (starEach es X.env)).any (·.1) = false := by rfl) :
    PE X (.Call (.Attribute o name apos) (e :: es) [] cpos) (tBM X.K T r to t) := by
  intro pins s σ H Q I h
  refine wpAny_Call_method_late hbase hfew hline rfl (thn (ho pins s σ H _ I h) fun v s1 ⟨x, H1, I1, r1, ty, q1⟩ => ?_)
  obtain ⟨h1, h2⟩ := tyV_is I1 r1 ty
  refine ⟨T, id, pa, slot, hty, h1, h2, ?_⟩
  have hA := ha cpos pins s1 σ H1 _ I1 q1
  rw [hs] at hA ⊢
  refine Calls.callWith_builtin (by show (false || (backTo cpos (starEach es X.env)).any (·.1)) = false; rw [hplain] <;> rfl) (Calls.evalArgs_plain ?_)
  exact thn hA fun us s2 ⟨vs, H2, I2, r2, q2⟩ => hm pins s2 σ H2 x vs v us Q I2 r1 r2 q2
/- xs.append(e), list.index on a module's tuple .. are MtR facts of 06m -/
end
end L2

namespace L2
open PySem PySem.Spec PyProof.Rows

def MtM (X : Cx) (id : String) (r : V → List V → Hp → VK → Prop) : Prop :=
  ∀ (pins : List (Addr × Obj)) (s : Shared) (σ : St) (H : Hp) (x : V) (xs : List V) (v : Value) (us : List Value) (Q : VK), Inv X pins σ H s → RelV x v → Vals xs us → r x xs H Q →
    wpAny (model X.prog X.w) X.A (call (.builtin id) (v :: us)) (EP X pins σ Q) X.xe s

/-! ### lists of values -/
theorem Vals.one : ∀ {x : V} {us : List Value}, Vals [x] us → ∃ u, us = [u] ∧ RelV x u
  | _, _, .cons r .nil => ⟨_, rfl, r⟩
section
variable {X : Cx} {pins : List (Addr × Obj)} {σ : St} {H : Hp} {s : Shared} {l b : Addr} {xs ys zs : List V}

/-! ### the two steps: a tracked list is rewritten, a new list is laid -/
theorem Inv.lset {its its' : List Value} {n : Nat} {f : Array Value → Array Value} {t' : Nat} (I : Inv X pins σ H s) (hH : H l = some (.lst xs))
    (e : s.heap.get? l = some { cls := .type "list", data := .seq its.toArray n }) (hf : f its.toArray = its'.toArray) (hv : Vals ys its') (hz : ys.length ≤ sizeLine) :
    Inv X pins σ (upd H l (.lst ys)) { s with heap := s.heap.update l (Obj.mapSeq f), toks := t' } := by
  have q := PySem.IsL.update e f
  rw [hf] at q
  refine I.write (x := l) (e := l) (by rw [hH]; exact trivial) (.inl rfl) (fun b' u hb hu => (Heap.get?_update_other s.heap (Obj.mapSeq f) (Ne.symm hb)).trans hu) ⟨_, q⟩ ?_
  exact ⟨hz, its', _, hv, q⟩
theorem Inv.lnew {its : List Value} {t' : Nat} (I : Inv X pins σ H s) (hv : Vals ys its) (hz : ys.length ≤ sizeLine) :
    Inv X pins σ (upd H s.heap.objs.size (.lst ys)) { s with heap := s.heap.push { cls := .type "list", data := .seq its.toArray }, toks := t' } :=
  I.laid (fun _ _ q => Heap.get?_push_of_some _ q) (Nat.le_refl _) ⟨hz, its, 0, hv, Heap.get?_push_size _ rfl⟩
theorem Inv.fresh (I : Inv X pins σ H s) : H s.heap.objs.size = none := I.hok.fresh (Nat.le_refl _)
theorem Inv.lstM (I : Inv X pins σ H s) (hH : H l = some (.lst xs)) : xs.length ≤ sizeLine ∧ ∃ (its : List Value) (n : Nat), Vals xs its ∧ xs.length = its.length ∧ s.heap.get? l = some { cls := .type "list", data := .seq its.toArray n } := by
  obtain ⟨z, its, n, r, e⟩ := I.hok l _ hH
  exact ⟨z, its, n, r, r.length, e⟩

theorem notLongL {n : Nat} (h : n ≤ sizeLine) : Builtin.List.listTooLong n = false := by
  unfold Builtin.List.listTooLong
  exact decide_eq_false (by omega)
end

section
variable {X : Cx}

/-! ### methods -/
def rAppend : V → List V → Hp → VK → Prop := fun x vs H Q => ∃ l xs y, x = .ref l ∧ vs = [y] ∧ H l = some (.lst xs) ∧ xs.length < sizeLine ∧ Q .non (upd H l (.lst (xs ++ [y])))
theorem mt_append : MtM X "list.append" rAppend := by
  intro pins s σ H x vs v us Q I rx rv h
  obtain ⟨l, xs, y, rfl, rfl, hH, hz, q⟩ := h
  cases rx
  obtain ⟨u, rfl, ru⟩ := rv.one
  obtain ⟨z, its, n, r, hl, e⟩ := I.lstM hH
  refine call_meets F.slot_list_append ⟨_, e, rfl⟩ F.entry_list_append (F.args_list_append_2 _ _) (PySem.list_append l its.toArray n u (by rw [List.size_toArray]; omega)) ⟨e, ?_⟩
  refine ⟨.non, _, I.lset (its' := its ++ [u]) hH e (by simp) (r.append (.cons ru .nil)) ?_, rfl, q⟩
  rw [List.length_append, List.length_singleton]
  omega

def rExtend : V → List V → Hp → VK → Prop := fun x vs H Q => ∃ l b xs zs, x = .ref l ∧ vs = [.ref b] ∧ H l = some (.lst xs) ∧ H b = some (.lst zs) ∧ xs.length + zs.length ≤ sizeLine ∧ Q .non (upd H l (.lst (xs ++ zs)))
theorem mt_extend : MtM X "list.extend" rExtend := by
  intro pins s σ H x vs v us Q I rx rv h
  obtain ⟨l, b, xs, zs, rfl, rfl, hH, hB, hz, q⟩ := h
  cases rx
  obtain ⟨u, rfl, ru⟩ := rv.one
  cases ru
  obtain ⟨z, its, n, r, hl, e⟩ := I.lstM hH
  obtain ⟨z2, its2, n2, r2, hl2, e2⟩ := I.lstM hB
  have hsz : its.toArray.size + its2.toArray.size ≤ sizeLine := by rw [List.size_toArray, List.size_toArray]; omega
  have hlong : ¬ (!its.toArray.isEmpty && Builtin.List.listTooLong (its.toArray.size + its2.toArray.size)) = true := by
    rw [notLongL hsz, Bool.and_false]
    exact Bool.false_ne_true
  refine call_meets F.slot_list_extend ⟨_, e, rfl⟩ F.entry_list_extend (F.args_list_extend_2 _ _)
    (AutoSeq1.list_extend_list_list_0 l its.toArray n b its2.toArray n2 hlong (by rw [List.size_toArray]; omega) (by omega)) ⟨e, e2, ?_⟩
  refine ⟨.non, _, I.lset (its' := its ++ its2) hH e (by simp) (r.append r2) ?_, rfl, q⟩
  rw [List.length_append]
  omega

def rPop : V → List V → Hp → VK → Prop := fun x vs H Q => ∃ l xs y, x = .ref l ∧ vs = [] ∧ H l = some (.lst xs) ∧ xs[xs.length - 1]? = some y ∧ Q y (upd H l (.lst xs.dropLast))
def rPopAt : V → List V → Hp → VK → Prop := fun x vs H Q => ∃ l xs i k y, x = .ref l ∧ vs = [.int i] ∧ H l = some (.lst xs) ∧ -(2 ^ 63) ≤ i ∧ i < 2 ^ 63 ∧ seqIndex? i xs.length = some k ∧ xs[k]? = some y ∧ Q y (upd H l (.lst (xs.eraseIdx k)))
def rReverse : V → List V → Hp → VK → Prop := fun x vs H Q => ∃ l xs, x = .ref l ∧ vs = [] ∧ H l = some (.lst xs) ∧ Q .non (upd H l (.lst xs.reverse))
def rClear : V → List V → Hp → VK → Prop := fun x vs H Q => ∃ l xs, x = .ref l ∧ vs = [] ∧ H l = some (.lst xs) ∧ Q .non (upd H l (.lst []))
/-! ### list + list, list += list, list * int -/
def rCat : R2 := fun x y H Q => ∃ l b xs zs, x = .ref l ∧ y = .ref b ∧ H l = some (.lst xs) ∧ H b = some (.lst zs) ∧ xs.length + zs.length ≤ sizeLine ∧ ∀ p, H p = none → Q (.ref p) (upd H p (.lst (xs ++ zs)))
theorem op_cat : OpR X (binaryOp .Add) rCat := by
  intro pins s σ H x y v u Q I rx ry h
  obtain ⟨l, b, xs, zs, rfl, rfl, hH, hB, hz, q⟩ := h
  cases rx
  cases ry
  obtain ⟨z, its, n, r, hl, e⟩ := I.lstM hH
  obtain ⟨z2, its2, n2, r2, hl2, e2⟩ := I.lstM hB
  refine PySem.P.add_list e e2 ?_ (by rw [List.size_toArray, List.size_toArray]; omega)
  have ea : its.toArray ++ its2.toArray = (its ++ its2).toArray := by simp
  rw [ea]
  exact ⟨.ref _, _, I.lnew (t' := s.toks) (r.append r2) (by rw [List.length_append]; omega), rfl, q _ I.fresh⟩
/-- a list times an int (a negative one is nothing) -/
def rRep : R2 := fun x y H Q => ∃ l k xs, x = .ref l ∧ y = .int k ∧ H l = some (.lst xs) ∧ -(2 ^ 63) ≤ k ∧ k < 2 ^ 63 ∧ xs.length * k.toNat ≤ sizeLine ∧
  ∀ p, H p = none → Q (.ref p) (upd H p (.lst (List.replicate k.toNat xs).flatten))
/-! ### del xs[i] -/
end

/-! ### xs[a:b] = ys -/
section
variable {prog : Program} {w : World} {A : Around} {E : Value → Shared → Prop} {s : Shared}
set_option maxRecDepth 100000 in
end

section
variable {X : Cx}
end
end L2

namespace Att
open PySem PySem.W PySem.Calls PyProof.Rows

/-! ### the script -/
theorem ints_of_wellAll {P : Params} {h : Heap} : ∀ (ns : List Int) (vs : List Value), WellAll P h vs (ns.map WData.int) → IntsAre vs ns := by
  intro ns
  induction ns with
  | nil =>
    intro vs w
    rw [List.map_nil] at w
    cases w
    exact .nil
  | cons n ns ih =>
    intro vs w
    rw [List.map_cons] at w
    cases w with
    | cons a b =>
      cases a
      exact .cons _ _ (ih _ b)

theorem script_of {l : OpenLaw} {n : Nat} (hn : l.most = some n) {P : Params} {h : Heap} {args : List WData} {vals : List Value}
    (hpre : l.row.toRowW.claim.pre args = true) (hwl : WellAll P h vals args) :
    ∃ a vs ns, vals = [Value.ref a] ∧ args = [WData.list (ns.map WData.int)] ∧ h.get? a = some { cls := .type "list", data := .seq vs.toArray } ∧ IntsAre vs ns ∧ ns.length ≤ n := by
  have hsh : WShape.hasAll [] args [.list .int] = true := (pre_splitW hpre).1
  have hc : l.pre.holds [] { args := args } = true := (pre_splitW hpre).2
  obtain ⟨d, r, rfl, h1, h2⟩ := hasAllW_cons hsh
  obtain rfl := hasAllW_nil h2
  obtain ⟨xs, rfl, h3⟩ := hasW_list h1
  obtain ⟨ns, rfl⟩ := items_int h3
  have hlen : ns.length ≤ n := by
    unfold OpenLaw.pre at hc
    have h4 : (WTm.not (.lt (.lit (.int (n : Int))) (.len (.arg 0)))).holds [] { args := [.list (ns.map .int)] } = true := by
      have h4 := (holds_andW hc).1
      rw [hn] at h4
      exact h4
    have h5 := condW_of h4 (w_not (w_lt w_lit (w_len_list (w_arg rfl))))
    rw [List.length_map] at h5
    refine Nat.le_of_not_lt fun q => ?_
    have q' : (n : Int) < ((ns.length : Nat) : Int) := by omega
    first
      | (rw [decide_eq_true q'] at h5; exact absurd h5 (by decide))
      | (simp at h5; omega)
  cases hwl with
  | cons w1 w2 =>
    cases w2
    cases w1 with
    | list ho hall => exact ⟨_, _, ns, rfl, rfl, ho, ints_of_wellAll ns _ hall, hlen⟩

theorem post_true (l : OpenLaw) (args : List WData) : l.row.toRowW.claim.post args (.bool true) args = true :=
  postW_of (r := l.row.toRowW) (X := (true == true))
    (show WShape.has [] (.bool true) .bool = true by first | rfl | decide | simp [WShape.has, WShape.arms, WShape.armsAll])
    (show (WTm.eq .res (.lit (.bool true))).value [] { args := args, res := some (.bool true), after := args } = some (.bool (true == true)) from w_eq_bool (w_res rfl) w_lit) rfl

/-! ### the attachment: holds_open's last premise (the goal 'hc' behind k_head) from a wpAny of the law's body -/
/-- the same from a codeAny of the CALL (for a layer whose function contracts speak of calls) -/
theorem attach_call {l : OpenLaw} {n : Nat} {q : Program} {loose : List Str} {XP : (Str → Option Value) → Heap → Prop} {YP : World → Heap → Prop} {d : DefRec}
    (hn : l.most = some n) (hdf : d.params.defaults = [])
    (call : ∀ (w : World) (s₀ s₁ : Shared) (mg mb : Str → Option Value) (fa : Addr) (o : Obj) (pm cd doc : Value) (a : Addr) (vs : List Value) (ns : List Int),
      Ground q loose [] XP w s₀ mg mb s₁.heap → YP w s₁.heap →
      s₁.heap.get? fa = some o → o.data = .func (docDef d.name d.params d.body d.scope pm cd doc) → s₁.heap.CodeRec cd d.name → mg d.name = some (.ref fa) →
      s₁.heap.get? a = some { cls := .type "list", data := .seq vs.toArray } → IntsAre vs ns → ns.length ≤ n → s₁.gens = #[] →
      codeAny (model l.prog w) callerA (.call (.ref fa) ⟨[.ref a], []⟩) (fun r s' => r = .ok (.ret (.bool true)) ∧ OldK s₁.heap s'.heap ∧ s'.os = s₁.os ∧ AllBare s'.gens) s₁) :
    WalkO q loose XP YP l.row.toRowW d [] (fun f vs => PySem.call f vs) := by
  intro w s₀ s₁ mg mb G Y fa o pm cd doc dV kV ho hd hcd hD hmg hg args vals as hpre hlay hrd hwl hlo
  obtain rfl : dV = .none := Dflts.none hD hdf
  obtain rfl : kV = .none := Dflts.noKw hD
  obtain ⟨a, vs, ns, rfl, rfl, hobj, hints, hlen⟩ := script_of hn hpre hwl
  refine enter_call (codeAny_mono (call w s₀ s₁ mg mb fa o pm cd doc a vs ns G Y ho (fd_plain hd) hcd hmg hobj hints hlen hg) fun r s' hq => ?_)
  obtain ⟨rfl, h2, h3, h4⟩ := hq
  exact ⟨.inl ⟨.bool true, .bool true, [], rfl, fun _ => rfl, .bool true, post_true l _, fun _ => ⟨List.Pairwise.nil, fun _ hm => (nomatch hm)⟩⟩, h2, h3, h4⟩

/-! ### rules over ANY heap (no ledger) from facts about the written part K: the library's own take a ledger (News) for what they write -/
section
variable {prog : Program} {w : World} {A : Around} {E : Value → Shared → Prop} {s : Shared} {K : Frag}

/-! the whole heap as the ledger: makes every rule that writes through a ledger a rule over any heap -/
def noObjs (h : Heap) : Heap := { h with objs := #[] }
def ledger (h : Heap) (L d : Addr) : List (Addr × Obj) := (List.range h.objs.size).filterMap fun a => if a = L ∨ a = d then none else (h.get? a).map fun o => (a, o)
end
end Att

namespace L2
open PySem PySem.Spec PyProof.Rows

theorem vals_ints : ∀ {vs : List Value} {ns : List Int}, IntsAre vs ns → Vals (ns.map V.int) vs
  | _, _, .nil => .nil
  | _, _, .cons n t h => .cons ⟨t, rfl⟩ (vals_ints h)

/-- nothing is tracked but the script, known to the object (or it is an object of the module) -/
def Only (H : Hp) : Prop := ∀ b, H b = none ∨ ∃ o xs, H b = some (.frz o (.lst xs))

/-- THE HEAD: the law's promise, at the heap behind the top. F, the promise of the law's def, may use that base is part of the heap (so K.In base, base.Ns mainGlobals mg stand in Mod) -/
theorem law_call {P : Program} {w : World} {K : PySem.W.Frag} {mg mb : Str → Option Value} {CX : CXT} {k : Nat} {fa a : Addr} {fd : FuncData} {x : Str} {sp : Sp} {s₁ : Shared} {vs : List Value} {ns : List Int}
    (KX : K.In s₁.heap) (hns : s₁.heap.Ns mainGlobals mg) (hb : s₁.heap.Ns builtinsNs mb) (hbb : ∀ x : Str, x ≠ "__name__" → mb x = bootBuiltins x) (hlim : s₁.heap.NoLimit) (hg : s₁.gens = #[])
    (ha : s₁.heap.get? a = some { cls := .type "list", data := .seq vs.toArray }) (hi : IntsAre vs ns) (hl : ns.length ≤ sizeLine) (hr : Room k callerA)
    (F : ∀ base : Heap, K.In base → base.Ns mainGlobals mg → FnOk P w K mg base CX k fa fd [x] sp) (hbind : ∀ (s : Shared) (u : Value), BindsTo s fd ⟨[u], []⟩ [(x, u)])
    (hsp : ∀ H : Hp, Only H → SqL K H a (ns.map V.int) → sp [.ref a] H (fun v _ => v = .bl true) fun _ _ _ => False)
    (hCX : ∀ H e s', CX [] H s₁ (fun _ _ _ => False) e s' → False) :
    codeAny (model P w) callerA (.call (.ref fa) ⟨[.ref a], []⟩) (fun r s' => r = .ok (.ret (.bool true)) ∧ OldK s₁.heap s'.heap ∧ s'.os = s₁.os ∧ AllBare s'.gens) s₁ := by
  have rv := vals_ints hi
  have lenV := hi.length
  -- from an abstract heap in which nothing but the script may be tracked
  have core : ∀ H : Hp, Only H → SqL K H a (ns.map V.int) → HOk P w H s₁.heap → (∀ b, H b ≠ none → b = a) → (H a ≠ none → K.lookup a = none) →
      codeAny (model P w) callerA (.call (.ref fa) ⟨[.ref a], []⟩) (fun r s' => r = .ok (.ret (.bool true)) ∧ OldK s₁.heap s'.heap ∧ s'.os = s₁.os ∧ AllBare s'.gens) s₁ := by
    intro H hO hS hok hA hK
    have base_of : ∀ {b : Addr} {o : Obj}, s₁.heap.get? b = some o → H b = none → (hidT s₁.heap H).get? b = some o := fun e n => hidT_get e n
    have noA : ∀ {b : Addr} {o : Obj} {es : Array DictEntry} {ep : Nat}, s₁.heap.get? b = some o → o.data = .dict es ep → H b = none := fun {b o es ep} e d => by
      cases q : H b with
      | none => rfl
      | some u =>
        have e' : b = a := hA b (by rw [q]; simp)
        subst e'
        rw [ha] at e; cases e
        have d' : Data.seq vs.toArray _ = Data.dict es ep := d
        cases d'
    have nsK : ∀ {b : Addr} {m : Str → Option Value}, s₁.heap.Ns b m → (hidT s₁.heap H).Ns b m := fun {b m} ⟨o, es, ep, e, d, r⟩ => ⟨o, es, ep, base_of e (noA e d), d, r⟩
    have hKb : K.In (hidT s₁.heap H) := fun b o e => base_of (KX b o e) (by
      cases q : H b with
      | none => rfl
      | some u =>
        have e' : b = a := hA b (by rw [q]; simp)
        subst e'
        rw [hK (by rw [q]; simp)] at e; cases e)
    have hM : Mod K mg (hidT s₁.heap H) := ⟨hKb, nsK hns, ⟨mb, nsK hb, hbb⟩, let ⟨mc, h1, h2⟩ := hlim; ⟨mc, nsK h1, h2⟩⟩
    have e0 : Env0 P w K mg (hidT s₁.heap H) callerA [] s₁ H := ⟨rfl, hM, fun b o e => of_hidT e, Nat.le_of_eq (hidT_size _ _), trivial, fun b hb => absurd (show b ∈ ([] : List Addr) from hb) (by simp), hok, .of_eq hg⟩
    refine codeAny_mono ((F _ hKb (nsK hns)).run callerA [] s₁ H ⟨[.ref a], []⟩ [.ref a] [.ref a] _ _ hr e0 (hbind s₁ (.ref a)) (.cons rfl .nil) (hsp H hO hS)) fun r s' h => ?_
    cases r with
    | error e => exact (hCX H e s' h).elim
    | ok fl =>
      cases fl with
      | next => exact False.elim h
      | brk => exact False.elim h
      | cont => exact False.elim h
      | ret u =>
        obtain ⟨v, H', os, bare, un, hok', r', q⟩ := h
        have q' : v = .bl true := q
        subst q'
        obtain rfl : u = Value.bool true := r'
        refine ⟨rfl, OldK.of_keep fun b o e => ?_, os, bare⟩
        cases q : H b with
        | none => exact un.keep b o e q (by intro z; exact absurd (show b ∈ ([] : List Addr) from z) (by simp)) (by simp)
        | some u =>
          rcases hO b with z | ⟨ob, xs, z⟩
          · rw [q] at z; cases z
          · have z2 := un.frzs b ob _ z
            obtain ⟨e1, _⟩ := hok b _ z
            obtain ⟨e2, _⟩ := hok' b _ z2
            rw [e] at e1; cases e1
            exact e2
  cases hk : K.lookup a with
  | some o =>
    -- the script is one of the module's own objects
    have e := KX a o hk
    rw [ha] at e
    cases e
    refine core (fun _ => none) (fun _ => .inl rfl) (.inr ⟨_, vs.toArray, _, hk, rfl, rfl, rfl, by rw [List.size_toArray, lenV]; exact hl, by simpa using rv⟩) (fun b u z => by have z' : (none : Option HO) = some u := z; cases z') (fun b z => absurd rfl z) fun z => absurd rfl z
  | none =>
    refine core (fun b => if b = a then some (.frz { cls := .type "list", data := .seq vs.toArray } (.lst (ns.map V.int))) else none) (fun b => ?_) (.inl (.inr ⟨{ cls := .type "list", data := .seq vs.toArray }, if_pos rfl⟩)) (fun b u z => ?_) (fun b z => ?_) fun _ => hk
    · by_cases hb : b = a
      · exact .inr ⟨_, _, if_pos hb⟩
      · exact .inl (if_neg hb)
    · by_cases hb : b = a
      · have z' := (if_pos hb).symm.trans z
        cases z'
        subst hb
        exact ⟨ha, by rw [List.length_map]; exact hl, vs, _, rv, ha⟩
      · have z' := (if_neg hb).symm.trans z
        cases z'
    · by_cases hb : b = a
      · exact hb
      · exact absurd (if_neg hb) z
end L2

namespace L2
open PySem PySem.Spec PyProof.Rows

abbrev KOf {K : PySem.W.Frag} {h : Heap} (_ : K.In h) : PySem.W.Frag := K

/-- the goal that k_head leaves (case hc), from the law's promise. F gives the function object fd (K's own) once, then the promise over every base -/
theorem walk_of {l : PySem.W.OpenLaw} {n k : Nat} {q : Program} {loose : List Str} {XP : (Str → Option Value) → Heap → Prop} {YP : World → Heap → Prop} {d : DefRec} {K : Params → PySem.W.Frag} {CX : World → CXT} {sp : World → Sp} {x : Str}
    (hn : l.most = some n) (hn2 : n ≤ sizeLine) (hdf : d.params.defaults = []) (hr : Room k callerA)
    (hY : ∀ (w : World) (h : Heap), YP w h → (K w.params).In h)
    (F : ∀ (w : World) (mg : Str → Option Value) (fa : Addr) (h : Heap), (K w.params).In h → h.Ns mainGlobals mg → mg d.name = some (.ref fa) →
      ∃ fd : FuncData, (∀ (s : Shared) (u : Value), BindsTo s fd ⟨[u], []⟩ [(x, u)]) ∧
        ∀ base : Heap, (K w.params).In base → base.Ns mainGlobals mg → FnOk l.prog w (K w.params) mg base (CX w) k fa fd [x] (sp w))
    (hsp : ∀ (w : World) (H : Hp) (a : Addr) (ns : List Int), ns.length ≤ n → Only H → SqL (K w.params) H a (ns.map V.int) → sp w [.ref a] H (fun v _ => v = .bl true) fun _ _ _ => False)
    (hCX : ∀ (w : World) (H : Hp) (s : Shared) (e : Value) (s' : Shared), CX w [] H s (fun _ _ _ => False) e s' → False) :
    PySem.W.WalkO q loose XP YP l.row.toRowW d [] (fun f vs => PySem.call f vs) := by
  refine Att.attach_call hn hdf fun w s₀ s₁ mg mb fa o pm cd doc a vs ns G Y ho hd hcd hmg hobj hints hlen hg => ?_
  have KX := hY w _ Y
  obtain ⟨fd, hb, hF⟩ := F w mg fa _ KX G.T.g hmg
  exact law_call KX G.T.g G.T.b G.T.builtins G.T.nolimit hg hobj hints (Nat.le_trans hlen hn2) hr hF hb (fun H hO hS => hsp w H a ns hlen hO hS) fun H e s' => hCX w H s₁ e s'
end L2

/- THE LAST THEOREM (shape; LID, My.* are yours):
   My.Adr: a structure of the addresses that your layer names (classes, functions); My.Txt K t: a structure (Prop) of the equations over K;
   My.txt_mk : {K} {implicit addresses ..} (e1 : nsIn K mainGlobals "law" = some (some (.ref f))) (e2 : K.lookup f = some ⟨oc, od, .func (fnOf "law" "law" params body scope dV kV doc pm an cdv ct), sl⟩) (e3 : codeIn K cdv "law" = true) .. : ∃ t, My.Txt K t

set_option maxRecDepth 100000 in
set_option maxHeartbeats 0 in
theorem PySem.Challenge.cw_LID_holds : PySem.Challenge.rw_LID.Holds := by
  w_on; o_law; k_head; (case hw => w_witness2)
  k_fill
  refine L2.walk_of (l := PySem.Challenge.rw_LID) (n := 63) (k := 40) (x := "script") (CX := fun w => ..) (sp := fun _ => My.sp_law) rfl (by decide) rfl ⟨rfl, by decide, by decide⟩ (fun w h Y => PySem.W.kIn_of Y) ?F ?S ?C
  case F =>
    intro w mg fa h KX G hmg
    have T : ∃ t, My.Txt (L2.KOf KX) t := by
      dsimp only [L2.KOf]                          -- K must stand as «<heap const> w.params» for k_is
      refine' My.txt_mk ?e1 ?e2 ?e3 ..
      (case e1 => PySem.W.k_is)                    -- in the order: a name -> its address -> its object -> its parts
      (case e2 => PySem.W.k_is)
      ..
    obtain ⟨t, T⟩ := T
    have e0 := hmg.symm.trans (PySem.W.mg_of KX G T.law)
    cases e0                                       -- fa is the law's own address
    exact ⟨_, fun s u => .of_eq rfl, fun base kb nb => My.law_fn T kb nb⟩     -- if «.of_eq rfl» comes too early: refine' ⟨_, ?b, fun base kb nb => My.law_fn T kb nb⟩; exact fun s u => .of_eq rfl
  case S => exact fun w H a ns hl hO hS => ..
  case C => exact ..
(the tactic k_is has no namespace: write k_is) -/

/-! SHORT WORDS over the layer: a def of the text, its body, what a loop and a test want. -/
namespace L2
open PySem PySem.Spec PyProof.Rows

/-! ### the text by places -/
/-- the j-th statement of a class's body -/
def inClass (s : Stmt) (j : Nat) : Stmt := match s with
  | .ClassDef _ _ _ body _ _ _ _ _ _ _ => body.getD j (.Pass ⟨0, 0, 0, 0⟩)
  | _ => .Pass ⟨0, 0, 0, 0⟩
def defArgs (s : Stmt) : Arguments := match s with
  | .FunctionDef _ a _ _ _ _ _ _ _ _ => a
  | _ => { posonlyargs := [], args := [], vararg := none, kwonlyargs := [], kw_defaults := [], kwarg := none, defaults := [] }
def defBody (s : Stmt) : List Stmt := match s with
  | .FunctionDef _ _ b _ _ _ _ _ _ _ => b
  | _ => []
def defScope (s : Stmt) : Scope := match s with
  | .FunctionDef _ _ _ _ _ _ sc _ _ _ => sc
  | _ => { kind := .function, names := [], isGenerator := false, isCoroutine := false }

/-! ### no exception leaves a def -/
abbrev CX0 : CXT := fun _ _ _ _ _ _ => False
abbrev E0 : XK := fun _ _ _ => False
theorem pass0 {X : Cx} : Passes CX0 X E0 := fun _ _ _ _ _ _ _ h => h.elim

/-! ### a def (or method) of the text as it stands behind the top -/
structure Fun (K : PySem.W.Frag) (x qual : Str) (st : Stmt) (f : Addr) (fd : FuncData) : Prop where
  ex : ∃ (oc : Value) (od : Option Addr) (kV doc pm : Value) (an : Option Addr) (cdv ct : Value) (osl : Array (Option Value)),
    fd = PySem.W.fnOf x qual (defArgs st) (defBody st) (defScope st) .none kV doc pm an cdv ct ∧ K.lookup f = some ⟨oc, od, .func fd, osl⟩ ∧ PySem.W.codeIn K cdv qual = true
  kp : PySem.W.keepIn K (.ref f) = true
section
variable {P : Program} {w : World} {K : PySem.W.Frag} {mg : Str → Option Value} {base : Heap}
/-- THE RULE for a def: its body as a term of rules, and the reading of that term -/
theorem Fun.ok {x qual : Str} {st : Stmt} {f : Addr} {fd : FuncData} {N ps : List Str} {k : Nat} {sp : Sp} (F : Fun K x qual st f fd) (S : FnScope N ps (defScope st)) (len : ∀ vs H Q E, sp vs H Q E → vs.length = ps.length)
    (hbody : ∀ (cdv : Value) (A : Around) (outer : List Env) (s : Shared) (H : Hp) (vs : List V) (Q : VK) (E : XK), Room k (A.deeper (envOfC qual (defScope st) s.heap.objs.size f cdv)) → sp vs H Q E →
      ∃ t, PSs (cxOf CX0 P w K mg base N qual (defScope st) f cdv A outer s H E).nox (defBody st) t ∧ t { nx := fun _ H' => Q .non H', rt := Q } (start N vs) H) : FnOk P w K mg base CX0 (k + 1) f fd ps sp := by
  obtain ⟨oc, od, kV, doc, pm, an, cdv, ct, osl, rfl, lk, hcd⟩ := F.ex
  refine fn_of lk hcd S len fun A outer s H vs Q E hr hsp => ?_
  obtain ⟨t, h, q⟩ := hbody cdv A outer s H vs Q E hr hsp
  exact ⟨t, h.nox, q⟩
/-- how its arguments bind (no defaults): h is «fun _ _ _ _ _ _ us hl => match us, hl with | [_, _], _ => rfl», one _ a parameter -/
theorem Fun.binds {x qual : Str} {st : Stmt} {f : Addr} {fd : FuncData} {ps : List Str} (F : Fun K x qual st f fd)
    (h : ∀ (kV doc pm : Value) (an : Option Addr) (cdv ct : Value) (us : List Value), us.length = ps.length → bindArgs (PySem.W.fnOf x qual (defArgs st) (defBody st) (defScope st) .none kV doc pm an cdv ct) ⟨us, []⟩ = pure (ps.zip us)) : Binds K fd ps [] := by
  obtain ⟨oc, od, kV, doc, pm, an, cdv, ct, osl, rfl, lk, hcd⟩ := F.ex
  exact .all (h kV doc pm an cdv ct)
theorem fun_mk {x qual : Str} {st : Stmt} {f : Addr} {oc : Value} {od an : Option Addr} {osl : Array (Option Value)} {kV doc pm cdv ct : Value} (l : K.lookup f = some ⟨oc, od, .func (PySem.W.fnOf x qual (defArgs st) (defBody st) (defScope st) .none kV doc pm an cdv ct), osl⟩)
    (c : PySem.W.codeIn K cdv qual = true) (k : PySem.W.keepIn K (.ref f) = true) : Fun K x qual st f (PySem.W.fnOf x qual (defArgs st) (defBody st) (defScope st) .none kV doc pm an cdv ct) := ⟨⟨oc, od, kV, doc, pm, an, cdv, ct, osl, rfl, l, c⟩, k⟩
end
theorem small1000 {n : Nat} (h : n ≤ 1000) : n < sizeLine := Nat.lt_of_le_of_lt h (by decide)

/-! ### expressions in short: the name that stands in the i-th slot -/
section
variable {X : Cx}
theorem pv (i : Nat) {x : Str} {pos : Pos} (hN : X.N[i]? = some x := by rfl) (hv : Vis X.env.scope x := by first | exact Or.inl rfl | exact Or.inr (Or.inl rfl) | exact Or.inr (Or.inr rfl)) (hd : (x == ("__debug__" : Str)) = false := by decide)
    (hcd : (x == ("__classdict__" : Str)) = false := by decide) : PE X (.Name x pos) (tVar i) := pe_var hN hv hd hcd
end

/-! ### tests -/
theorem iteF {A B : Prop} (h : B) : if false = true then A else B := by
  rw [if_neg Bool.false_ne_true]
  exact h
theorem iteT {A B : Prop} (h : A) : if true = true then A else B := by
  rw [if_pos rfl]
  exact h
theorem ite2 {c A B : Prop} [Decidable c] (h1 : c → A) (h2 : ¬ c → B) : if c then A else B := by
  by_cases h : c
  · rw [if_pos h]
    exact h1 h
  · rw [if_neg h]
    exact h2 h
/-! ### heaps -/
/-- all that was tracked is as it was -/
def Same (H H' : Hp) : Prop := ∀ b o, H b = some o → H' b = some o
theorem Same.trans {H H1 H2 : Hp} (a : Same H H1) (b : Same H1 H2) : Same H H2 := fun c o h => b c o (a c o h)
theorem Same.free {H H' : Hp} (e : Same H H') {l : Addr} (h : H' l = Option.none) : H l = Option.none := by
  cases q : H l with
  | none => rfl
  | some o =>
    rw [e l o q] at h
    cases h
end L2

end
section
set_option Elab.async false
set_option linter.all false
set_option maxRecDepth 100000
/-! A list comprehension with one clause, over anything that a loop walks; its block may call and write. -/
namespace L2
open PySem PySem.Spec PyProof.Rows

theorem forIn_all {α β : Type} (Iv : List α → β → Prop) {f : α → β → Sem (ForInStep β)} (h : ∀ x r c, Iv (x :: r) c → ∃ c', f x c = pure (.yield c') ∧ Iv r c') :
    ∀ (l : List α) (c : β), Iv l c → ∃ c', forIn l c f = pure c' ∧ Iv [] c'
  | [], c, i => ⟨c, rfl, i⟩
  | x :: l, c, i => by
    obtain ⟨c1, e, i1⟩ := h x l c i
    obtain ⟨c2, e2, i2⟩ := forIn_all Iv h l c1 i1
    exact ⟨c2, by rw [List.forIn_cons, e, pure_bind]; exact e2, i2⟩

theorem closureFor_of {scope : Scope} {env : Env} (h : ∀ y ∈ scope.names, y.2 = .free → ∃ c, env.cells.lookup y.1 = some c) :
    ∃ cl, closureFor scope env = pure cl ∧ (∀ y c, cl.lookup y = some c → env.cells.lookup y = some c) ∧ ∀ y, (y, NameKind.free) ∈ scope.names → ∃ c, cl.lookup y = some c := by
  have key := forIn_all (f := fun (x : Str × NameKind) (cs : List (Str × Addr)) => (match x with
      | (name, kind) => if kind == .free then (do let a ← cellOf env name; pure (ForInStep.yield ((name, a) :: cs))) else pure (ForInStep.yield cs) : Sem (ForInStep (List (Str × Addr)))))
    (fun rest cs => ∃ done, scope.names = done ++ rest ∧ (∀ y c, cs.lookup y = some c → env.cells.lookup y = some c) ∧ ∀ y, (y, NameKind.free) ∈ done → ∃ c, cs.lookup y = some c)
    (fun x r cs ⟨done, e, h1, h2⟩ => ?_) scope.names [] ⟨[], rfl, fun y c z => by simp at z, fun y z => by simp at z⟩
  · obtain ⟨cl, e, done, ed, h1, h2⟩ := key
    refine ⟨cl, ?_, h1, fun y hy => h2 y (by rw [ed, List.append_nil] at hy; exact hy)⟩
    unfold closureFor
    have : ∀ m : Sem (List (Str × Addr)), m = pure cl → (m >>= fun cs => pure cs) = (pure cl : Sem (List (Str × Addr))) := fun m q => by rw [q]; rfl
    exact this _ e
  · obtain ⟨name, kind⟩ := x
    by_cases hk : kind = .free
    · subst hk
      obtain ⟨c, hc⟩ := h (name, .free) (by rw [e]; simp) rfl
      refine ⟨(name, c) :: cs, ?_, done ++ [(name, .free)], by rw [e]; simp, fun y c' z => ?_, fun y hy => ?_⟩
      · show (if (NameKind.free == NameKind.free) = true then _ else _) = _
        rw [if_pos (show (NameKind.free == NameKind.free) = true from rfl)]
        unfold cellOf
        rw [show env.cells.lookup name = some c from hc]
        rfl
      · by_cases q : y = name
        · subst q
          rw [List.lookup_cons, show (y == y) = true from beq_self_eq_true y] at z
          cases z
          exact hc
        · rw [List.lookup_cons, show (y == name) = false from beq_eq_false_iff_ne.mpr q] at z
          exact h1 y c' z
      · by_cases q : y = name
        · subst q
          exact ⟨c, by rw [List.lookup_cons, show (y == y) = true from beq_self_eq_true y]⟩
        · rcases List.mem_append.mp hy with m | m
          · obtain ⟨c', e'⟩ := h2 y m
            exact ⟨c', by rw [List.lookup_cons, show (y == name) = false from beq_eq_false_iff_ne.mpr q]; exact e'⟩
          · have : (y, NameKind.free) = (name, NameKind.free) := by simpa using m
            exact absurd (congrArg Prod.fst this) q
    · refine ⟨cs, ?_, done ++ [(name, kind)], by rw [e]; simp, h1, fun y hy => ?_⟩
      · show (if (kind == NameKind.free) = true then _ else _) = _
        rw [if_neg (by simpa using hk)]
      · rcases List.mem_append.mp hy with m | m
        · exact h2 y m
        · have : (y, NameKind.free) = (name, kind) := by simpa using m
          exact absurd (congrArg Prod.snd this).symm hk

/-- the context of a comprehension's block -/
def cxComp (X : Cx) (scope : Scope) (cl : List (Str × Addr)) (C : Addr) (N : List Str) (s : Shared) (H : Hp) (fp : List Addr) : Cx :=
  { X with N := N, s₀ := s, H₀ := H, env := compEnvC scope cl C X.env, outer := X.stack, stack := X.stack, ex := fp, fn := fun _ => false, pn := [], xe := fun _ _ => False }

/-- captured names: fr, at the places js of the def's names -/
def capOk (NX : List Str) (sn names : List (Str × NameKind)) (fr : List Str) (js : List Nat) : Bool :=
  (fr.length == js.length) && (fr.zip js).all fun p => decide (NX[p.2]? = some p.1) && decide (names.lookup p.1 = some .free) && decide (sn.lookup p.1 = some .cell)
/-- the scope of the block: its own names are local, the free ones are cells outside -/
def scOk (sn names : List (Str × NameKind)) : Bool :=
  names.all fun y => (decide (y.2 = .local) && decide (names.lookup y.1 = some .local)) || (decide (y.2 = .free) && decide (sn.lookup y.1 = some .cell)) || decide (y.2 = .globalImplicit)
def cap (js : List Nat) (σ : St) : St := js.map fun j => (σ[j]?).join

def tComp (wi : TI) (g : TG) (tc : TT) (te : TE) (k : Nat) (js : List Nat) : TE := fun σ H Q => wi σ H fun J H1 => ∀ D, H1 D = none →
  ∃ W : Nat → Nat → List V → Hp → Prop, (∃ m, W 0 m [] (upd H1 D (.lst []))) ∧ ∀ i m ys H, W i m ys H → H D = some (.lst ys) →
    (J.stop i H ∧ Q (.ref D) H) ∨ (J.go i H ∧ ∀ x H', J.yld i H x H' → g x (List.replicate k none ++ cap js σ) H' fun σ2 H2 => σ2.drop k = cap js σ ∧ tc σ2 H2 fun b H3 =>
      if b = true then te σ2 H3 fun y H4 => H4 D = some (.lst ys) ∧ ys.length < sizeLine ∧ ∃ m', m' < m ∧ W (i + 1) m' (ys ++ [y]) (upd H4 D (.lst (ys ++ [y])))
      else H3 D = some (.lst ys) ∧ ∃ m', m' < m ∧ W (i + 1) m' ys H3)

section
variable {prog : Program} {w : World} {A : Around} {R : Result → Shared → Prop} {s : Shared}
theorem compLoop_any {elt target iter : Expr} {ifs : List Expr} {scope : Scope} {pos : Pos} {it acc : Value} {env : Env} (I : Nat → Shared → Prop)
    (turn : ∀ n s, I n s → wpAny (model prog w) A (pyNext it) (fun r s₁ => match r with
      | none => R (.ok .next) s₁
      | some v => wpAny (model prog w) A (letOwnedTupleGo target it v) (fun _ s₁' => wpAny (model prog w) A (assign target env v) (fun _ s₂ =>
          wpAny (model prog w) A (forIn ifs true fun c r => if r = true then do let ok ← isTrue c env (eval c env); pure (ForInStep.yield ok) else pure (ForInStep.yield r)) (fun ok s₃ =>
            if ok = true then wpAny (model prog w) A (eval elt env) (fun x s₄ =>
              wpAny (model prog w) A (call (.builtin "list.append") [acc, x]) (fun _ s₅ => ∃ m, m < n ∧ I m s₅) (fun _ _ => False) s₄) (fun _ _ => False) s₃
            else ∃ m, m < n ∧ I m s₃) (fun _ _ => False) s₂) (fun _ _ => False) s₁') (fun _ _ => False) s₁) (fun _ _ => False) s)
    (n : Nat) (h : I n s) :
    codeAny (model prog w) A (.compLoop (.ListComp elt [⟨target, iter, ifs, 0⟩] scope pos) 0 it acc env) R s := by
  refine codeAny_loop rfl I (fun n s hI => ?_) n h
  show wpAny _ A ((compTurn (.ListComp elt [⟨target, iter, ifs, 0⟩] scope pos) 0 it acc env).onRaise (fun x => do noteFrame x env; theTreesLotGoes x)) _ _ s
  refine wpAny_noted ?_
  rw [compTurn_list]
  refine wpAny_bind (wpAny_standAt (wpAny_bind (wpAny_mono (turn n s hI) (fun r s₁ h₁ => ?_) fun _ _ h' => h'.elim)))
  cases r with
  | none => exact wpAny_pure h₁
  | some v =>
    refine wpAny_bind (wpAny_mono h₁ (fun _ s₁' h₁' => ?_) fun _ _ h' => h'.elim)
    refine wpAny_bind (wpAny_mono h₁' (fun _ s₂ h₂ => wpAny_bind (wpAny_mono h₂ (fun ok s₃ h₃ => ?_) fun _ _ h' => h'.elim)) fun _ _ h' => h'.elim)
    cases ok with
    | false => exact wpAny_pure ⟨rfl, h₃⟩
    | true =>
      exact wpAny_bind (wpAny_bind (wpAny_mono h₃ (fun x s₄ h₄ => wpAny_bind (wpAny_mono h₄ (fun _ s₅ h₅ => wpAny_pure (wpAny_pure ⟨rfl, h₅⟩)) fun _ _ h' => h'.elim)) fun _ _ h' => h'.elim))
end

/-- the tests of a comprehension: none, or one -/
def PTs (X : Cx) (ifs : List Expr) (t : TT) : Prop :=
  ∀ (pins : List (Addr × Obj)) (s : Shared) (σ : St) (H : Hp) (Q : Bool → Hp → Prop), Inv X pins σ H s → t σ H Q →
    wpAny (model X.prog X.w) X.A (forIn ifs true fun c r => if r = true then do let ok ← isTrue c X.env (eval c X.env); pure (ForInStep.yield ok) else pure (ForInStep.yield r)) (TP X pins σ Q) X.xe s
def tAlways : TT := fun _ H Q => Q true H
theorem pts_nil {X : Cx} : PTs X [] tAlways := fun _ _ _ H _ I h => wpAny_tests_nil ⟨H, I, h⟩
theorem relabel_mem {scope : Scope} {env : Env} {y : Str} {k : NameKind} (h : (relabel scope env).names.lookup y = some k) : ∃ k0, (y, k0) ∈ scope.names ∧ (k = k0 ∨ (k0 = .free ∧ k = .cell)) := by
  have m := PySem.mem_of_lookup h
  obtain ⟨⟨n, k0⟩, hm, e⟩ := List.mem_map.mp (show (y, k) ∈ scope.names.map _ from m)
  by_cases c : (k0 == NameKind.free && env.scope.kind == .function && env.kindOf n == some .cell) = true
  · have e : (if (k0 == NameKind.free && env.scope.kind == .function && env.kindOf n == some .cell) = true then (n, NameKind.cell) else (n, k0)) = (y, k) := e
    rw [if_pos c] at e
    have e1 := congrArg Prod.fst e
    have e2 := congrArg Prod.snd e
    subst e1 e2
    refine ⟨k0, hm, .inr ⟨?_, rfl⟩⟩
    rw [Bool.and_eq_true, Bool.and_eq_true] at c
    simpa using c.1.1
  · have e : (if (k0 == NameKind.free && env.scope.kind == .function && env.kindOf n == some .cell) = true then (n, NameKind.cell) else (n, k0)) = (y, k) := e
    rw [if_neg c] at e
    have e1 := congrArg Prod.fst e
    have e2 := congrArg Prod.snd e
    subst e1 e2
    exact ⟨_, hm, .inl rfl⟩

section
variable {X : Cx}
/-- a frame that was the block's own and is let go: nothing of the def's -/
structure CFree (X : Cx) (pins : List (Addr × Obj)) (H : Hp) (C : Addr) : Prop where
  fr : H C = none
  ne : C ≠ X.env.locals
  ab : X.s₀.heap.objs.size ≤ C
  ce : ∀ x c, X.env.cells.lookup x = some c → c ≠ C
  pn : ∀ p ∈ X.pn ++ pins, p.1 ≠ C
theorem CFree.turn {pins : List (Addr × Obj)} {σ : St} {H : Hp} {C : Addr} {s : Shared} {h' : Heap} (F : CFree X pins H C) (I : Inv X pins σ H s) (hs : Heap.SameBut C s.heap h') : Inv X pins σ H { s with heap := h' } :=
  I.turned (t' := s.toks) (it := C) (fun b o nb e => hs.extBut b o nb e) F.fr F.ne (.inr F.ab) F.ce F.pn

theorem comp_core {elt tg iter : Expr} {ifs : List Expr} {scope : Scope} {pos pos' : Pos} {wi : TI} {g : TG} {tc : TT} {te : TE} (own fr : List Str) (js : List Nat) (NX : List Str) (sn : List (Str × NameKind)) (hcalm : X.calm = true)
    (hi : PI X tg iter wi)
    (hg : ∀ cl C s H fp, PG (cxComp X scope cl C (own ++ fr) s H fp) tg g) (ht : ∀ cl C s H fp, PTs (cxComp X scope cl C (own ++ fr) s H fp) ifs tc) (he : ∀ cl C s H fp, PE (cxComp X scope cl C (own ++ fr) s H fp) elt te)
    (hN : X.N = NX) (hsn : X.env.scope.names = sn) (hkind : scope.kind = .function)
    (hcap : capOk NX sn scope.names fr js = true) (hsc : scOk sn scope.names = true)
    (hs : ∀ x, foldedSetIterable iter X.env x = pure x) {use : Option (Value → Sem Unit)} {QQ : Value → Shared → Prop}
    {pins : List (Addr × Obj)} {s : Shared} {σ : St} {H : Hp} {Q : VK} (I : Inv X pins σ H s) (h : tComp wi g tc te own.length js σ H Q)
    (fin : ∀ (D C : Addr) (H' : Hp) (s' : Shared) (m : Str → Option Value), Inv X pins σ H' s' → s'.heap.Ns C m → CFree X pins H' C → Q (.ref D) H' → compPost (model X.prog X.w) X.A X.xe use QQ (.ref D) C (.ok .next) s') :
    wpAny (model X.prog X.w) X.A (comprehension (.ListComp elt [⟨tg, iter, ifs, 0⟩] scope pos) scope X.env pos' (newList []) false (eval iter X.env) use) QQ X.xe s := by
  subst hN hsn
  unfold capOk at hcap
  rw [Bool.and_eq_true, List.all_eq_true] at hcap
  obtain ⟨hlen, hcap⟩ := hcap
  have hlen : fr.length = js.length := by simpa using hlen
  unfold scOk at hsc
  rw [List.all_eq_true] at hsc
  have names : ∀ y ∈ scope.names, (y.2 = .local ∧ scope.names.lookup y.1 = some .local) ∨ (y.2 = .free ∧ X.env.scope.names.lookup y.1 = some .cell) ∨ y.2 = .globalImplicit := fun y hy => by
    have := hsc y hy
    simpa [or_assoc] using this
  have hcell : ∀ y ∈ scope.names, y.2 ≠ .cell := fun y hy z => by
    rcases names y hy with ⟨q, _⟩ | ⟨q, _⟩ | q <;> rw [z] at q <;> cases q
  have hnames : ∀ y ∈ scope.names, y.2 = .local → scope.names.lookup y.1 = some .local := fun y hy z => by
    rcases names y hy with ⟨_, q⟩ | ⟨q, _⟩ | q
    · exact q
    · rw [z] at q; cases q
    · rw [z] at q; cases q
  have hfree : ∀ y ∈ scope.names, y.2 = .free → X.env.scope.names.lookup y.1 = some .cell := fun y hy z => by
    rcases names y hy with ⟨q, _⟩ | ⟨_, q⟩ | q
    · rw [z] at q; cases q
    · exact q
    · rw [z] at q; cases q
  obtain ⟨cl, hclos, hcl, hclh⟩ := closureFor_of (scope := scope) (env := X.env) fun y hy z => I.ok.has y.1 (.inl (hfree y hy z))
  refine wpAny_comprehension_free (use := use) rfl hs hclos hkind hnames (thn (hi pins s σ H _ I h) fun v s1 h1 => thn h1 fun itv s2 h2 => ?_)
  obtain ⟨it, fp, tn, J, H2, e, I2, T, st2, f2, h2⟩ := h2
  subst e
  have hD : H2 s2.heap.objs.size = none := I2.fresh
  obtain ⟨W, ⟨m0, w0⟩, turn⟩ := h2 s2.heap.objs.size hD
  refine wpAny_newObj_type (wpAny_newFunctionEnv hcell (by intro y hy; simp at hy) (fun h₁ hns₁ hsb₁ => ?_) hkind)
  dsimp only at hns₁ hsb₁ ⊢
  generalize hH2 : s2.heap.push { cls := .type "list", dict := none, data := .seq ([] : List Value).toArray } = G2 at hns₁ hsb₁ ⊢
  have hC : G2.objs.size = s2.heap.objs.size + 1 := by rw [← hH2, Heap.size_push]
  have hDC : s2.heap.objs.size ≠ G2.objs.size := by rw [hC]; exact Nat.ne_of_lt (Nat.lt_succ_self _)
  have ltC : ∀ b o, s2.heap.get? b = some o → b ≠ G2.objs.size := fun b o q => by
    have := Heap.lt_size q
    rw [hC]
    exact Nat.ne_of_lt (Nat.lt_succ_of_lt this)
  have old : ∀ b o, s2.heap.get? b = some o → h₁.get? b = some o := fun b o e =>
    hsb₁.extBut b o (ltC b o e) (Heap.get?_push_of_some _ (hH2 ▸ Heap.get?_push_of_some _ e))
  have hacc : h₁.get? s2.heap.objs.size = some { cls := .type "list", data := .seq ([] : List Value).toArray } := hsb₁.extBut _ _ hDC (Heap.get?_push_of_some _ (hH2 ▸ Heap.get?_push_size _ rfl))
  -- the block's context
  let Y : Cx := cxComp X scope cl G2.objs.size (own ++ fr) s2 H2 fp
  let σ0 : St := List.replicate own.length none ++ cap js σ
  have bfs : ∀ b ∈ fp, b ∉ frs X.stack := fun b hb z => (List.mem_cons.mp (I2.stkSub b z)).elim (f2 b hb).2.1 (f2 b hb).2.2.1
  have okY : Y.Ok := by
    refine ⟨I2.ok.mod, hkind, I2.ok.glob, I2.ok.blt, ?_, fun x y c h1 h2 => I2.ok.inj x y c (hcl x c h1) (hcl y c h2), fun y hy => ?_, fun x c q => ?_, I2.ok.hd, I2.ok.frames, .inl rfl, fun b hb => ⟨?_, fun x c q => (f2 b hb).2.2.2.2.1 x c (hcl x c q)⟩, I2.bs, Nat.le_trans I2.ok.bsz I2.sz, fun b o q hb => ?_, bfs, I2.stack, I2.stkFree⟩
    · show s2.heap.objs.size ≤ G2.objs.size
      rw [hC]; exact Nat.le_succ _
    · have hy : (relabel scope X.env).names.lookup y = some .cell ∨ (relabel scope X.env).names.lookup y = some .free := hy
      rcases hy with hy | hy
      · obtain ⟨k0, hm, q | ⟨q, _⟩⟩ := relabel_mem hy
        · exact absurd q.symm (hcell _ hm)
        · exact hclh y (q ▸ hm)
      · obtain ⟨k0, hm, q | ⟨q, _⟩⟩ := relabel_mem hy
        · exact hclh y (q ▸ hm)
        · exact hclh y (q ▸ hm)
    · exact absurd (show false = true from q) Bool.false_ne_true
    · obtain ⟨o, q, _⟩ := T.obj 0 s2.heap st2 b hb
      exact ltC b o q
    · have hb' := f2 b hb
      rcases hb'.2.2.2.1 with z | z
      · exact I2.ok.noex b o q z
      · exact absurd (Nat.lt_of_lt_of_le (Heap.lt_size q) (Nat.le_trans I2.ok.bsz z)) (Nat.lt_irrefl _)
  have pinX : ∀ p ∈ X.pn ++ pins, p.1 ≠ G2.objs.size ∧ p.1 ∉ frs X.stack := fun p hp => by
    obtain ⟨e, n, ne, nf, d⟩ := I2.pin p hp
    exact ⟨ltC _ _ e, fun z => (List.mem_cons.mp (I2.stkSub _ z)).elim ne nf⟩
  have lenY : σ0.length = (own ++ fr).length := by
    show (List.replicate own.length none ++ cap js σ).length = _
    rw [List.length_append, List.length_replicate, List.length_append, cap, List.length_map, hlen]
  have IY : ∀ tk, Inv Y (X.pn ++ pins) σ0 (upd H2 s2.heap.objs.size (.lst [])) { s2 with heap := h₁, toks := tk } := fun tk => by
    refine ⟨okY, rfl, I2.bare, Un.laid old (Nat.le_refl _) hD, ⟨_, hns₁, fun i y v e1 e2 e3 => ?_⟩, fun y c q => ?_, ?_, fun y c q => ?_, fun p hp => ?_, I2.hok.laid old (Nat.le_refl _) ⟨Nat.zero_le _, [], 0, .nil, hacc⟩, lenY⟩
    · -- a captured name
      have e2 : (List.replicate own.length none ++ cap js σ)[i]? = some (some v) := e2
      have e1 : (own ++ fr)[i]? = some y := e1
      have hi : own.length ≤ i := by
        refine Nat.le_of_not_lt fun z => ?_
        rw [List.getElem?_append_left (by simpa using z), List.getElem?_replicate] at e2
        split at e2 <;> cases e2
      rw [List.getElem?_append_right (by simpa using hi), List.length_replicate, cap, List.getElem?_map] at e2
      rw [List.getElem?_append_right hi] at e1
      cases ej : js[i - own.length]? with
      | none => rw [ej] at e2; cases e2
      | some j =>
        rw [ej] at e2
        have e2 : (σ[j]?).join = some v := Option.some.inj e2
        have eσ : σ[j]? = some (some v) := by
          cases q : σ[j]? with
          | none => rw [q] at e2; cases e2
          | some o => rw [q] at e2; rw [show o = some v from e2]
        have hm : (y, j) ∈ fr.zip js := List.mem_of_getElem? (i := i - own.length) (by rw [List.getElem?_zip_eq_some]; exact ⟨e1, ej⟩)
        have hc := hcap _ hm
        simp only [Bool.and_eq_true, decide_eq_true_eq] at hc
        obtain ⟨⟨c1, c2⟩, c3⟩ := hc
        obtain ⟨m, hn, hl⟩ := I2.loc
        obtain ⟨u, r, l⟩ := hl j y v c1 eσ (.inr (.inl c3))
        rcases l with ⟨hk, _⟩ | ⟨_, c, hcc, hv⟩
        · exact absurd (c3.symm.trans hk) (by intro z; cases z)
        · obtain ⟨c', ec'⟩ := hclh y (PySem.mem_of_lookup c2)
          have : c' = c := Option.some.inj ((hcl y c' ec').symm.trans hcc)
          subst this
          refine ⟨u, r, .inr ⟨?_, c', ec', ?_⟩⟩
          · have e3 : Vis (relabel scope X.env) y := e3
            rcases e3 with q | q | q
            · obtain ⟨k0, hm, z | ⟨_, z⟩⟩ := relabel_mem q
              · have := hnames _ hm z.symm
                rw [c2] at this; cases this
              · cases z
            · exact .inl q
            · exact .inr q
          · obtain ⟨o, ho, hd⟩ := hv
            exact ⟨o, old _ _ ho, hd⟩
    · obtain ⟨v, o, ho, hd⟩ := I2.cell y c (hcl y c q)
      exact ⟨v, o, old _ _ ho, hd⟩
    · show upd H2 s2.heap.objs.size (.lst []) G2.objs.size = none
      rw [upd_ne (Ne.symm hDC)]
      exact I2.hok.fresh (by rw [hC]; exact Nat.le_succ _)
    · obtain ⟨v, o, ho, hd⟩ := I2.cell y c (hcl y c q)
      rw [upd_ne (Nat.ne_of_lt (Heap.lt_size ho))]
      exact I2.freeC y c (hcl y c q)
    · have hp : p ∈ X.pn ++ pins := by simpa [Y, cxComp] using hp
      obtain ⟨e, n, ne, nf, d⟩ := I2.pin p hp
      exact ⟨old _ _ e, by rw [upd_ne (Nat.ne_of_lt (Heap.lt_size e))]; exact n, (pinX p hp).1, (pinX p hp).2, d⟩
  have fpY : ∀ {H' : Hp}, (∀ b ∈ fp, H' b = none) → ∀ b ∈ fp, FpOk Y (X.pn ++ pins) H' b := fun {H'} hn b hb => by
    refine ⟨hn b hb, (okY.exf b hb).1, bfs b hb, .inl hb, (okY.exf b hb).2, fun p hp => ?_⟩
    have hp : p ∈ X.pn ++ pins := by simpa [Y, cxComp] using hp
    exact (f2 b hb).2.2.2.2.2 p hp
  -- the end
  have fin' : ∀ (H' : Hp) (s' : Shared), Inv Y (X.pn ++ pins) σ0 H' s' → Q (.ref s2.heap.objs.size) H' → compPost (model X.prog X.w) X.A X.xe use QQ (.ref s2.heap.objs.size) G2.objs.size (.ok .next) s' := fun H' s' J q => by
    obtain ⟨m, hn, _⟩ := J.loc
    have un : Un (frs X.stack) fp H2 H' s2.heap s'.heap := J.base
    refine fin _ _ H' s' m (I2.call' (s' := s') (ch := fp) J.os un J.hok J.bare fun b hb => ⟨(f2 b hb).2.2.2.1, (f2 b hb).2.1, (f2 b hb).2.2.2.2.1, (f2 b hb).2.2.2.2.2⟩) hn ⟨J.free, ?_, ?_, fun x c e z => ?_, fun p hp => (pinX p hp).1⟩ q
    · intro z
      obtain ⟨m2, ⟨o, _, _, ho, _⟩, _⟩ := I2.loc
      exact ltC _ o ho z.symm
    · exact Nat.le_trans I2.sz (by rw [hC]; exact Nat.le_succ _)
    · obtain ⟨v, o, ho, _⟩ := I2.cell x c e
      exact ltC c o ho z
  have frs0 : ∀ b ∈ fp, upd H2 s2.heap.objs.size (.lst []) b = none := fun b hb => by
    obtain ⟨o, q, _⟩ := T.obj 0 s2.heap st2 b hb
    rw [upd_ne (Nat.ne_of_lt (Heap.lt_size q))]
    exact (f2 b hb).1
  have loop : ∀ tk, codeAny (model X.prog X.w) X.A (.compLoop (.ListComp elt [⟨tg, iter, ifs, 0⟩] scope pos) 0 (.ref it) (.ref s2.heap.objs.size) (compEnvC scope cl G2.objs.size X.env))
      (compPost (model X.prog X.w) X.A X.xe use QQ (.ref s2.heap.objs.size) G2.objs.size) { s2 with heap := h₁, toks := tk } := fun tk => by
    refine compLoop_any (fun n s' => ∃ i ys H', Inv Y (X.pn ++ pins) σ0 H' s' ∧ tn i s'.heap ∧ (∀ b ∈ fp, H' b = none) ∧ H' s2.heap.objs.size = some (.lst ys) ∧ W i n ys H') ?_ m0
      ⟨0, [], _, IY tk, T.keep _ _ _ st2 (fun b hb o q => old b o q), frs0, upd_same, w0⟩
    rintro n s3 ⟨i, ys, H3, I3, st3, fr3, hD3, w3⟩
    rcases turn i n ys H3 w3 hD3 with ⟨stop, qn⟩ | ⟨go, step⟩
    · refine thn (T.done Y rfl rfl rfl hcalm i _ s3 σ0 H3 _ I3 (fpY fr3) st3 stop) fun r s4 ⟨hr, I4⟩ => ?_
      subst hr
      exact fin' H3 s4 I4 qn
    · refine thn (T.item Y rfl rfl rfl hcalm i _ s3 σ0 H3 _ I3 (fpY fr3) st3 go) fun r s4 ⟨u, hr, h4⟩ => ?_
      subst hr
      refine thn h4 fun _ s5 ⟨x, H5, I5, r5, y5, st5, fr5⟩ => ?_
      have I5' := I5.pinned (fpY fr5) (T.obj _ _ st5)
      refine thn (hg cl _ s2 H2 fp _ s5 σ0 H5 x u _ I5' r5 (step x H5 y5)) fun _ s6 ⟨σ6, H6, I6, d6, q6⟩ => ?_
      refine thn (ht cl _ s2 H2 fp _ s6 σ6 H6 _ I6 q6) fun b s7 ⟨H7, I7, q7⟩ => ?_
      have back : ∀ {σ8 : St} {H8 : Hp} {s8 : Shared} {zs : List V} {m' : Nat}, Inv Y (X.pn ++ pins ++ pinsAt fp s5.heap) σ8 H8 s8 → σ8.drop own.length = cap js σ → m' < n → H8 s2.heap.objs.size = some (.lst zs) → W (i + 1) m' zs H8 →
          ∃ m, m < n ∧ ∃ i ys H', Inv Y (X.pn ++ pins) σ0 H' s8 ∧ tn i s8.heap ∧ (∀ b ∈ fp, H' b = none) ∧ H' s2.heap.objs.size = some (.lst ys) ∧ W i m ys H' := fun {σ8 H8 s8 zs m'} I8 d8 hm hd w8 => by
        have pin8 : ∀ b o, b ∈ fp → s5.heap.get? b = some o → s8.heap.get? b = some o ∧ H8 b = none := fun b o hb e =>
          let z := I8.pin (b, o) (List.mem_append_right _ (List.mem_append_right _ (mem_pinsAt hb e)))
          ⟨z.1, z.2.1⟩
        have I8' := I8.unpinned
        refine ⟨m', hm, i + 1, zs, H8, ?_, T.keep _ _ _ st5 fun b hb o e => (pin8 b o hb e).1, fun b hb => ?_, hd, w8⟩
        · refine I8'.weak (lenY.trans I8'.len.symm) fun j v ej => ?_
          have ej : (List.replicate own.length none ++ cap js σ)[j]? = some (some v) := ej
          have hj : own.length ≤ j := by
            refine Nat.le_of_not_lt fun z => ?_
            rw [List.getElem?_append_left (by simpa using z), List.getElem?_replicate] at ej
            split at ej <;> cases ej
          rw [List.getElem?_append_right (by simpa using hj), List.length_replicate, ← d8, List.getElem?_drop] at ej
          rw [show j = own.length + (j - own.length) by omega]
          exact ej
        · obtain ⟨o, e, d⟩ := T.obj _ _ st5 b hb
          exact (pin8 b o hb e).2
      cases b with
      | false =>
        obtain ⟨hd, m', hm, w8⟩ := q7
        exact back I7 d6 hm hd w8
      | true =>
        refine thn (he cl _ s2 H2 fp _ s7 σ6 H7 _ I7 q7) fun v s8 ⟨y, H8, I8, r8, hd8, hz, m', hm, w8⟩ => ?_
        refine thn (mt_append (X := Y) _ s8 σ6 H8 (.ref s2.heap.objs.size) [y] (.ref s2.heap.objs.size) [v] (fun _ H9 => H9 = upd H8 s2.heap.objs.size (.lst (ys ++ [y]))) I8 rfl (.cons r8 .nil) ⟨_, ys, y, rfl, rfl, hd8, hz, rfl⟩) fun _ s9 ⟨_, H9, I9, _, e9⟩ => ?_
        subst e9
        exact back I9 d6 hm upd_same w8
  exact codeAny_compStart_list (loop _) (T.self _ 0 _ _ _ (T.keep _ _ _ st2 (fun b hb o q => old b o q)) (loop _))
/-- [elt for tg in iter if ..] -/
theorem pe_comp {elt tg iter : Expr} {ifs : List Expr} {scope : Scope} {pos : Pos} {wi : TI} {g : TG} {tc : TT} {te : TE} (own fr : List Str) (js : List Nat) (NX : List Str) (sn : List (Str × NameKind)) (hcalm : X.calm = true)
    (hi : PI X tg iter wi)
    (hg : ∀ cl C s H fp, PG (cxComp X scope cl C (own ++ fr) s H fp) tg g) (ht : ∀ cl C s H fp, PTs (cxComp X scope cl C (own ++ fr) s H fp) ifs tc) (he : ∀ cl C s H fp, PE (cxComp X scope cl C (own ++ fr) s H fp) elt te)
    (hN : X.N = NX := by rfl) (hsn : X.env.scope.names = sn := by rfl) (hkind : scope.kind = .function := by rfl)
    (hcap : capOk NX sn scope.names fr js = true := by decide +kernel) (hsc : scOk sn scope.names = true := by decide +kernel)
    (hs : ∀ x, foldedSetIterable iter X.env x = pure x := by intro _; rfl) :
    PE X (.ListComp elt [⟨tg, iter, ifs, 0⟩] scope pos) (tComp wi g tc te own.length js) := by
  intro pins s σ H Q I h
  rw [eval_ListComp]
  refine comp_core own fr js NX sn hcalm hi hg ht he hN hsn hkind hcap hsc hs I h fun D C H' s' m I' hn F q => ?_
  exact ⟨m, hn, fun h' hsb => ⟨.ref D, H', F.turn I' hsb, rfl, q⟩⟩
/-- y = [elt for tg in iter if ..], y a local name on the comprehension's row -/
theorem ps_comp {i : Nat} {y : Str} {py spos : Pos} {elt tg iter : Expr} {ifs : List Expr} {scope : Scope} {pos : Pos} {wi : TI} {g : TG} {tc : TT} {te : TE} (own fr : List Str) (js : List Nat) (NX : List Str) (sn : List (Str × NameKind)) (hcalm : X.calm = true)
    (hnd : X.N.Nodup) (hyi : X.N[i]? = some y) (hy : Loc X.env.scope y)
    (hi : PI X tg iter wi)
    (hg : ∀ cl C s H fp, PG (cxComp X scope cl C (own ++ fr) s H fp) tg g) (ht : ∀ cl C s H fp, PTs (cxComp X scope cl C (own ++ fr) s H fp) ifs tc) (he : ∀ cl C s H fp, PE (cxComp X scope cl C (own ++ fr) s H fp) elt te)
    (hsw : swapsWith (.ListComp elt [⟨tg, iter, ifs, 0⟩] scope pos) (some (.Name y py)) spos.line X.env = pure true := by rfl)
    (hN : X.N = NX := by rfl) (hsn : X.env.scope.names = sn := by rfl) (hkind : scope.kind = .function := by rfl)
    (hcap : capOk NX sn scope.names fr js = true := by decide +kernel) (hsc : scOk sn scope.names = true := by decide +kernel)
    (hs : ∀ x, foldedSetIterable iter X.env x = pure x := by intro _; rfl) (hf : X.fn y = true ∨ X.env.scope.names.lookup y = some .local := by first | exact .inl rfl | exact .inr rfl) :
    PS X (.Assign [.Name y py] (.ListComp elt [⟨tg, iter, ifs, 0⟩] scope pos) spos) (tAsg (tComp wi g tc te own.length js) (gName i)) := by
  intro pins s σ H D I h
  rw [exec_Assign_Name_used _ _ _ _ hsw]
  refine wpAny_bind (wpAny_standAt (wpAny_bind ?_))
  show wpAny _ X.A (do let _ ← comprehension (.ListComp elt [⟨tg, iter, ifs, 0⟩] scope pos) scope X.env _ (newList []) false (eval iter X.env) (some (assign (.Name y py) X.env))) _ _ s
  refine wpAny_bind (thn (comp_core own fr js NX sn hcalm hi hg ht he hN hsn hkind hcap hsc hs (use := some (assign (.Name y py) X.env)) (QQ := fun _ s' => SP X pins D .next s') I h fun A C H' s' m I' hn F q => ?_) fun _ s' hq => wpAny_pure (wpAny_pure hq))
  show wpAny _ X.A (assign (.Name y py) X.env (.ref A)) _ _ s'
  refine wpAny_assign_Name (store_ok2 (v := .ref A) I' hnd hyi hy rfl (fun s2 I2 ⟨a, hsb, ha⟩ => ?_) hf)
  have nC : a ≠ C := by
    rcases ha with z | z
    · rw [z]; exact Ne.symm F.ne
    · exact F.ce y a z
  exact ⟨m, hn.sameBut hsb nC.symm, fun h' hsb' => ⟨_, H', F.turn I2 hsb', q⟩⟩
end
end L2

end
section
set_option Elab.async false
set_option linter.all false
set_option maxRecDepth 100000
namespace L2
open PySem PySem.Spec PyProof.Rows

/-! ### lists of pairs as tables -/
section
variable {κ : Type} [DecidableEq κ]
def valV (kvs : List (κ × V)) (k : κ) : Option V := (kvs.find? fun kv => decide (kv.1 = k)).map (·.2)
/-- in its place, or at the end -/
def putK (kvs : List (κ × V)) (k : κ) (v : V) : List (κ × V) :=
  if (kvs.any fun kv => decide (kv.1 = k)) = true then kvs.map (fun kv => if kv.1 = k then (kv.1, v) else kv) else kvs ++ [(k, v)]
def dropK (kvs : List (κ × V)) (k : κ) : List (κ × V) := kvs.filter fun kv => decide (kv.1 ≠ k)

end


/-! ### a tracked dict, its keys ints and texts or tuples of these -/
/-- raw entries of a dict with tuple keys -/
abbrev KT (H : Hp) : List (List Key × V) → List (List Key × Addr × Value) → Prop := Paired fun p q => p.1 = q.1 ∧ H q.2.1 = some (.tup (p.1.map kV)) ∧ RelV p.2 q.2.2
section
variable {P : Program} {w : World} {H : Hp} {h : Heap} {a : Addr}
end

/-- what the dict at a holds at the key y -/
def DGet (H : Hp) (a : Addr) (y : V) (r : Option V) : Prop :=
  (∃ kvs k, Rd H a (.dK kvs) ∧ y = kV k ∧ r = valV kvs k) ∨ ∃ kvs k b, Rd H a (.dT kvs) ∧ y = .ref b ∧ H b = some (.tup (k.map kV)) ∧ r = valV kvs k
/-- the heap behind a[y] = v -/
def DPut (H : Hp) (a : Addr) (y v : V) (H' : Hp) : Prop :=
  (∃ kvs k, H a = some (.dK kvs) ∧ y = kV k ∧ kvs.length < sizeLine ∧ H' = upd H a (.dK (putK kvs k v))) ∨
  ∃ kvs k b, H a = some (.dT kvs) ∧ y = .ref b ∧ H b = some (.tup (k.map kV)) ∧ kvs.length < sizeLine ∧ H' = upd H a (.dT (putK kvs k v))
section
variable {X : Cx} {pins : List (Addr × Obj)} {σ : St} {H : Hp} {s : Shared} {a : Addr} {y v : V} {u r : Value} {o : Option V} {A : Around} {E : Value → Shared → Prop}

end

section
variable {X : Cx} {pins : List (Addr × Obj)} {σ : St} {H : Hp} {s : Shared} {a : Addr} {kvs : List (Key × V)} {k : Key} {u : Value} {A : Around} {E : Value → Shared → Prop}
end


/-! ### readings and rules -/
/-- the element of a subscription, not a slice -/
def NoSl (i : Expr) : Prop := ∀ ov iv, subscripted i false ov iv = operate [ov, iv] (getItem ov iv)
/-- d[y] -/
def tDGet (td ty : TE) : TE := fun σ H Q => td σ H fun x H1 => ty σ H1 fun y H2 => ∃ a v, x = .ref a ∧ DGet H2 a y (some v) ∧ Q v H2
/-- y in d, y not in d -/
def tDIn (ty td : TE) : TE := fun σ H Q => ty σ H fun y H1 => td σ H1 fun x H2 => ∃ a o, x = .ref a ∧ DGet H2 a y o ∧ Q (.bl o.isSome) H2
def tDNotIn (ty td : TE) : TE := fun σ H Q => ty σ H fun y H1 => td σ H1 fun x H2 => ∃ a o, x = .ref a ∧ DGet H2 a y o ∧ Q (.bl (!o.isSome)) H2
/-- d[y] = v -/
def sDPut (td ty tv : TE) : TS := fun D σ H => tv σ H fun v H1 => td σ H1 fun x H2 => ty σ H2 fun y H3 => ∃ a H4, x = .ref a ∧ DPut H3 a y v H4 ∧ D.nx σ H4
/-- d[y] op= v -/
def sDAug (td ty tv : TE) (rd : V → V → Hp → VK → Prop) : TS := fun D σ H => td σ H fun x H1 => ty σ H1 fun y H2 => ∃ a v, x = .ref a ∧ DGet H2 a y (some v) ∧
  tv σ H2 fun y2 H3 => rd v y2 H3 fun z H4 => ∃ H5, DPut H4 a y z H5 ∧ D.nx σ H5
/-- del d[y] -/
def sDDel (td ty : TE) : TS := fun D σ H => td σ H fun x H1 => ty σ H1 fun y H2 => ∃ a kvs k, x = .ref a ∧ H2 a = some (.dK kvs) ∧ y = kV k ∧ (valV kvs k).isSome = true ∧ D.nx σ (upd H2 a (.dK (dropK kvs k)))

section
variable {X : Cx} {o i e value : Expr} {pos pos' tpos : Pos} {td ty tv : TE}
end


/-! ### displays -/
/-- {}, to be a dict of the kind that is wanted -/
def tDNewK : TE := fun _ H Q => ∀ p, H p = none → Q (.ref p) (upd H p (.dK []))
def tDNewT : TE := fun _ H Q => ∀ p, H p = none → Q (.ref p) (upd H p (.dT []))
section
variable {X : Cx} {pos : Pos}
end

/-- the pairs of a display, from the left -/
def tPairs : List (TE × TE) → St → Hp → (List (V × V) → Hp → Prop) → Prop
  | [], _, H, Q => Q [] H
  | (tk, tv) :: r, σ, H, Q => tk σ H fun x H1 => tv σ H1 fun y H2 => tPairs r σ H2 fun ps H3 => Q ((x, y) :: ps) H3
abbrev VV : List (V × V) → List (Value × Value) → Prop := Paired fun p q => RelV p.1 q.1 ∧ RelV p.2 q.2
def PPs (X : Cx) (pos : Pos) (keys : List (Option Expr)) (values : List Expr) (trs : List (TE × TE)) : Prop :=
  ∀ (pins : List (Addr × Obj)) (s : Shared) (σ : St) (H : Hp) (Q : List (V × V) → Hp → Prop), Inv X pins σ H s → tPairs trs σ H Q →
    wpAny (model X.prog X.w) X.A (evalPairs (pairTrees keys values X.env pos)) (fun vs s' => ∃ ps H', Inv X pins σ H' s' ∧ VV ps vs ∧ Q ps H') X.xe s
def mergeK (kvs more : List (Key × V)) : List (Key × V) := more.foldl (fun acc kv => putK acc kv.1 kv.2) kvs
/-- {k: v, ..} with keys ints and texts; the new dict stands empty while the pairs are made -/
def tDisp (trs : List (TE × TE)) : TE := fun σ H Q => ∀ p, H p = none → tPairs trs σ (upd H p (.dK [])) fun ps H2 => H2 p = some (.dK []) ∧ ∃ kvs : List (Key × V), ps = kvs.map (fun kv => (kV kv.1, kv.2)) ∧ kvs.length ≤ 15 ∧ Q (.ref p) (upd H2 p (.dK (mergeK [] kvs)))
/-! ### methods -/
/-- a method call o.m(e) of a built-in, with one argument: what must be seen of the text -/
structure M1 (X : Cx) (o : Expr) (m : Str) (apos : Pos) (e : Expr) (cpos : Pos) : Prop where
  base : attributeBase o m X.env (eval o X.env) = eval o X.env
  few : ((backTo cpos (starEach [e] X.env)).all (fun x => !x.1) && (backToKw cpos (keywordEach [] X.env)).all (fun x => x.1.isSome)
    && decide (([e] : List Expr).length + ([] : List Keyword).length + (if ([] : List Keyword).isEmpty then 0 else 1) < 30)) = true
  line : (apos.endLine == cpos.line) = true
  trees : backTo cpos (starEach [e] X.env) = [(false, eval e X.env)]
structure M2 (X : Cx) (o : Expr) (m : Str) (apos : Pos) (e f : Expr) (cpos : Pos) : Prop where
  base : attributeBase o m X.env (eval o X.env) = eval o X.env
  few : ((backTo cpos (starEach [e, f] X.env)).all (fun x => !x.1) && (backToKw cpos (keywordEach [] X.env)).all (fun x => x.1.isSome)
    && decide (([e, f] : List Expr).length + ([] : List Keyword).length + (if ([] : List Keyword).isEmpty then 0 else 1) < 30)) = true
  line : (apos.endLine == cpos.line) = true
  trees : backTo cpos (starEach [e, f] X.env) = [(false, eval e X.env), (false, eval f X.env)]

/-- a is a dict, whatever its keys -/
def IsD (H : Hp) (a : Addr) : Prop := (∃ kvs, Rd H a (.dK kvs)) ∨ ∃ kvs, Rd H a (.dT kvs)
section
variable {X : Cx} {pins : List (Addr × Obj)} {σ : St} {H : Hp} {s : Shared} {a : Addr} {y d : V} {u r : Value} {o : Option V} {A : Around} {E : Value → Shared → Prop}
end

def tDGet1 (td ty : TE) : TE := fun σ H Q => td σ H fun x H1 => ∃ a, x = .ref a ∧ IsD H1 a ∧ ty σ H1 fun y H2 => ∃ o, DGet H2 a y o ∧ Q (o.getD .non) H2
def tDGet2 (td ty tx : TE) : TE := fun σ H Q => td σ H fun x H1 => ∃ a, x = .ref a ∧ IsD H1 a ∧ ty σ H1 fun y H2 => tx σ H2 fun z H3 => ∃ o, DGet H3 a y o ∧ Q (o.getD z) H3
/-- d.pop(k): there; d.pop(k, x): there or not -/
def tDPop1 (td ty : TE) : TE := fun σ H Q => td σ H fun x H1 => ∃ a, x = .ref a ∧ IsD H1 a ∧ ty σ H1 fun y H2 => ∃ kvs k v, H2 a = some (.dK kvs) ∧ y = kV k ∧ valV kvs k = some v ∧ Q v (upd H2 a (.dK (dropK kvs k)))
def tDPop2 (td ty tx : TE) : TE := fun σ H Q => td σ H fun x H1 => ∃ a, x = .ref a ∧ IsD H1 a ∧ ty σ H1 fun y H2 => tx σ H2 fun z H3 => ∃ kvs k, H3 a = some (.dK kvs) ∧ y = kV k ∧
  (∀ v, valV kvs k = some v → Q v (upd H3 a (.dK (dropK kvs k)))) ∧ (valV kvs k = none → Q z H3)
section
variable {X : Cx} {o e f : Expr} {apos cpos : Pos} {td ty tx : TE}
end

/-! ### dict(d): a copy -/
section
variable {X : Cx} {pins : List (Addr × Obj)} {σ : St} {H : Hp} {s : Shared} {a : Addr} {kvs : List (Key × V)} {A : Around} {E : Value → Shared → Prop}
end


section
variable {X : Cx} {pins : List (Addr × Obj)} {σ : St} {H : Hp} {s : Shared} {a : Addr} {y : V} {u : Value} {A : Around} {E : Value → Shared → Prop}
end
end L2


end
section
set_option Elab.async false
set_option linter.all false
set_option maxRecDepth 100000
namespace L2
open PySem PySem.Spec PyProof.Rows
def isStar : Expr → Bool
  | .Starred .. => true
  | _ => false
theorem starEach_plain {e : Expr} {es : List Expr} {env : Env} (h : isStar e = false) : starEach (e :: es) env = (false, eval e env) :: starEach es env := by
  cases e <;> first | rfl | exact absurd h (by intro z; cases z)
theorem pa_cn {X : Cx} {e : Expr} {es : List Expr} {te : TE} {t : TA} (ha : PE X e te) (hr : PA X es t) (hs : isStar e = false := by rfl) : PA X (e :: es) (tCons te t) := pa_cons ha hr (starEach_plain hs)
/-! ### flat argument lists and blocks -/
section
variable {X : Cx}
end
section
variable {X : Cx} {pos : Pos}
/-! ### isinstance of a built-in type, of an own class -/
theorem call_isinst : CallR X (.builtin "isinstance") (fun xs H Q => ∃ x n t b, xs = [x, .ty n] ∧ TyOf X.K H x t ∧ PySem.W.kitOne X.K t (.type n) = some b ∧ Q (.bl b) H) := by
  intro pins s σ H xs us Q I r h
  obtain ⟨x, n, t, b, rfl, ty, e, q⟩ := h
  obtain ⟨u, w', rfl, ru, rw'⟩ := vals2 r
  cases (show w' = Value.type n from rw')
  exact isinst_ok I ru ty e fun tk => ⟨.bl b, H, I.tok tk, rfl, q⟩
/-! ### all, sum, min, max of a list -/
/-! ### texts: join, a slice -/
theorem strsAre_of : ∀ {ys : List Str} {us : List Value}, Vals (ys.map V.str) us → StrsAre us ys
  | [], _, .nil => .nil
  | y :: ys, _, .cons r t => by
    obtain ⟨tk, rfl⟩ := r
    exact .cons y tk (strsAre_of t)
def rJoin (K : PySem.W.Frag) : V → List V → Hp → VK → Prop := fun x vs H Q => ∃ (z : Str) (p : Addr) (ys : List Str), x = .str z ∧ vs = [.ref p] ∧ SqL K H p (ys.map V.str) ∧ (ys.map (·.length)).sum + ys.length * z.length ≤ 16777216 ∧ Q (.str (Txt.join z ys)) H
theorem mt_join : MtR X "str.join" (rJoin X.K) := by
  intro pins s σ H x xs v us Q I rx rs h
  obtain ⟨z, p, ys, rfl, rfl, hq, hz, q⟩ := h
  obtain ⟨t, rfl⟩ := rx
  obtain ⟨u, rfl, ru⟩ := vals1 rs
  cases ru
  obtain ⟨its, rv, pl, _⟩ := I.list hq
  exact join_list pl.isList (strsAre_of rv) hz fun t' k => ⟨.str _, H, I.tok k, ⟨t', rfl⟩, q⟩
def rSlS : V → Option Int → Option Int → Hp → VK → Prop := fun x lo hi H Q => ∃ z : Str, x = .str z ∧ z.length ≤ sizeLine ∧ Q (.str (Txt.slice z lo hi)) H
/-! ### xs[i] op= e: the item ahead -/
def rGetL (K : PySem.W.Frag) : V → V → Hp → VK → Prop := fun o i H Q => ∃ (p : Addr) (xs : List V) (j : Nat) (v : V), o = .ref p ∧ i = .int j ∧ SqL K H p xs ∧ xs[j]? = some v ∧ Q v H
theorem get_list : PGet X (rGetL X.K) := by
  intro pins s σ H o i ov iv Q I ro ri h
  obtain ⟨p, xs, j, v, rfl, rfl, hq, he, q⟩ := h
  cases ro
  obtain ⟨t, rfl⟩ := ri
  obtain ⟨its, r, pl, hz⟩ := I.list hq
  obtain ⟨w', ew, rw'⟩ := r.get he
  have hj : j < xs.length := (List.getElem?_eq_some_iff.mp he).1
  have hn := line63
  exact wpAny_getItem_list pl.isList (by omega) (by omega) (by simpa using ew) ⟨v, H, I, rw', q⟩

/-! ### great numbers -/
/-! ### two lists of flat items compared -/
def eqL : List V → List V → Bool
  | [], [] => true
  | x :: xs, y :: ys => eqV x y && eqL xs ys
  | _, _ => false
theorem eqL_len : ∀ {xs ys : List V}, xs.length ≠ ys.length → eqL xs ys = false
  | [], [], h => absurd rfl h
  | [], _ :: _, _ => rfl
  | _ :: _, [], _ => rfl
  | x :: xs, y :: ys, h => by
    show (eqV x y && eqL xs ys) = false
    rw [eqL_len (by simpa using h), Bool.and_false]
theorem eqL_range : ∀ {xs ys : List V}, xs.length = ys.length → (List.range xs.length).all (fun i => eqV (xs.getD i .non) (ys.getD i .non)) = eqL xs ys
  | [], [], _ => rfl
  | [], _ :: _, h => by simp at h
  | _ :: _, [], h => by simp at h
  | x :: xs, y :: ys, h => by
    rw [List.length_cons, List.range_succ_eq_map, List.all_cons, List.all_map]
    show (eqV x y && (List.range xs.length).all (fun i => eqV (xs.getD i .non) (ys.getD i .non))) = (eqV x y && eqL xs ys)
    rw [eqL_range (by simpa using h)]
def rEqL (K : PySem.W.Frag) (neg : Bool) : R2 := fun x y H Q => ∃ (a b : Addr) (xs ys : List V), x = .ref a ∧ y = .ref b ∧ SqL K H a xs ∧ SqL K H b ys ∧ xs.all flatV = true ∧ ys.all flatV = true ∧ Q (.bl (if neg then !eqL xs ys else eqL xs ys)) H
theorem flat_get {xs : List V} (h : xs.all flatV = true) {i : Nat} {x : V} (e : xs[i]? = some x) : flatV x = true := List.all_eq_true.mp h x (List.mem_of_getElem? e)
theorem getD_of {α : Type} {xs : List α} {i : Nat} {x d : α} (e : xs[i]? = some x) : xs.getD i d = x := by rw [List.getD_eq_getElem?_getD, e]; rfl
theorem items_eqAt {A : Around} {s : Shared} {xs ys : List V} {us ws : List Value} (r : Vals xs us) (r' : Vals ys ws) (fx : xs.all flatV = true) (fy : ys.all flatV = true) :
    ∀ j (h1 : j < us.toArray.size) (h2 : j < ws.toArray.size), SeqAt.EqAt A s us.toArray[j] ws.toArray[j] (eqV (xs.getD j .non) (ys.getD j .non)) := fun j h1 h2 => by
  have l1 := r.length
  have l2 := r'.length
  have h1' : j < us.length := by simpa using h1
  have h2' : j < ws.length := by simpa using h2
  have e1 : xs[j]? = some (xs[j]'(by omega)) := List.getElem?_eq_getElem _
  have e2 : ys[j]? = some (ys[j]'(by omega)) := List.getElem?_eq_getElem _
  obtain ⟨u, eu, ru⟩ := r.get e1
  obtain ⟨w', ew, rw'⟩ := r'.get e2
  rw [getD_of e1, getD_of e2]
  have q1 : us.toArray[j] = u := by
    rw [List.getElem?_eq_getElem h1'] at eu
    simpa using Option.some.inj eu
  have q2 : ws.toArray[j] = w' := by
    rw [List.getElem?_eq_getElem h2'] at ew
    simpa using Option.some.inj ew
  rw [q1, q2]
  exact eqAt_V ru rw' (flat_get fx e1) (flat_get fy e2)
theorem op_eqL (hu : X.A.units < cLine) : OpR X (compareOp .Eq) (rEqL X.K false) := by
  intro pins s σ H x y v u Q I rx ry h
  obtain ⟨a, b, xs, ys, rfl, rfl, ha, hb, fx, fy, q⟩ := h
  cases rx
  cases ry
  obtain ⟨its, r1, p1, _⟩ := I.list ha
  obtain ⟨its2, r2, p2, _⟩ := I.list hb
  have l1 := r1.length
  have l2 := r2.length
  by_cases e : xs.length = ys.length
  · refine SeqAt.eq_listAt p1.isList p2.isList (by simp; omega) hu (items_eqAt r1 r2 fx fy) (fin_bl I q ?_)
    rw [← eqL_range e]
    simp [l1]
  · refine SeqAt.eq_list_lengthsAt p1.isList p2.isList (by simp; omega) hu (fin_bl I q ?_)
    simp [eqL_len e]
theorem op_neL (hu : X.A.units < cLine) : OpR X (compareOp .NotEq) (rEqL X.K true) := by
  intro pins s σ H x y v u Q I rx ry h
  obtain ⟨a, b, xs, ys, rfl, rfl, ha, hb, fx, fy, q⟩ := h
  cases rx
  cases ry
  obtain ⟨its, r1, p1, _⟩ := I.list ha
  obtain ⟨its2, r2, p2, _⟩ := I.list hb
  have l1 := r1.length
  have l2 := r2.length
  by_cases e : xs.length = ys.length
  · refine PySem.EqBoolInt.of_rcne (SeqAt.RcNeAt.lists p1.isList p2.isList (by simp; omega) hu (items_eqAt r1 r2 fx fy)) (fin_bl I q ?_)
    rw [← eqL_range e]
    simp [l1]
  · refine PySem.EqBoolInt.of_rcne (SeqAt.RcNeAt.lists_lengths p1.isList p2.isList (by simp; omega) hu) (fin_bl I q ?_)
    simp [eqL_len e]
end

/-! ### the forms of a comprehension that one uses -/
/-- the next turn, and a number that falls -/
def Nx (n i : Nat) (P : Prop) : Prop := ∃ m', m' < n - i ∧ m' = n - (i + 1) ∧ i + 1 ≤ n ∧ P
theorem nx {n i : Nat} {P : Prop} (h : i < n) (p : P) : Nx n i P := ⟨_, by omega, rfl, h, p⟩
theorem comp_list {K : PySem.W.Frag} {a : Addr} {xs : List V} {g : TG} {tc : TT} {te : TE} {k : Nat} {js : List Nat} {σ : St} {H : Hp} {Fin : Hp → Prop} {D : Addr} (Pv : Nat → List V → Hp → Prop) (h0 : Pv 0 [] (upd H D (.lst [])))
    (hl : ∀ i ys H, i ≤ xs.length → Pv i ys H → SqL K H a xs) (hd : ∀ ys H, Pv xs.length ys H → H D = some (.lst ys) → Fin H)
    (hs : ∀ i x ys H, xs[i]? = some x → Pv i ys H → H D = some (.lst ys) → g x (List.replicate k none ++ cap js σ) H fun σ2 H2 => σ2.drop k = cap js σ ∧ tc σ2 H2 fun b H3 =>
      if b = true then te σ2 H3 fun y H4 => H4 D = some (.lst ys) ∧ ys.length < sizeLine ∧ Nx xs.length i (Pv (i + 1) (ys ++ [y]) (upd H4 D (.lst (ys ++ [y])))) else H3 D = some (.lst ys) ∧ Nx xs.length i (Pv (i + 1) ys H3)) :
    ∃ W : Nat → Nat → List V → Hp → Prop, (∃ m, W 0 m [] (upd H D (.lst []))) ∧ ∀ i m ys H, W i m ys H → H D = some (.lst ys) →
    ((Itl K a).stop i H ∧ Fin H) ∨ ((Itl K a).go i H ∧ ∀ x H', (Itl K a).yld i H x H' → g x (List.replicate k none ++ cap js σ) H' fun σ2 H2 => σ2.drop k = cap js σ ∧ tc σ2 H2 fun b H3 =>
      if b = true then te σ2 H3 fun y H4 => H4 D = some (.lst ys) ∧ ys.length < sizeLine ∧ ∃ m', m' < m ∧ W (i + 1) m' (ys ++ [y]) (upd H4 D (.lst (ys ++ [y])))
      else H3 D = some (.lst ys) ∧ ∃ m', m' < m ∧ W (i + 1) m' ys H3) := by
  refine ⟨fun i m ys H => m = xs.length - i ∧ i ≤ xs.length ∧ Pv i ys H, ⟨xs.length, by simp, Nat.zero_le _, h0⟩, ?_⟩
  rintro i m ys H ⟨rfl, hi, p⟩ hD
  have q := hl i ys H hi p
  by_cases hlt : i < xs.length
  · refine .inr ⟨⟨xs, xs[i], q, by simp [hlt]⟩, fun x H' y => ?_⟩
    obtain ⟨e, y⟩ := y
    subst e
    exact hs i x ys _ (y xs q) p hD
  · have e : i = xs.length := by omega
    subst e
    exact .inl ⟨⟨xs, q, Nat.le_refl _⟩, hd ys H p hD⟩
theorem comp_range {lo : Int} {n : Nat} {g : TG} {tc : TT} {te : TE} {k : Nat} {js : List Nat} {σ : St} {H : Hp} {Fin : Hp → Prop} {D : Addr} (Pv : Nat → List V → Hp → Prop) (h0 : Pv 0 [] (upd H D (.lst [])))
    (hd : ∀ ys H, Pv n ys H → H D = some (.lst ys) → Fin H)
    (hs : ∀ i ys H, i < n → Pv i ys H → H D = some (.lst ys) → g (.int (lo + i)) (List.replicate k none ++ cap js σ) H fun σ2 H2 => σ2.drop k = cap js σ ∧ tc σ2 H2 fun b H3 =>
      if b = true then te σ2 H3 fun y H4 => H4 D = some (.lst ys) ∧ ys.length < sizeLine ∧ Nx n i (Pv (i + 1) (ys ++ [y]) (upd H4 D (.lst (ys ++ [y])))) else H3 D = some (.lst ys) ∧ Nx n i (Pv (i + 1) ys H3)) :
    ∃ W : Nat → Nat → List V → Hp → Prop, (∃ m, W 0 m [] (upd H D (.lst []))) ∧ ∀ i m ys H, W i m ys H → H D = some (.lst ys) →
    ((Itr lo n).stop i H ∧ Fin H) ∨ ((Itr lo n).go i H ∧ ∀ x H', (Itr lo n).yld i H x H' → g x (List.replicate k none ++ cap js σ) H' fun σ2 H2 => σ2.drop k = cap js σ ∧ tc σ2 H2 fun b H3 =>
      if b = true then te σ2 H3 fun y H4 => H4 D = some (.lst ys) ∧ ys.length < sizeLine ∧ ∃ m', m' < m ∧ W (i + 1) m' (ys ++ [y]) (upd H4 D (.lst (ys ++ [y])))
      else H3 D = some (.lst ys) ∧ ∃ m', m' < m ∧ W (i + 1) m' ys H3) := by
  refine ⟨fun i m ys H => m = n - i ∧ i ≤ n ∧ Pv i ys H, ⟨n, by simp, Nat.zero_le _, h0⟩, ?_⟩
  rintro i m ys H ⟨rfl, hi, p⟩ hD
  by_cases hlt : i < n
  · refine .inr ⟨hlt, fun x H' y => ?_⟩
    obtain ⟨e, y⟩ := y
    subst e y
    exact hs i ys _ hlt p hD
  · have e : i = n := by omega
    subst e
    exact .inl ⟨Nat.le_refl _, hd ys H p hD⟩

/-! ### the signs of a text, walked -/
def Its (x : Str) : It := ⟨fun i _ => i < x.cps.size, fun i H v H' => H' = H ∧ ∃ c, x.cps[i]? = some c ∧ v = .str ⟨#[c]⟩, fun i _ => x.cps.size ≤ i⟩
def iStr (tl : TE) : TI := fun σ H R => tl σ H fun x H1 => ∃ z, x = .str z ∧ R (Its z) H1
/-! ### a def of the text, as its callers see it -/
structure Lk (K : PySem.W.Frag) (mg : Str → Option Value) (x : Str) (st : Stmt) (ps : List Str) (f : Addr) (fd : FuncData) : Prop where
  F : Fun K x x st f fd
  m : mg x = some (.ref f)
  b : Binds K fd ps []
structure Callee (P : Program) (w : World) (K : PySem.W.Frag) (mg : Str → Option Value) (base : Heap) (x : Str) (ps : List Str) (k : Nat) (sp : Sp) : Prop where
  ex : ∃ (f : Addr) (fd : FuncData), FnOk P w K mg base CX0 k f fd ps sp ∧ mg x = some (.ref f) ∧ PySem.W.keepIn K (.ref f) = true ∧ Binds K fd ps []
theorem Lk.callee {P : Program} {w : World} {K : PySem.W.Frag} {mg : Str → Option Value} {base : Heap} {x : Str} {st : Stmt} {ps : List Str} {f : Addr} {fd : FuncData} {k : Nat} {sp : Sp} (L : Lk K mg x st ps f fd) (h : FnOk P w K mg base CX0 k f fd ps sp) : Callee P w K mg base x ps k sp :=
  ⟨f, fd, h, L.m, L.F.kp, L.b⟩
theorem pe_callee {X : Cx} {k : Nat} {ps : List Str} {sp : Sp} {x : Str} {p pos : Pos} {e : Expr} {es : List Expr} {t : TA} (C : Callee X.prog X.w X.K X.mg X.base x ps k sp) (hr : Room k X.A) (hg : Gl X x)
    (ha : PA X (e :: es) t) (hdb : (x == ("__debug__" : Str)) = false := by decide) (he : starEach (e :: es) X.env = (false, eval e X.env) :: starEach es X.env := by rfl) (hpl : (backTo pos (starEach es X.env)).any (·.1) = false := by rfl) :
    PE X (.Call (.Name x p) (e :: es) [] pos) (tCall sp [] E0 t) := by
  obtain ⟨f, fd, F, hm, hk, hb⟩ := C.ex
  exact pe_call F hr hg hm hk hb .nil pass0 ha hdb he hpl
theorem hu0 {A : Around} {k : Nat} (hr : Room k A) : A.units < cLine := hr.units0
theorem lk_mk {K : PySem.W.Frag} {h : Heap} {mg : Str → Option Value} {x : Str} {st : Stmt} {ps : List Str} {f : Addr} {oc : Value} {od an : Option Addr} {osl : Array (Option Value)} {kV doc pm cdv ct : Value} (X : K.In h) (G : h.Ns mainGlobals mg)
    (a : PySem.W.nsIn K mainGlobals x = some (some (.ref f))) (l : K.lookup f = some ⟨oc, od, .func (PySem.W.fnOf x x (defArgs st) (defBody st) (defScope st) .none kV doc pm an cdv ct), osl⟩)
    (c : PySem.W.codeIn K cdv x = true) (k : PySem.W.keepIn K (.ref f) = true)
    (hb : ∀ (kV doc pm : Value) (an : Option Addr) (cdv ct : Value) (us : List Value), us.length = ps.length → bindArgs (PySem.W.fnOf x x (defArgs st) (defBody st) (defScope st) .none kV doc pm an cdv ct) ⟨us, []⟩ = pure (ps.zip us)) : ∃ f fd, Lk K mg x st ps f fd :=
  ⟨f, _, fun_mk l c k, PySem.W.mg_of X G a, (fun_mk l c k).binds hb⟩
end L2

end
section
set_option Elab.async false
set_option linter.all false
set_option maxRecDepth 100000
namespace L2
open PySem PySem.Spec PyProof.Rows
/-! range(a, b, c): walked, in a comprehension, and list(range(a, b, c)) -/
def Itr3 (lo c : Int) (n : Nat) : It := ⟨fun i _ => i < n, fun i H x H' => H' = H ∧ x = .int (lo + i * c), fun i _ => n ≤ i⟩
section
variable {X : Cx} {tg : Expr}
/-- what range(i, j, c) wants; n turns -/
def Rng3 (i j c : Int) (n : Nat) : Prop := c ≠ 0 ∧ c.natAbs < 1073741824 ∧ Builtin.Range.small i j c = true ∧ Builtin.Range.rangeSize i j c = (n : Int)
def iRng3 (ta : TA) : TI := fun σ H R => ta σ H fun vs H1 => ∃ (i j c : Int) (n : Nat), vs = [.int i, .int j, .int c] ∧ Rng3 i j c n ∧ R (Itr3 i c n) H1
/-- the numbers of a range -/
def rngV (i c : Int) (n : Nat) : List V := (List.range n).map fun (k : Nat) => V.int (i + (k : Int) * c)
def tLR (ta : TA) : TE := fun σ H Q => ta σ H fun vs H1 => ∃ (i j c : Int) (n : Nat), vs = [.int i, .int j, .int c] ∧ Rng3 i j c n ∧ n ≤ sizeLine ∧ n ≤ 2 ^ 24 ∧ ∀ l, H1 l = none → Q (.ref l) (upd H1 l (.lst (rngV i c n)))
end
/-! a shell round the triples: Lean does not look into it when it joins two terms (else each item of a display doubles the time) -/
structure QE (X : Cx) (e : Expr) (t : TE) : Prop where
  p : PE X e t
structure QA (X : Cx) (es : List Expr) (t : TA) : Prop where
  p : PA X es t
structure QS (X : Cx) (s : Stmt) (t : TS) : Prop where
  p : PS X s t
structure QB (X : Cx) (b : List Stmt) (t : TS) : Prop where
  p : PSs X b t
section
variable {X : Cx}
theorem qa_nil : QA X [] tNil := ⟨pa_nil⟩
theorem qa_cn {e : Expr} {es : List Expr} {te : TE} {t : TA} (ha : QE X e te) (hr : QA X es t) (hs : isStar e = false := by rfl) : QA X (e :: es) (tCons te t) := ⟨pa_cn ha.p hr.p hs⟩
theorem qb_nil : QB X [] tNext := ⟨pss_nil⟩
theorem qb_one {s : Stmt} {t : TS} (h : QS X s t) : QB X [s] t := ⟨pss_one h.p⟩
theorem qb_cn {s : Stmt} {b : List Stmt} {t u : TS} (h : QS X s t) (r : QB X b u) : QB X (s :: b) (tSeq t u) := ⟨pss_cons h.p r.p⟩
end
end L2

end
section
set_option Elab.async false
set_option linter.all false
set_option maxRecDepth 100000
namespace L2
open PySem PyProof.Rows
/-! the rules once more, in shells that Lean does not look into -/
structure QT (X : Cx) (e : Expr) (t : TT) : Prop where
  p : PT X e t
structure QW (X : Cx) (e : Expr) (t : TT) : Prop where
  p : PW X e t
structure QI (X : Cx) (g i : Expr) (t : TI) : Prop where
  p : PI X g i t
structure QG (X : Cx) (e : Expr) (t : TG) : Prop where
  p : PG X e t
structure QGs (X : Cx) (es : List Expr) (t : TGs) : Prop where
  p : PGs X es t
structure QTs (X : Cx) (es : List Expr) (t : TT) : Prop where
  p : PTs X es t
structure QO (X : Cx) (e : Option Expr) (t : TO) : Prop where
  p : PO X e t
structure QPs (X : Cx) (pos : Pos) (ks : List (Option Expr)) (vs : List Expr) (t : List (TE × TE)) : Prop where
  p : PPs X pos ks vs t
theorem qv : ∀ {X : Cx} (i : Nat) {x : Str} {pos : Pos},
  autoParam (X.N[i]? = some x) pv._auto_1 →
    autoParam (Vis X.env.scope x) pv._auto_2 →
      autoParam ((x == Str.ofString "__debug__") = false) pv._auto_3 →
        autoParam ((x == Str.ofString "__classdict__") = false) pv._auto_4 → QE X (Expr.Name x pos) (tVar i) := by
  intro X i x pos h0 h1 h2 h3
  exact ⟨pv i h0 h1 h2 h3⟩
theorem qe_int : ∀ {X : Cx} {i : Int} {j : Nat} {pos : Pos}, QE X (Expr.Constant (Const.int i) j pos) (tC (V.int i)) :=
  ⟨pe_int ⟩
theorem qe_bl : ∀ {X : Cx} {b : Bool} {j : Nat} {pos : Pos}, QE X (Expr.Constant (Const.bool b) j pos) (tC (V.bl b)) :=
  ⟨pe_bl ⟩
theorem qe_str : ∀ {X : Cx} {x : Str} {j : Nat} {pos : Pos}, QE X (Expr.Constant (Const.str x) j pos) (tC (V.str x)) :=
  ⟨pe_str ⟩
theorem qe_glob : ∀ {X : Cx} {x : Str} {v : V} {u : Value} {pos : Pos},
  Gl X x →
    X.mg x = some u →
      RelV v u → autoParam ((x == Str.ofString "__debug__") = false) pe_glob._auto_1 → QE X (Expr.Name x pos) (tC v) :=
  fun h0 h1 h2 h3 => ⟨pe_glob h0 h1 h2 h3⟩
theorem qe_bltn : ∀ {X : Cx} {x : Str} {v : V} {u : Value} {pos : Pos},
  Gl X x →
    X.mg x = none →
      bootBuiltins x = some u →
        RelV v u →
          autoParam (x ≠ Str.ofString "__name__") pe_bltn._auto_1 →
            autoParam ((x == Str.ofString "__debug__") = false) pe_bltn._auto_2 → QE X (Expr.Name x pos) (tC v) :=
  fun h0 h1 h2 h3 h4 h5 => ⟨pe_bltn h0 h1 h2 h3 h4 h5⟩
theorem qe_op : ∀ {X : Cx} {a b : Expr} {ta tb : TE} {pos : Pos} {op : Operator} {r : R2},
  OpR X (binaryOp op) r → QE X a ta → QE X b tb → QE X (a.BinOp op b pos) (tOp r ta tb) :=
  fun h0 h1 h2 => ⟨pe_op h0 h1.p h2.p⟩
theorem qe_not : ∀ {X : Cx} {a : Expr} {ta : TE} {pos : Pos}, QE X a ta → QE X (Expr.UnaryOp UnaryOp.Not a pos) (tNotV ta) :=
  fun h0 => ⟨pe_not h0.p⟩
theorem qe_and : ∀ {X : Cx} {a b : Expr} {ta tb : TE} {pos : Pos} {rest : List Expr},
  QE X a ta →
    QE X (Expr.BoolOp BoolOp.And (b :: rest) pos) tb → QE X (Expr.BoolOp BoolOp.And (a :: b :: rest) pos) (tAndV ta tb) :=
  fun h0 h1 => ⟨pe_and h0.p h1.p⟩
theorem qe_one : ∀ {X : Cx} {a : Expr} {pos : Pos} {op : BoolOp} {t : TE}, QE X a t → QE X (Expr.BoolOp op [a] pos) t :=
  fun h0 => ⟨pe_one h0.p⟩
theorem qe_slice : ∀ {X : Cx} {e : Expr} {te : TE} {lo hi : Option Expr} {tl th : TO} {pos p2 : Pos}
  {r : V → Option Int → Option Int → Hp → VK → Prop},
  SlR X r → QE X e te → QO X lo tl → QO X hi th → QE X (e.Subscript (Expr.Slice lo hi none p2) pos) (tSl r te tl th) :=
  fun h0 h1 h2 h3 => ⟨pe_slice h0 h1.p h2.p h3.p⟩
theorem qo_none : ∀ {X : Cx}, QO X none tNoPart :=
  ⟨po_none ⟩
theorem qo_some : ∀ {X : Cx} {e : Expr} {te : TE}, QE X e te → QO X (some e) (tPart te) :=
  fun h0 => ⟨po_some h0.p⟩
theorem qe_ix : ∀ {X : Cx} {a b : Expr} {ta tb : TE} {pos : Pos} {r : R2},
  IxR X r → QE X a ta → QE X b tb → PlainIx b → QE X (a.Subscript b pos) (tOp r ta tb) :=
  fun h0 h1 h2 h3 => ⟨pe_ix h0 h1.p h2.p h3⟩
theorem qe_lst : ∀ {X : Cx} {es : List Expr} {t : TA} {pos : Pos}, QA X es t → QE X (Expr.List es pos) (tLst t) :=
  fun h0 => ⟨pe_lst h0.p⟩
theorem qe_tup : ∀ {X : Cx} {es : List Expr} {t : TA} {pos : Pos} {x1 : Nat}, QA X es t → QE X (Expr.Tuple es x1 pos) (tTup t) :=
  fun h0 => ⟨pe_tup h0.p⟩
theorem qe_callee : ∀ {X : Cx} {k : Nat} {ps : List Str} {sp : Sp} {x : Str} {p pos : Pos} {e : Expr} {es : List Expr}
  {t : TA},
  Callee X.prog X.w X.K X.mg X.base x ps k sp →
    Room k X.A →
      Gl X x →
        QA X (e :: es) t →
          autoParam ((x == Str.ofString "__debug__") = false) pe_callee._auto_1 →
            autoParam (starEach (e :: es) X.env = (false, eval e X.env) :: starEach es X.env) pe_callee._auto_2 →
              autoParam (((backTo pos (starEach es X.env)).any fun (x : Bool × Sem Value) => x.fst) = false)
                  pe_callee._auto_3 →
                QE X ((Expr.Name x p).Call (e :: es) [] pos) (tCall sp [] E0 t) :=
  fun h0 h1 h2 h3 h4 h5 h6 => ⟨pe_callee h0 h1 h2 h3.p h4 h5 h6⟩
theorem qe_callB : ∀ {X : Cx} {x : Str} {p pos : Pos} {e : Expr} {es : List Expr} {t : TA} {id : String}
  {r : List V → Hp → VK → Prop},
  CallR X (Value.builtin id) r →
    Gl X x →
      X.mg x = none →
        bootBuiltins x = some (Value.builtin id) →
          QA X (e :: es) t →
            autoParam (x ≠ Str.ofString "__name__") pe_callB._auto_1 →
              autoParam ((x == Str.ofString "__debug__") = false) pe_callB._auto_2 →
                autoParam (starEach (e :: es) X.env = (false, eval e X.env) :: starEach es X.env) pe_callB._auto_3 →
                  autoParam (((backTo pos (starEach es X.env)).any fun (x : Bool × Sem Value) => x.fst) = false)
                      pe_callB._auto_4 →
                    QE X ((Expr.Name x p).Call (e :: es) [] pos) (tCB r t) :=
  fun h0 h1 h2 h3 h4 h5 h6 h7 h8 => ⟨pe_callB h0 h1 h2 h3 h4.p h5 h6 h7 h8⟩
theorem qe_bm : ∀ {X : Cx} {o e : Expr} {es : List Expr} {to : TE} {t : TA} {name : Str} {apos cpos : Pos} {T id : String}
  {r : V → List V → Hp → VK → Prop},
  PlainAttrs T →
    Slot T name id →
      typeOf (Value.builtin id) = pure (Value.type "method_descriptor") →
        MtR X id r →
          QE X o to →
            QA X (e :: es) t →
              autoParam (attributeBase o name X.env (eval o X.env) = eval o X.env) pe_bm._auto_1 →
                autoParam
                    (((((backTo cpos (starEach (e :: es) X.env)).all fun (x : Bool × Sem Value) => !x.fst) &&
                          (backToKw cpos (keywordEach [] X.env)).all fun (x : Option Str × Sem Value) =>
                            x.fst.isSome) &&
                        decide (((e :: es).length + ([] : List Keyword).length + if ([] : List Keyword).isEmpty = true then 0 else 1) < 30)) =
                      true)
                    pe_bm._auto_2 →
                  autoParam ((apos.endLine == cpos.line) = true) pe_bm._auto_3 →
                    autoParam (starEach (e :: es) X.env = (false, eval e X.env) :: starEach es X.env) pe_bm._auto_4 →
                      autoParam (((backTo cpos (starEach es X.env)).any fun (x : Bool × Sem Value) => x.fst) = false)
                          pe_bm._auto_5 →
                        QE X ((o.Attribute name apos).Call (e :: es) [] cpos) (tBM X.K T r to t) :=
  fun h0 h1 h2 h3 h4 h5 h6 h7 h8 h9 h10 => ⟨pe_bm h0 h1 h2 h3 h4.p h5.p h6 h7 h8 h9 h10⟩
theorem qe_comp : ∀ {X : Cx} {elt tg iter : Expr} {ifs : List Expr} {scope : Scope} {pos : Pos} {wi : TI} {g : TG} {tc : TT}
  {te : TE} (own fr : List Str) (js : List Nat) (NX : List Str) (sn : List (Str × NameKind)),
  X.calm = true →
    QI X tg iter wi →
      (∀ (cl : List (Str × Addr)) (C : Addr) (s : Shared) (H : Hp) (fp : List Addr),
          QG (cxComp X scope cl C (own ++ fr) s H fp) tg g) →
        (∀ (cl : List (Str × Addr)) (C : Addr) (s : Shared) (H : Hp) (fp : List Addr),
            QTs (cxComp X scope cl C (own ++ fr) s H fp) ifs tc) →
          (∀ (cl : List (Str × Addr)) (C : Addr) (s : Shared) (H : Hp) (fp : List Addr),
              QE (cxComp X scope cl C (own ++ fr) s H fp) elt te) →
            autoParam (X.N = NX) pe_comp._auto_1 →
              autoParam (X.env.scope.names = sn) pe_comp._auto_2 →
                autoParam (scope.kind = ScopeKind.function) pe_comp._auto_3 →
                  autoParam (capOk NX sn scope.names fr js = true) pe_comp._auto_4 →
                    autoParam (scOk sn scope.names = true) pe_comp._auto_5 →
                      autoParam (∀ (x : Value), foldedSetIterable iter X.env x = pure x) pe_comp._auto_6 →
                        QE X (elt.ListComp [{ target := tg, iter := iter, ifs := ifs, is_async := 0 }] scope pos)
                          (tComp wi g tc te own.length js) :=
  fun own fr js NX sn h0 h1 h2 h3 h4 h5 h6 h7 h8 h9 h10 => ⟨pe_comp own fr js NX sn h0 h1.p (fun a b c d e => (h2 a b c d e).p) (fun a b c d e => (h3 a b c d e).p) (fun a b c d e => (h4 a b c d e).p) h5 h6 h7 h8 h9 h10⟩
theorem qe_cmpR : ∀ {X : Cx} {a b : Expr} {ta tb : TE} {pos : Pos} {op : CmpOp} {r : R2},
  OpR X (compareOp op) r →
    QE X a ta → QE X b tb → behindInMarks op b = false → QE X (a.Compare [op] [b] pos) (tOp r ta tb) :=
  fun h0 h1 h2 h3 => ⟨pe_cmpR h0 h1.p h2.p h3⟩
theorem qt_cmpR : ∀ {X : Cx} {a b : Expr} {ta tb : TE} {pos : Pos} {op : CmpOp} {r : R2},
  OpR X (compareOp op) r →
    QE X a ta → QE X b tb → behindInMarks op b = false → QT X (a.Compare [op] [b] pos) (tTest (tOp r ta tb)) :=
  fun h0 h1 h2 h3 => ⟨pt_cmpR h0 h1.p h2.p h3⟩
theorem qt_not : ∀ {X : Cx} {a : Expr} {pos : Pos} {tA : TT}, QT X a tA → QT X (Expr.UnaryOp UnaryOp.Not a pos) (tNot tA) :=
  fun h0 => ⟨pt_not h0.p⟩
theorem qt_val : ∀ {X : Cx} {e : Expr} {t : TE},
  QE X e t →
    autoParam
        (∀ (whole : Sem Value),
          PySem.isTrue e X.env whole = do
            let v ← whole
            standAt e.pos
            holding [v] (truthy v))
        pt_val._auto_1 →
      QT X e (tB t) :=
  fun h0 h1 => ⟨pt_val h0.p h1⟩
theorem qw_pt : ∀ {X : Cx} {e : Expr} {t : TT}, QW X e t → QT X e t :=
  fun h0 => ⟨PW.pt h0.p⟩
theorem qw_and : ∀ {X : Cx} {a b : Expr} {pos : Pos} {tA tB' : TT} {rest : List Expr},
  QT X a tA →
    QW X (Expr.BoolOp BoolOp.And (b :: rest) pos) tB' → QW X (Expr.BoolOp BoolOp.And (a :: b :: rest) pos) (tAnd tA tB') :=
  fun h0 h1 => ⟨pw_and h0.p h1.p⟩
theorem qw_or : ∀ {X : Cx} {a b : Expr} {pos : Pos} {tA tB' : TT} {rest : List Expr},
  QT X a tA →
    QW X (Expr.BoolOp BoolOp.Or (b :: rest) pos) tB' → QW X (Expr.BoolOp BoolOp.Or (a :: b :: rest) pos) (tOr tA tB') :=
  fun h0 h1 => ⟨pw_or h0.p h1.p⟩
theorem qw_and1 : ∀ {X : Cx} {a : Expr} {pos : Pos} {tA : TT}, QT X a tA → QW X (Expr.BoolOp BoolOp.And [a] pos) tA :=
  fun h0 => ⟨pw_and1 h0.p⟩
theorem qw_or1 : ∀ {X : Cx} {a : Expr} {pos : Pos} {tA : TT}, QT X a tA → QW X (Expr.BoolOp BoolOp.Or [a] pos) tA :=
  fun h0 => ⟨pw_or1 h0.p⟩
theorem qi_list : ∀ {X : Cx} {tg l : Expr} {tl : TE}, QE X l tl → QI X tg l (iList X.K tl) :=
  fun h0 => ⟨pi_list h0.p⟩
theorem qi_range1 : ∀ {X : Cx} {tg a : Expr} {ta : TA} {p pos : Pos},
  Gl X (Str.ofString "range") →
    X.mg (Str.ofString "range") = none →
      QA X [a] ta →
        autoParam (starEach [a] X.env = [(false, eval a X.env)]) pi_range1._auto_1 →
          QI X tg ((Expr.Name (Str.ofString "range") p).Call [a] [] pos) (iRng1 ta) :=
  fun h0 h1 h2 h3 => ⟨pi_range1 h0 h1 h2.p h3⟩
theorem qg_name : ∀ {X : Cx} {pos : Pos} {i : Nat} {x : Str},
  X.N.Nodup →
    X.N[i]? = some x →
      Loc X.env.scope x →
        autoParam (X.fn x = true ∨ List.lookup x X.env.scope.names = some NameKind.local) pg_name._auto_1 →
          QG X (Expr.Name x pos) (gName i) :=
  fun h0 h1 h2 h3 => ⟨pg_name h0 h1 h2 h3⟩
theorem qts_nil : ∀ {X : Cx}, QTs X [] tAlways :=
  ⟨pts_nil ⟩
theorem qs_ret : ∀ {X : Cx} {e : Expr} {te : TE} {pos : Pos}, QE X e te → QS X (Stmt.Return (some e) pos) (tRet te) :=
  fun h0 => ⟨ps_ret h0.p⟩
theorem qs_set : ∀ {X : Cx} {pos : Pos} {i : Nat} {x : Str} {e : Expr} {te : TE} {pos' : Pos},
  X.N.Nodup →
    X.N[i]? = some x →
      Loc X.env.scope x →
        QE X e te →
          autoParam (swapsWith e (some (Expr.Name x pos')) pos.line X.env = pure false) ps_set._auto_1 →
            autoParam (X.fn x = true ∨ List.lookup x X.env.scope.names = some NameKind.local) ps_set._auto_2 →
              QS X (Stmt.Assign [Expr.Name x pos'] e pos) (tAsg te (gName i)) :=
  fun h0 h1 h2 h3 h4 h5 => ⟨ps_set h0 h1 h2 h3.p h4 h5⟩
theorem qs_asg : ∀ {X : Cx} {pos : Pos} {tg e : Expr} {te : TE} {g : TG},
  QE X e te →
    QG X tg g →
      autoParam (swapsWithSole [tg] e pos.line X.env = pure false) ps_asg._auto_1 →
        autoParam (swappedStores [tg] e X.env = pure none) ps_asg._auto_2 →
          autoParam
              (List.map (fun (x : Bool × (Value → Sem Unit)) => x.snd) (assignEach [tg] X.env) = [assign tg X.env])
              ps_asg._auto_3 →
            QS X (Stmt.Assign [tg] e pos) (tAsg te g) :=
  fun h0 h1 h2 h3 h4 => ⟨ps_asg h0.p h1.p h2 h3 h4⟩
theorem qg_sub : ∀ {X : Cx} {pos : Pos} {o i : Expr} {to ti : TE} {t : TSet},
  QE X o to →
    QE X i ti →
      PSet X t →
        autoParam
            (∀ (v : Value),
              assign (o.Subscript i pos) X.env v = do
                let ov ← holding [v] (eval o X.env)
                let iv ← holding [v, ov] (eval i X.env)
                standAt pos
                holding [v, ov, iv] (setItem ov iv v)
                release [v, ov, iv] [])
            pg_sub._auto_1 →
          QG X (o.Subscript i pos) (gSub to ti t) :=
  fun h0 h1 h2 h3 => ⟨pg_sub h0.p h1.p h2 h3⟩
theorem qs_augS : ∀ {X : Cx} {pos : Pos} {o i e : Expr} {to ti te : TE} {tget : V → V → Hp → VK → Prop} {tip : TIp}
  {tset : TSet} {op : Operator} {tpos : Pos},
  QE X o to →
    QE X i ti →
      PGet X tget →
        QE X e te →
          PIp X op tip →
            PSet X tset →
              autoParam
                  (∀ (ov iv new : Value),
                    augStore i ov iv new = do
                      holding [new, ov, iv] (setItem ov iv new)
                      release [new, ov, iv] []
                      pure Flow.next)
                  ps_augS._auto_1 →
                QS X (Stmt.AugAssign (o.Subscript i tpos) op e pos) (tAugS to ti te tget tip tset) :=
  fun h0 h1 h2 h3 h4 h5 h6 => ⟨ps_augS h0.p h1.p h2 h3.p h4 h5 h6⟩
theorem qs_if : ∀ {X : Cx} {t u : TS} {pos : Pos} {c : Expr} {a b : List Stmt} {tc : TT},
  QT X c tc → QB X a t → QB X b u → QS X (Stmt.If c a b pos) (tIfS tc t u) :=
  fun h0 h1 h2 => ⟨ps_if h0.p h1.p h2.p⟩
theorem qs_for : ∀ {X : Cx} {tg iter : Expr} {body : List Stmt} {wi : TI} {g : TG} {tb : TS} {pos : Pos},
  PassesOwn (model X.prog X.w) X.A X.env X.xe →
    X.calm = true →
      QI X tg iter wi →
        QG X tg g →
          QB X body tb →
            autoParam (∀ (x : Value), foldedSetIterable iter X.env x = pure x) ps_for._auto_1 →
              QS X (Stmt.For tg iter body [] pos) (tFor wi g tb) :=
  fun h0 h1 h2 h3 h4 h5 => ⟨ps_for h0 h1 h2.p h3.p h4.p h5⟩
theorem qs_comp : ∀ {X : Cx} {i : Nat} {y : Str} {py spos : Pos} {elt tg iter : Expr} {ifs : List Expr} {scope : Scope}
  {pos : Pos} {wi : TI} {g : TG} {tc : TT} {te : TE} (own fr : List Str) (js : List Nat) (NX : List Str)
  (sn : List (Str × NameKind)),
  X.calm = true →
    X.N.Nodup →
      X.N[i]? = some y →
        Loc X.env.scope y →
          QI X tg iter wi →
            (∀ (cl : List (Str × Addr)) (C : Addr) (s : Shared) (H : Hp) (fp : List Addr),
                QG (cxComp X scope cl C (own ++ fr) s H fp) tg g) →
              (∀ (cl : List (Str × Addr)) (C : Addr) (s : Shared) (H : Hp) (fp : List Addr),
                  QTs (cxComp X scope cl C (own ++ fr) s H fp) ifs tc) →
                (∀ (cl : List (Str × Addr)) (C : Addr) (s : Shared) (H : Hp) (fp : List Addr),
                    QE (cxComp X scope cl C (own ++ fr) s H fp) elt te) →
                  autoParam
                      (swapsWith (elt.ListComp [{ target := tg, iter := iter, ifs := ifs, is_async := 0 }] scope pos)
                          (some (Expr.Name y py)) spos.line X.env =
                        pure true)
                      ps_comp._auto_1 →
                    autoParam (X.N = NX) ps_comp._auto_2 →
                      autoParam (X.env.scope.names = sn) ps_comp._auto_3 →
                        autoParam (scope.kind = ScopeKind.function) ps_comp._auto_4 →
                          autoParam (capOk NX sn scope.names fr js = true) ps_comp._auto_5 →
                            autoParam (scOk sn scope.names = true) ps_comp._auto_6 →
                              autoParam (∀ (x : Value), foldedSetIterable iter X.env x = pure x) ps_comp._auto_7 →
                                autoParam (X.fn y = true ∨ List.lookup y X.env.scope.names = some NameKind.local)
                                    ps_comp._auto_8 →
                                  QS X
                                    (Stmt.Assign [Expr.Name y py]
                                      (elt.ListComp [{ target := tg, iter := iter, ifs := ifs, is_async := 0 }] scope
                                        pos)
                                      spos)
                                    (tAsg (tComp wi g tc te own.length js) (gName i)) :=
  fun own fr js NX sn h0 h1 h2 h3 h4 h5 h6 h7 h8 h9 h10 h11 h12 h13 h14 h15 => ⟨ps_comp own fr js NX sn h0 h1 h2 h3 h4.p (fun a b c d e => (h5 a b c d e).p) (fun a b c d e => (h6 a b c d e).p) (fun a b c d e => (h7 a b c d e).p) h8 h9 h10 h11 h12 h13 h14 h15⟩
end L2

end
section
set_option Elab.async false
set_option linter.all false
set_option maxRecDepth 100000
namespace L2
open PySem PySem.Spec PyProof.Rows
/-! min and max with a default, xs[::-1], two lists of the very same things -/
section
variable {prog : Program} {w : World} {A : Around} {R : Result → Shared → Prop} {it0 : Addr} {fp wr : List Addr} {n : Nat} {P : Nat → Value → Prop} {St : Nat → Heap → Prop} {kw : List (Str × Value)}
end
section
variable {prog : Program} {w : World} {A : Around} {E : Value → Shared → Prop} {s : Shared}
end

section
variable {prog : Program} {w : World} {A : Around} {R : Result → Shared → Prop} {it0 : Addr} {fp wr : List Addr} {n : Nat} {P : Nat → Value → Prop} {St : Nat → Heap → Prop} {kw : List (Str × Value)}
end
section
variable {prog : Program} {w : World} {A : Around} {E : Value → Shared → Prop} {s : Shared}
end

section
variable {X : Cx} {e ed : Expr} {ta : TA} {td : TE} {p pos kp : Pos}
def tminD (K : PySem.W.Frag) (ta : TA) (td : TE) : TE := fun σ H Q => ta σ H fun vs H1 => td σ H1 fun y H2 => ∃ (a : Addr) (ns : List Int) (d : Int), vs = [.ref a] ∧ y = .int d ∧ SqL K H2 a (ns.map V.int) ∧ (ns = [] → Q (.int d) H2) ∧ (ns ≠ [] → ∀ M, M ∈ ns → (∀ z ∈ ns, M ≤ z) → Q (.int M) H2)
end

section
variable {X : Cx} {e ed : Expr} {ta : TA} {td : TE} {p pos kp : Pos}
def tmaxD (K : PySem.W.Frag) (ta : TA) (td : TE) : TE := fun σ H Q => ta σ H fun vs H1 => td σ H1 fun y H2 => ∃ (a : Addr) (ns : List Int) (d : Int), vs = [.ref a] ∧ y = .int d ∧ SqL K H2 a (ns.map V.int) ∧ (ns = [] → Q (.int d) H2) ∧ (ns ≠ [] → ∀ M, M ∈ ns → (∀ z ∈ ns, z ≤ M) → Q (.int M) H2)
end

section
variable {X : Cx} {e es : Expr} {te ts : TE} {p2 pos : Pos}
def tRev (K : PySem.W.Frag) (te ts : TE) : TE := fun σ H Q => te σ H fun x H1 => ts σ H1 fun y H2 => y = .int (-1) ∧ ∃ (a : Addr) (xs : List V), x = .ref a ∧ SqL K H2 a xs ∧ ∀ q, H2 q = none → Q (.ref q) (upd H2 q (.lst xs.reverse))
end
/-- what may stand twice as it is -/
def plainV : V → Bool
  | .non => true
  | .bl _ => true
  | .int _ => true
  | .str _ => true
  | .ref _ => true
  | _ => false
section
variable {X : Cx}
/-- xs != ys where both have the very same things -/
def rNeSelf (K : PySem.W.Frag) : R2 := fun x y H Q => ∃ (a b : Addr) (xs : List V), x = .ref a ∧ y = .ref b ∧ SqL K H a xs ∧ SqL K H b xs ∧ xs.all plainV = true ∧ Q (.bl false) H
end

section
variable {X : Cx} {e ed es : Expr} {ta : TA} {td te ts : TE} {p p2 pos kp : Pos}
end
end L2

end
section
set_option Elab.async false
set_option linter.all false
set_option maxRecDepth 100000
namespace L2
open PySem PySem.Spec PyProof.Rows

/-- an exception's object: its class, its dict, its traceback -/
def ExcO (x : Addr) (cls : Value) (dx tb : Option Addr) (h : Heap) : Prop :=
  ∃ vs : Array Value, h.get? x = some { cls := cls, dict := dx, data := .fields vs } ∧ vs[1]? = some (tb.elim Value.none Value.ref)
/-- a traceback's object, its flight -/
def TbO (T : Addr) (fl : Value) (h : Heap) : Prop := ∃ (oT : Obj) (ts : Array Value), h.get? T = some oT ∧ oT.data = .fields ts ∧ ts[3]? = some fl
abbrev hE (x : Addr) (cls : Value) (dx tb : Option Addr) : HO := .ext (ExcO x cls dx tb)
abbrev hT (T : Addr) (fl : Value) : HO := .ext (TbO T fl)

section
variable {P : Program} {w : World} {H : Hp} {h : Heap} {x T : Addr} {cls fl : Value} {dx tb : Option Addr}
theorem hE_ok (e : ExcO x cls dx tb h) : ObjOk P w H h x (hE x cls dx tb) :=
  ⟨e, let ⟨_, q, _⟩ := e; ⟨_, q⟩, fun h1 h2 ⟨vs, q, r⟩ k => ⟨vs, k _ q, r⟩⟩
theorem hT_ok (e : TbO T fl h) : ObjOk P w H h T (hT T fl) :=
  ⟨e, let ⟨_, _, q, _⟩ := e; ⟨_, q⟩, fun h1 h2 ⟨o, ts, q, r⟩ k => ⟨o, ts, k _ q, r⟩⟩
end

/-- an exception in flight: known, with a traceback that has landed, or none yet -/
structure Fly (H : Hp) (x : Addr) (cls : Value) (dx tb : Option Addr) : Prop where
  ex : H x = some (hE x cls dx tb)
  tr : ∀ T, tb = some T → H T = some (hT T .none) ∧ T ≠ x

theorem upd_id {H : Hp} {a : Addr} {o : HO} (e : H a = some o) : upd H a o = H := by
  funext b; unfold upd; split
  · rename_i z; rw [z, e]
  · rfl

section
variable {X : Cx} {pins : List (Addr × Obj)} {σ : St} {H : Hp} {s : Shared} {M : Model} {A : Around} {E : Value → Shared → Prop} {x T : Addr} {cls fl : Value} {dx tb : Option Addr}
theorem Inv.exc (I : Inv X pins σ H s) (e : H x = some (hE x cls dx tb)) : ExcO x cls dx tb s.heap := (I.hok x _ e).1
theorem Inv.tbo (I : Inv X pins σ H s) (e : H T = some (hT T fl)) : TbO T fl s.heap := (I.hok T _ e).1

/-- the flight of a traceback is set -/
theorem tb_set {Q : Unit → Shared → Prop} {v : Value} (I : Inv X pins σ H s) (e : H T = some (hT T fl)) (h : ∀ s', Inv X pins σ (upd H T (hT T v)) s' → Q () s') : wpAny M A (setField (.ref T) 3 v) Q E s := by
  obtain ⟨oT, ts, ho, hd, h3⟩ := I.tbo e
  have hsz : 3 < ts.size := (Array.getElem?_eq_some_iff.mp h3).1
  have hd' := Obj.data_mapFields hd (·.setIfInBounds 3 v)
  have hs' := Heap.get?_update_self (Obj.mapFields (·.setIfInBounds 3 v)) ho (Obj.isFreed_of_fields hd')
  refine wpAny_setField ho hd hsz (h _ ?_)
  exact I.write (t' := s.toks) (by rw [e]; trivial) (.inl rfl) (fun b u hb q => (Heap.get?_update_other _ _ (Ne.symm hb)).trans q) ⟨_, hs'⟩ (hT_ok ⟨_, _, hs', hd', by simp [hsz]⟩)

/-- the exception's traceback is set -/
theorem ex_set {Q : Unit → Shared → Prop} (I : Inv X pins σ H s) (e : H x = some (hE x cls dx tb)) (h : ∀ s', Inv X pins σ (upd H x (hE x cls dx (some T))) s' → Q () s') : wpAny M A (setField (.ref x) 1 (.ref T)) Q E s := by
  obtain ⟨vs, ho, h1⟩ := I.exc e
  have hsz : 1 < vs.size := (Array.getElem?_eq_some_iff.mp h1).1
  have hs' := Heap.get?_update_self (Obj.mapFields (·.setIfInBounds 1 (.ref T))) ho rfl
  refine wpAny_setField ho rfl hsz (h _ ?_)
  refine I.write (t' := s.toks) (by rw [e]; trivial) (.inl rfl) (fun b u hb q => (Heap.get?_update_other _ _ (Ne.symm hb)).trans q) ⟨_, hs'⟩ (hE_ok ⟨_, hs', by simp [hsz]⟩)

/-- the frames are readied -/
theorem fr_ok {Q : Value → Shared → Prop} (I : Inv X pins σ H s) (hst : X.stack = X.env :: X.outer) (hf : X.env.frame = some X.env.locals) (hA : A.frames = X.A.frames)
    (h : ∀ s', Inv X pins σ H s' → Q (.ref X.env.locals) s') : wpAny M A (frameOf X.env) Q E s := by
  have hs := I.stack
  have hfr := I.ok.frames
  rw [hst] at hs hfr
  refine wpAny_frameOf_fun (hA.trans hfr) hs hf fun h' so => h _ ?_
  have hfs : (X.env :: X.outer).filterMap (·.frame) = frs X.stack := by rw [hst]; rfl
  rw [hfs] at so
  obtain ⟨-, s1, s2⟩ := so
  have ne : ∀ b o, H b = some o → b ∉ frs X.stack := fun b o q z => by rw [I.stkFree b z] at q; cases q
  refine I.call (g' := s.gens) (t' := s.toks) (d' := s.drawn) (ch := []) ⟨fun b o q _ nf _ => (s1 b nf).trans q, fun b o q _ _ _ => s2 b o q, fun _ _ _ q _ => q, fun b o q _ => ⟨_, (s2 b o q).choose_spec⟩, fun _ _ q => q, fun _ _ _ q => q, fun b ps q => ⟨#[], by rw [q]; simp⟩⟩ (fun b o q => ?_) I.bare (fun _ z => nomatch z)
  refine (I.hok b o q).stay (fun c u hc e => (s1 c ?_).trans e) (fun _ q => q) fun _ _ q => q
  rcases hc with rfl | hc
  · exact ne _ _ q
  · exact ne _ _ hc

/-- noteFrame: a new entry -/
theorem note_ok {Q : Unit → Shared → Prop} (I : Inv X pins σ H s) (hst : X.stack = X.env :: X.outer) (hf : X.env.frame = some X.env.locals) (hA : A.frames = X.A.frames) (fl : Fly H x cls dx tb)
    (h : ∀ s' T', H T' = none → T' ≠ x → Inv X pins σ (upd (upd H T' (hT T' (rawInt X.env.locals))) x (hE x cls dx (some T'))) s' → Q () s') : wpAny M A (noteFrame (.ref x) X.env) Q E s := by
  obtain ⟨fx, ft⟩ := fl
  have tail : ∀ (s1 : Shared) (head : Value) (b : Bool), Inv X pins σ H s1 → wpAny M A (do let a ← frameOf X.env; let pl ← entryPlaceOf X.env.locals b; let c ← EntryCells.newEntry head a .none (rawInt X.env.locals) .none pl; setField (.ref x) 1 c) Q E s1 := fun s1 head b I1 => by
    refine wpAny_bind (fr_ok I1 hst hf hA fun s2 I2 => wpAny_bind (wpAny_entryPlaceOf fun pl hpl => ?_))
    unfold EntryCells.newEntry newFields
    refine wpAny_bind (wpAny_newObj_type ?_ (hpl.sizeOk5 _ _ _ _ _))
    have nx : s2.heap.objs.size ≠ x := Nat.ne_of_gt (I2.hok.lt fx)
    have I3 : Inv X pins σ (upd H s2.heap.objs.size (hT s2.heap.objs.size (rawInt X.env.locals))) { s2 with heap := s2.heap.push { cls := .type "traceback", dict := none, data := .fields ([head, .ref X.env.locals, .none, rawInt X.env.locals, .none] ++ (if pl.isEmpty then List.replicate 6 Value.none else pl)).toArray } } :=
      I2.laid (t' := s2.toks) (fun b u e => Heap.get?_push_of_some _ e) (Nat.le_refl _) (hT_ok ⟨_, _, Heap.get?_push_size _ rfl, rfl, by first | (simp; done) | (rcases hpl with rfl | ⟨_, _, _, _, _, _, _, rfl⟩ <;> simp)⟩)
    refine ex_set I3 (by rw [upd_ne (Ne.symm nx)]; exact fx) fun s4 I4 => h s4 _ (I2.hok.fresh (Nat.le_refl _)) nx I4
  obtain ⟨vs, ho, h1⟩ := I.exc fx
  unfold noteFrame
  simp only [hf]
  refine wpAny_bind (wpAny_field ho rfl h1 ?_)
  cases tb with
  | none => rw [if_neg (by decide)]; exact tail s _ _ I
  | some T =>
    obtain ⟨fT, nT⟩ := ft T rfl
    obtain ⟨oT, ts, hoT, hdT, h3⟩ := I.tbo fT
    rw [show (some T : Option Addr).elim Value.none Value.ref = Value.ref T from rfl, if_pos (show (Value.ref T != Value.none) = true from by simp)]
    refine wpAny_bind (wpAny_field hoT hdT h3 ?_)
    rw [if_neg (show ¬ ((Value.none == rawInt X.env.locals) = true) from by simp [rawInt])]
    refine wpAny_bind (tb_set I fT fun s1 I1 => ?_)
    rw [upd_id fT] at I1
    exact tail s1 _ _ I1

/-- setFlight .. none -/
theorem land_ok {Q : Unit → Shared → Prop} (I : Inv X pins σ H s) (fx : H x = some (hE x cls dx (some T))) (fT : H T = some (hT T fl)) (h : ∀ s', Inv X pins σ (upd H T (hT T .none)) s' → Q () s') : wpAny M A (setFlight (.ref x) none) Q E s := by
  obtain ⟨vs, ho, h1⟩ := I.exc fx
  unfold setFlight
  refine wpAny_bind (wpAny_field ho rfl h1 ?_)
  rw [show (some T : Option Addr).elim Value.none Value.ref = Value.ref T from rfl, if_pos (show (Value.ref T != Value.none) = true from by simp)]
  exact tb_set I fT h

/-- what is known of an abstract heap in which an exception and its traceback were laid -/
structure Flown (H H' : Hp) (x : Addr) (cls : Value) (dx : Option Addr) (T : Addr) : Prop where
  ex : H' x = some (hE x cls dx (some T))
  tr : H' T = some (hT T .none)
  ne : T ≠ x
  new : H T = none
  same : ∀ b, b ≠ x → b ≠ T → H' b = H b
theorem Flown.fly {H H' : Hp} (f : Flown H H' x cls dx T) : Fly H' x cls dx (some T) := ⟨f.ex, fun T' e => by cases e; exact ⟨f.tr, f.ne⟩⟩

/-- noteFrame, then setFlight none: leaving a frame, or being caught in it -/
theorem leave_ok {Q : Unit → Shared → Prop} (I : Inv X pins σ H s) (hst : X.stack = X.env :: X.outer) (hf : X.env.frame = some X.env.locals) (hA : A.frames = X.A.frames) (fl : Fly H x cls dx tb)
    (h : ∀ s' T' H', Flown H H' x cls dx T' → Inv X pins σ H' s' → Q () s') : wpAny M A (leaving X.env (.ref x)) Q E s := by
  unfold leaving
  refine wpAny_bind (note_ok I hst hf hA fl fun s1 T' hn ne I1 => ?_)
  refine land_ok I1 upd_same (by rw [upd_ne ne, upd_same]) fun s2 I2 => h s2 T' _ ⟨?_, upd_same, ne, hn, fun b b1 b2 => ?_⟩ I2
  · rw [upd_ne (Ne.symm ne), upd_same]
  · rw [upd_ne b2, upd_ne b1, upd_ne b2]
end
end L2

end
section
set_option Elab.async false
set_option linter.all false
set_option maxRecDepth 100000
namespace L2
open PySem PySem.Spec PyProof.Rows

abbrev bmV : List Value := [.type "ValueError", .type "Exception", .type "BaseException", .type "object"]
/-- own classes, then those of ValueError -/
def onlyVal : List Value → Bool
  | [] => false
  | v :: r => (v :: r) == bmV || match v with | .ref _ => onlyVal r | _ => false
theorem refuse_val (self : Value) : ∀ {l : List Value}, onlyVal l = true → PySem.refuseLoop self "__setattr__" l = pure ()
  | [], e => by cases e
  | v :: r, e => by
    unfold onlyVal at e
    rcases Bool.or_eq_true_iff.mp e with q | q
    · rw [beq_iff_eq.mp q]; exact PySem.F.store_ValueError.passes self
    · split at q
      · rw [refuseLoop_ref]; exact refuse_val self q
      · cases q
theorem val_has {T : String} (hT : bmV.contains (.type T) = true) : ∀ {l : List Value}, onlyVal l = true → l.contains (.type T) = true
  | [], e => by cases e
  | v :: r, e => by
    unfold onlyVal at e
    rcases Bool.or_eq_true_iff.mp e with q | q
    · rw [beq_iff_eq.mp q]; exact hT
    · split at q
      · rw [List.contains_cons, val_has hT q, Bool.or_true]
      · cases q
def valOver (K : PySem.W.Frag) (C : Addr) : Bool := (PySem.W.clsIn K C).any fun cd => onlyVal cd.mro
/-- what is asked of an own class of exceptions -/
structure XCls (K : PySem.W.Frag) (C : Addr) : Prop where
  hd : PySem.W.hasDictIn K C = true
  ov : valOver K C = true
  sa : PySem.W.findIn K (.ref C) "__setattr__" = some (some (.builtin "object.__setattr__"))
  ga : PySem.W.findIn K (.ref C) "__getattribute__" = some (some (.builtin "BaseException.__getattribute__"))
  gt : PySem.W.findIn K (.ref C) "__getattr__" = some none
  ty : PySem.W.typeIn K (.ref C) = some (.type "type")
  cl : PySem.W.findIn K (.ref C) "__class__" = some (some (.builtin "object.__class__"))
  cg : PySem.W.specialIn K (.builtin "object.__class__") "__get__" = some (some (.builtin "getset_descriptor.__get__"))
  ct : PySem.W.takesIn K (.builtin "object.__class__") = some true
  cm : PySem.W.mroIn K C (.type "object") = some true

section
variable {prog : Program} {w : World} {A : Around} {E : Value → Shared → Prop} {s : Shared} {K : PySem.W.Frag} {x dx C : Addr} {name : Str} {v : Value} {R : Result → Shared → Prop}
theorem val_inst {M : Model} {ox : Obj} {od : Option Obj} {T : String} (hT : bmV.contains (.type T) = true) (X : K.In s.heap) (I : PySem.W.InstAt s.heap x ox C od) (hp : valOver K C = true) : PySem.W.Looks M s.heap (isInstance (.ref x) (.type T)) true := by
  obtain ⟨cd, hc, ho⟩ := PySem.W.any_some hp
  have ne : cd.mro.isEmpty = false := by cases q : cd.mro with | nil => rw [q] at ho; cases ho | cons _ _ => rfl
  exact I.type.andThen (PySem.W.looks_mroIn X (by unfold PySem.W.mroIn; rw [hc, Option.bind_some, if_neg (by rw [ne]; decide), val_has hT ho]))

theorem osa_openV {ox : Obj} {od : Option Obj} {tk : Tok} (X : K.In s.heap) (I : PySem.W.InstAt s.heap x ox C od) (hp : valOver K C = true) (ht : PySem.W.findIn K (.ref C) name = some none)
    (h : ∀ b, wpAny (model prog w) A.in1 (Builtin.ObjectAttr.storeInOwnDict (.ref x) (.ref C) (.str name tk) name v b)
      (fun fin s' => match fin with | .done f => R (.ok f) s' | .again c' => c'.quiet = true ∧ codeAny (model prog w) A c' R s') (fun e s' => R (.error e) s') s) :
    codeAny (model prog w) A (.call (.builtin "object.__setattr__") ⟨[.ref x, .str name tk, v], []⟩) R s := by
  have SF := PySem.F.store_object
  obtain ⟨cd, hc, ho⟩ := PySem.W.any_some hp
  refine codeAny_call_builtin SF.slot.plain SF.entry (PySem.W.check_slot (s := s) (i := "object.__setattr__") (owner := "object") (n := "__setattr__") (self := .ref x) (rest := [.str name tk, v]) (kw := []) SF.kind SF.split (val_inst (by decide) X I hp) (SF.args (.ref x) (.str name tk) v) ?_)
  have hm : PySem.W.Looks (model prog w) s.heap (mroOf (.ref C)) cd.mro := (PySem.W.looks_clsIn X hc).andThen .now
  rw [PySem.W.osa_eq, refuse_eq]
  refine wpAny_bind (wpAny_bind (I.type.here (wpAny_bind (hm.here ?_))))
  rw [refuse_val _ ho]
  refine wpAny_pure (wpAny_bind (I.type.here (wpAny_bind ((PySem.W.looks_findIn X ht).here (wpAny_bind (PySem.W.Looks.here (PySem.W.Looks.now (a := (none : Option Value))) ?_))))))
  exact h _

/-- x.name = v: the exception has no dict yet -/
theorem set_exc {Q : Unit → Shared → Prop} {vs : Array Value} (X : K.In s.heap) (hx : s.heap.get? x = some { cls := .ref C, dict := none, data := .fields vs }) (c : XCls K C) (n : NoAttr K C name)
    (h : ∀ h', h'.Ns1 s.heap.objs.size (fun y => if y = name then some v else none) → h'.get? x = some { cls := .ref C, dict := some s.heap.objs.size, data := .fields vs } → (∀ b o, b ≠ x → s.heap.get? b = some o → h'.get? b = some o) → Q () { s with heap := h', toks := s.toks + 2 }) :
    wpAny (model prog w) A (setAttr (.ref x) name v) Q E s := by
  have J : PySem.W.InstAt s.heap x { cls := .ref C, dict := none, data := .fields vs } C none := ⟨hx, rfl, rfl, trivial⟩
  refine PySem.W.set_plain X J c.sa (osa_openV (s := { s with toks := s.toks + 1 }) X J c.ov n fun b => ?_)
  obtain ⟨cd, hc, hd'⟩ := PySem.W.any_some c.hd
  refine wpAny_bind (wpAny_pure (wpAny_bind (wpAny_bind (wpAny_loadPart hx (wpAny_bind (PySem.W.Looks.here (s := { s with toks := s.toks + 1 }) (PySem.W.looks_clsIn X hc) ?_))))))
  rw [hd']
  have hxs : x ≠ s.heap.objs.size := Nat.ne_of_lt (Heap.lt_size hx)
  have hx₁ : (s.heap.push { cls := .type "dict", data := .dict #[] }).get? x = some { cls := .ref C, dict := none, data := .fields vs } := Heap.get?_push_of_some _ hx
  refine wpAny_bind (wpAny_alloc ?_)
  refine wpAny_bind (wpAny_update hx₁ ?_)
  refine wpAny_pure ?_
  have hgd : ((s.heap.push { cls := .type "dict", data := .dict #[] }).update x fun o => { o with dict := some s.heap.objs.size }).get? s.heap.objs.size = some { cls := .type "dict", data := .dict #[] } :=
    (Heap.get?_update_ne _ _ _ _ hxs.symm).trans (Heap.get?_push_at rfl rfl)
  have hnd : ((s.heap.push { cls := .type "dict", data := .dict #[] }).update x fun o => { o with dict := some s.heap.objs.size }).Ns s.heap.objs.size (fun _ => none) :=
    ⟨_, #[], _, hgd, rfl, fun e he => absurd he (by simp), fun _ => rfl⟩
  show wpAny _ _ (Builtin.ObjectAttr.storeInDict s.heap.objs.size (.str name _) name v) _ _ _
  unfold Builtin.ObjectAttr.storeInDict Builtin.ObjectAttr.newKeyGuard
  refine wpAny_bind (wpAny_pure (wpAny_bind (wpAny_nsSet1 (Heap.Ns1.of_empty hnd) fun h' hn' hs => ?_)))
  obtain ⟨oD, esD, epD, hoD, hdD, hcD⟩ := hn'.count (Within.cons name v Within.nil)
  refine wpAny_bind (wpAny_lookBehind hoD (by rw [hdD]; exact pastItsLine_dict (Nat.le_trans hcD (by rw [List.length_cons, List.length_nil, sizeLine_eq]; omega))) ?_)
  refine wpAny_pure (h h' hn' ?_ fun b o hb q => ?_)
  · exact (hs.2 x hxs).trans (Heap.get?_update_self _ hx₁ rfl)
  · exact (hs.2 b (Nat.ne_of_lt (Heap.lt_size q))).trans ((Heap.get?_update_ne _ _ _ _ hb).trans (Heap.get?_push_of_some _ q))

/-- x.name of an exception, out of its dict -/
theorem get_exc {expr : Bool} {Q : Value → Shared → Prop} {vs : Array Value} {mA : Str → Option Value} (X : K.In s.heap) (hx : s.heap.get? x = some { cls := .ref C, dict := some dx, data := .fields vs }) (c : XCls K C) (n : NoAttr K C name) (hn : s.heap.Ns1 dx mA) (hv : mA name = some v)
    (hh : PySem.W.handedIn v = true) (h : Q v { s with toks := s.toks + 1 }) : wpAny (model prog w) A (getAttr (.ref x) name expr) Q E s := by
  obtain ⟨od, ho, hl⟩ := lookIn_ns hn
  have J : PySem.W.InstAt s.heap x { cls := .ref C, dict := some dx, data := .fields vs } C (some od) := ⟨hx, rfl, rfl, ho⟩
  have L0 := J.type (M := model prog w)
  have L1 := PySem.W.looks_findIn (M := model prog w) X c.ga
  have L2 := PySem.W.looks_findIn (M := model prog w) X c.gt
  have L3 := PySem.W.looks_find (M := model prog w) X J (PySem.W.findObj_own c.hd n rfl (by rw [hl, hv]))
  have L4 := val_inst (s := s) (M := model prog w) (T := "BaseException") (by decide) X J c.ov
  have FB := PySem.F.attrBase_ValueError
  obtain ⟨hh', g, d, t, os⟩ := s
  unfold getAttr getAttrBy
  refine wpAny_bind (wpAny_mkText (wpAny_holding (wpAny_bind (L0.at (wpAny_bind (L1.at ?_))))))
  have hx2 : (Value.builtin "BaseException.__getattribute__" == Value.builtin "object.__getattribute__") = false := by decide +kernel
  dsimp only
  rw [hx2, Bool.and_false, if_neg (by decide)]
  unfold getAttrByItsOwn
  refine wpAny_bind (L2.at (wpAny_bind (wpAny_attempt (wpAny_holding ?_))))
  unfold callGetattribute
  rw [if_neg (by cases expr <;> decide)]
  unfold boundAndCalled
  rw [FB.ga.bind]
  refine wpAny_bind (wpAny_pure (wpAny_call (codeAny_call_builtin FB.ga.plain PySem.F.entry_bexc_ga (PySem.W.check_slot (i := "BaseException.__getattribute__") (owner := "BaseException") (n := "__getattribute__") (self := .ref x) (rest := [.str name t]) (kw := []) (by decide +kernel) (by decide +kernel) L4 (PySem.F.args_bexc_ga _ _) ?_))))
  refine wpAny_bind (wpAny_pure (wpAny_bind (wpAny_pure (wpAny_bind (L0.at (wpAny_bind (L3.at ?_)))))))
  refine wpAny_pure ?_
  show wpAny _ _ (handedOut v) _ _ _
  rw [PySem.W.handedOut_of hh]; exact wpAny_pure h
end
end L2

end
section
set_option Elab.async false
set_option linter.all false
set_option maxRecDepth 100000
namespace L2
open PySem PySem.Spec PyProof.Rows

/-- the class's own shape; r: its own __init__ -/
def excXIn (K : PySem.W.Frag) (C : Addr) (r : Option Value) : Bool := match K.lookup C with
  | some ⟨.type "type", _, .cls cd, sl⟩ => (match cd.mro, sl.toList with
    | .ref C' :: bm, [_, _, _, _, some (.builtin n), _] => ((C' == C && n == "ValueError.__new__") && (!cd.hasDel && PySem.W.tailIn K bmV bm)) && (PySem.W.nsOkIn K cd.ns && PySem.W.nsIn K cd.ns "__init__" == some r)
    | _, _ => false)
  | _ => false
theorem ns_some_of {K : PySem.W.Frag} {h : Heap} {N : Addr} {m : Str → Option Value} {n : Str} {r : Option Value} (X : K.In h) (G : h.Ns N m) (e : PySem.W.nsIn K N n = some r) : m n = r := by
  obtain ⟨o, es, ep, ho, hd, _, hf⟩ := G
  unfold PySem.W.nsIn at e
  split at e
  · rename_i c d es' n' sl q
    have := X _ _ q
    rw [ho] at this
    cases this
    cases hd
    rw [← hf]
    unfold nsFind findBy
    rw [← Array.find?_toList]
    split at e
    · rename_i he; cases e; rw [he]; rfl
    · rename_i he
      split at e
      · cases e
      · cases e; rw [he]; rfl
  · cases e
theorem excX_of {K : PySem.W.Frag} {h : Heap} {C : Addr} {r : Option Value} (X : K.In h) (q : excXIn K C r = true) : ∃ bm N nm qn bs hd sn sub ab col dd k0 k1 k2 k3 k5 mN,
    h.get? C = some (excClassObj nm qn C N bs bm hd sn sub ab col dd k0 k1 k2 k3 k5 "ValueError.__new__") ∧ h.Ns N mN ∧ mN "__init__" = r ∧ OwnTail h bmV bm := by
  unfold excXIn at q
  split at q
  · rename_i dd cd sl ho
    split at q
    · rename_i C' bm k0 k1 k2 k3 n k5 hm hs
      simp only [Bool.and_eq_true, beq_iff_eq, Bool.not_eq_true'] at q
      obtain ⟨⟨⟨rfl, rfl⟩, hdel, ht⟩, hok, hni⟩ := q
      obtain ⟨nm, bs, mro, ns, qn, hd, sn, sub, ab, col, del⟩ := cd
      dsimp only at hm hdel hok hni
      subst hm hdel
      obtain rfl : sl = #[k0, k1, k2, k3, some (.builtin "ValueError.__new__"), k5] := by
        obtain ⟨l⟩ := sl
        simp only at hs
        rw [hs]
      have G : h.Ns ns (h.nsMap ns) := .of_isNs (PySem.W.isNs_of_in X hok)
      exact ⟨bm, ns, nm, qn, bs, hd, sn, sub, ab, col, dd, k0, k1, k2, k3, k5, _, X _ _ ho, G, ns_some_of X G hni, PySem.W.tail_of_in X ht⟩
    · cases q
  · cases q

section
variable {prog : Program} {w : World} {A : Around} {E : Value → Shared → Prop} {h : Heap} {g : Array GenState} {d : Drawn} {t : Nat} {os : OsState}
variable {nm qn : Str} {C N fI : Addr} {bs bm : List Value} {hd : Bool} {sn : List Str} {sub : List Value} {ab : Bool} {col : Option Bool} {dd : Option Addr} {k0 k1 k2 k3 k5 : Option Value} {mN : Str → Option Value} {rest : List Value} {oI : Obj}

/-- type.__call__ of an own class of exceptions that has its own __init__ -/
theorem tcall_excI {Q : Fin → Shared → Prop} (T : OwnTail h bmV bm) (hC : h.get? C = some (excClassObj nm qn C N bs bm hd sn sub ab col dd k0 k1 k2 k3 k5 "ValueError.__new__")) (hn : h.Ns N mN) (hi : mN "__init__" = some (.ref fI)) (hf : h.get? fI = some oI)
    (hfc : oI.cls = .type "function") (hr : rest.length ≤ sizeLine)
    (hq : ∀ h' e, Heap.MadeExcOf h h' e (.ref C) rest → wpAny (model prog w) A (call (.ref fI) (.ref e :: rest)) (fun r s' => r = .none ∧ Q (.done (.ret (.ref e))) s') E ⟨h', g, d, t, os⟩) :
    wpAny (model prog w) A (Builtin.«type.__call__» ⟨.ref C :: rest, []⟩) Q E ⟨h, g, d, t, os⟩ := by
  have FV := PySem.F.excBase_ValueError
  repeat (first | with_reducible refine wpAny_loadPart_at hC ?_ | with_reducible refine wpAny_madeBy_exc hC ?_ | wp_step)
  refine codeAny_call_builtin_code (Code.quiet_builtin _ FV.quiet) (wpAny_check_new_subU FV (by decide) T hC (codeAny_exc_new_subU FV (by decide) FV T hC ?_ hr))
  show wpAny _ _ _ _ _ _
  generalize hh : (h.push { cls := .type "tuple", data := .seq rest.toArray }).push { cls := .ref C, data := .fields #[.ref h.objs.size, .none, .none, .none, .bool false, .none] } = h1
  have kp : ∀ b o, h.get? b = some o → h1.get? b = some o := fun b o e => by rw [← hh]; exact Heap.get?_push_of_some _ (Heap.get?_push_of_some _ e)
  have g1 : h1.get? (h.objs.size + 1) = some { cls := .ref C, data := .fields #[.ref h.objs.size, .none, .none, .none, .bool false, .none] } := by rw [← hh]; heap_get
  have g0 : h1.get? h.objs.size = some { cls := .type "tuple", data := .seq rest.toArray } := by rw [← hh]; exact Heap.get?_push_of_some _ (Heap.get?_push_at rfl rfl)
  have mk : Heap.MadeExcOf h h1 (h.objs.size + 1) (.ref C) rest := ⟨kp, Heap.get?_none_of_le (Nat.le_succ _), h.objs.size, g1, Heap.get?_none_of_le (Nat.le_refl _), g0⟩
  have hcC : (Value.ref C :: bm).contains (.ref C) = true := by simp
  unfold isInstance
  repeat (first | with_reducible refine wpAny_loadPart_at g1 ?_ | (with_reducible refine wpAny_isSubtype_exc (kp _ _ hC) ?_; rw [hcC]) | wp_step)
  show wpAny _ _ (typeLookup (.ref C) _) _ _ _
  refine wpAny_typeLookup_tail (kp _ _ hC) (hn.keeps kp) (T.keeps kp) FV.mroIs FV.init.lookup ?_
  rw [hi]
  refine wpAny_holding (wpAny_bind ?_)
  unfold bindSpecial
  refine wpAny_bind (wpAny_typeOf (T := "function") ⟨_, kp _ _ hf, hfc⟩ ?_)
  rw [if_pos (by decide)]
  refine wpAny_pure (wpAny_bind (wpAny_mono (hq h1 _ mk) (fun r s' hr => ?_) fun _ _ x => x))
  obtain ⟨rfl, hQ⟩ := hr
  wp_walk
  exact hQ

theorem call_excI {Q : Value → Shared → Prop} (T : OwnTail h bmV bm) (hC : h.get? C = some (excClassObj nm qn C N bs bm hd sn sub ab col dd k0 k1 k2 k3 k5 "ValueError.__new__")) (hn : h.Ns N mN) (hi : mN "__init__" = some (.ref fI)) (hf : h.get? fI = some oI)
    (hfc : oI.cls = .type "function") (hr : rest.length ≤ sizeLine)
    (hq : ∀ h' e, Heap.MadeExcOf h h' e (.ref C) rest → wpAny (model prog w) (A.under (.builtin "type.__call__" ⟨.ref C :: rest, []⟩)) (call (.ref fI) (.ref e :: rest)) (fun r s' => r = .none ∧ Q (.ref e) s') E ⟨h', g, d, t, os⟩) :
    wpAny (model prog w) A (call (.ref C) rest) Q E ⟨h, g, d, t, os⟩ := by
  have f1 := tc_lookup
  have f2 := tc_bind (.ref C)
  have hT : (⟨h, g, d, t, os⟩ : Shared).TypeIs (.ref C) "type" := ⟨_, hC, rfl⟩
  refine wpAny_call (codeAny_of_tree ?_)
  show wpAny _ _ (callAny (.ref C) _) _ _ _
  repeat (any_goals (first | assumption | with_reducible refine wpAny_loadPart_at hC ?_ | wp_step))
  exact ⟨rfl, codeAny_call_builtin_at (Code.quiet_builtin _ (by decide +kernel)) entry_typeCall (wpAny_check_type_call_sub hC (tcall_excI T hC hn hi hf hfc hr hq))⟩
end

section
variable {P : Program} {w : World} {H : Hp} {h h' : Heap} {a : Addr} {o : HO}
theorem ObjOk.there (x : ObjOk P w H h a o) : ∃ ob, h.get? a = some ob := by
  cases o with
  | lst xs => obtain ⟨_, _, _, _, e⟩ := x; exact ⟨_, e⟩
  | tup xs => obtain ⟨_, _, _, ob, e, _⟩ := x; exact ⟨_, e⟩
  | dK kvs => obtain ⟨_, _, _, _, o, _, _, e, _⟩ := x; exact ⟨_, e⟩
  | dT kvs => obtain ⟨_, _, _, _, o, _, _, e, _⟩ := x; exact ⟨_, e⟩
  | set S n => obtain ⟨o, _, _, _, e, _⟩ := x; exact ⟨_, e⟩
  | ins C dx fs => obtain ⟨_, _, _, e, _⟩ := x; exact ⟨_, e⟩
  | own y => obtain ⟨_, e⟩ := x; exact ⟨_, e⟩
  | xd fs => obtain ⟨_, ⟨_, _, _, e, _⟩, _⟩ := x; exact ⟨_, e⟩
  | rng lo hi => obtain ⟨_, _, _, e⟩ := x; exact ⟨_, e⟩
  | frz ob u => obtain ⟨e, _⟩ := x; exact ⟨_, e⟩
  | tbl ps => exact ⟨_, (show h.get? a = some _ from x)⟩
  | met f y => exact ⟨_, (show h.get? a = some _ from x)⟩
  | ext φ => obtain ⟨_, e, _⟩ := x; exact e
theorem HOk.clear (x : HOk P w H h) (e : h.get? a = none) : H a = none := by
  cases q : H a with
  | none => rfl
  | some o => obtain ⟨ob, z⟩ := (x a o q).there; rw [e] at z; cases z
end
section
variable {X : Cx} {pins : List (Addr × Obj)} {σ : St} {H : Hp} {s : Shared} {h' : Heap}
/-- a new object laid at a place where none was -/
theorem Inv.laidN {a : Addr} {o : HO} {t' : Nat} (I : Inv X pins σ H s) (k : ∀ b u, s.heap.get? b = some u → h'.get? b = some u) (hp : s.heap.get? a = none) (new : ObjOk X.prog X.w (upd H a o) h' a o) :
    Inv X pins σ (upd H a o) { s with heap := h', toks := t' } := by
  have hn := I.hok.clear hp
  have ne : ∀ b u, H b = some u → b ≠ a := fun b u q z => by rw [z, hn] at q; cases q
  refine I.un ⟨fun b o q _ _ _ => k b o q, fun b o q _ _ _ => ⟨o.slots, k b o q⟩, fun b o q n _ => ?_, fun b o q _ => ⟨o, k b o q⟩, fun b xs q => ?_, fun b o u q => ?_, fun b ps q => ⟨#[], ?_⟩⟩ fun b u q => ?_
  · rw [upd_ne (fun z => by rw [z, hp] at q; cases q)]; exact n
  · rw [upd_ne (ne _ _ q)]; exact q
  · rw [upd_ne (ne _ _ q)]; exact q
  · rw [upd_ne (ne _ _ q), q]; simp
  · by_cases hb : b = a
    · subst hb; rw [upd_same] at q; cases q; exact new
    · rw [upd_ne hb] at q
      exact (I.hok b u q).stay (fun c v _ z => k c v z) (fun c z => by rw [upd_ne (ne _ _ z)]; exact z) fun c xs z => by rw [upd_ne (ne _ _ z)]; exact z
end
end L2

end
section
set_option Elab.async false
set_option linter.all false
set_option maxRecDepth 100000
namespace L2
open PySem PySem.Spec PyProof.Rows

section
variable {prog : Program} {w : World} {A : Around} {E : Value → Shared → Prop} {s : Shared} {K : PySem.W.Frag} {x D : Addr} {ox : Obj} {odo : Option Obj}
/-- x.__class__ of an exception -/
theorem exc_class {Q : Option Value → Shared → Prop} (c : XCls K D) (X : K.In s.heap) (I : PySem.W.InstAt s.heap x ox D odo) (h : Q (some (.ref D)) { s with toks := s.toks + 1 }) : wpAny (model prog w) A (getAttr? (.ref x) "__class__") Q E s := by
  have hf : PySem.W.findObj K D odo "__class__" = some (.bind (.builtin "getset_descriptor.__get__") (.builtin "object.__class__")) := by
    obtain ⟨cd, hc, _⟩ := PySem.W.any_some c.hd
    unfold PySem.W.findObj
    rw [hc, Option.bind_some, c.cl, Option.bind_some]
    simp [c.cg, c.ct]
  have L0 := I.type (M := model prog w)
  have L1 := PySem.W.looks_findIn (M := model prog w) X c.ga
  have L2 := PySem.W.looks_findIn (M := model prog w) X c.gt
  have L3 := PySem.W.looks_find (M := model prog w) X I hf
  have L4 := val_inst (s := s) (M := model prog w) (T := "BaseException") (by decide) X I c.ov
  have FB := PySem.F.attrBase_ValueError
  obtain ⟨hh', g, d, t, os⟩ := s
  unfold getAttr? getAttrBy? getAttrBy
  refine wpAny_bind (wpAny_mkText (wpAny_bind (wpAny_attempt (wpAny_holding (wpAny_bind (L0.at (wpAny_bind (L1.at ?_))))))))
  have hx2 : (Value.builtin "BaseException.__getattribute__" == Value.builtin "object.__getattribute__") = false := by decide +kernel
  dsimp only
  rw [hx2, Bool.and_false, if_neg (by decide)]
  unfold getAttrByItsOwn
  refine wpAny_bind (L2.at (wpAny_bind (wpAny_attempt (wpAny_holding ?_))))
  unfold callGetattribute
  rw [if_neg (by decide)]
  unfold boundAndCalled
  rw [FB.ga.bind]
  refine wpAny_bind (wpAny_pure (wpAny_call (codeAny_call_builtin FB.ga.plain PySem.F.entry_bexc_ga (PySem.W.check_slot (i := "BaseException.__getattribute__") (owner := "BaseException") (n := "__getattribute__") (self := .ref x) (rest := [.str "__class__" t]) (kw := []) (by decide +kernel) (by decide +kernel) L4 (PySem.F.args_bexc_ga _ _) ?_))))
  refine wpAny_bind (wpAny_pure (wpAny_bind (wpAny_pure (wpAny_bind (L0.at (wpAny_bind (L3.at ?_)))))))
  show wpAny _ _ (holding [.builtin "object.__class__"] (call (.builtin "getset_descriptor.__get__") [.builtin "object.__class__", .ref x, .ref D]) >>= ret) _ _ _
  refine wpAny_bind (wpAny_holding (wpAny_call (PySem.W.class_get (s := ⟨hh', g, d, t + 1, os⟩) X I c.cm (wpAny_pure ?_))))
  exact PySem.W.handed_on rfl (wpAny_pure h)

theorem kitx_exc (c : XCls K D) : PySem.W.KitX K (.ref x) (.ref D) (fun h => PySem.W.InstAt h x ox D odo) where
  ty := fun _ _ _ I => I.type
  it := fun _ _ X _ => by
    obtain ⟨cdD, hcD, _⟩ := PySem.W.any_some c.hd
    unfold PySem.W.clsIn at hcD
    split at hcD
    · rename_i c' d' cd' sl' ho
      intro A' Q' E' s' k q
      unfold isType loadHead
      exact wpAny_bind (wpAny_loadPart (k _ _ (X _ _ ho)) (wpAny_pure q))
    · cases hcD
  ne := fun h tp dd its n sl X htp => by
    obtain ⟨cdD, hcD, _⟩ := PySem.W.any_some c.hd
    refine Bool.eq_false_iff.mpr fun q => ?_
    have e : D = tp := Value.ref.inj (beq_iff_eq.mp q)
    subst e
    unfold PySem.W.clsIn at hcD
    split at hcD
    · rename_i c' d' cd' sl' ho
      have z := (X _ _ ho).symm.trans htp
      cases z
    · cases hcD
  ca := fun X I k => exc_class c X I k
end

/-- its dict is tracked -/
def XDict (H : Hp) : Option Addr → Prop
  | none => True
  | some d => ∃ fs, H d = some (.xd fs)

section
variable {X : Cx} {pins : List (Addr × Obj)} {σ : St} {H : Hp} {s : Shared} {x C : Addr} {cls : Value} {dx tb : Option Addr}
theorem Inv.inst (I : Inv X pins σ H s) (e : H x = some (hE x (.ref C) dx tb)) (d : XDict H dx) : ∃ vs odo, s.heap.get? x = some { cls := .ref C, dict := dx, data := .fields vs } ∧ PySem.W.InstAt s.heap x { cls := .ref C, dict := dx, data := .fields vs } C odo := by
  obtain ⟨vs, ho, _⟩ := I.exc e
  cases dx with
  | none => exact ⟨vs, none, ho, ho, rfl, rfl, trivial⟩
  | some d' =>
    obtain ⟨fs, ed⟩ := d
    obtain ⟨ob, q⟩ := (I.hok d' _ ed).there
    exact ⟨vs, some ob, ho, ho, rfl, rfl, q⟩

/-- a class, own or built-in, as an argument -/
def vCls : V → Option Value
  | .ref a => some (.ref a)
  | .ty n => some (.type n)
  | _ => none
/-- isinstance(e, C) of an exception -/
theorem call_isinstX : CallR X (.builtin "isinstance") (fun xs H Q => ∃ (x D : Addr) (dx tb : Option Addr) (y : V) (c : Value) (b : Bool), xs = [.ref x, y] ∧ vCls y = some c ∧ H x = some (hE x (.ref D) dx tb) ∧ XDict H dx ∧ XCls X.K D ∧ PySem.W.kitOne X.K (.ref D) c = some b ∧ Q (.bl b) H) := by
  intro pins s σ H xs us Q I r h
  obtain ⟨x, D, dx, tb, y, c, b, rfl, hy, ex, hd, xc, e, q⟩ := h
  obtain ⟨u, w', rfl, ru, rw'⟩ := vals2 r
  cases (show u = Value.ref x from ru)
  obtain rfl : w' = c := by
    cases y with
    | ref a => cases hy; exact rw'
    | ty n => cases hy; exact rw'
    | _ => cases hy
  obtain ⟨vs, odo, ho, J⟩ := I.inst ex hd
  exact PySem.W.kia_one (kitx_exc xc) I.kIn J e (fun z => nomatch z) fun tk => ⟨.bl b, H, I.tok tk, rfl, q⟩

/-- e.f of an exception -/
def tFldX (K : PySem.W.Frag) (ta : TE) (f : Str) : TE := fun σ H Q => ta σ H fun x H1 => ∃ (a C d : Addr) (tb : Option Addr) (fs : List (Str × V)) (v : V), x = .ref a ∧ H1 a = some (hE a (.ref C) (some d) tb) ∧ H1 d = some (.xd fs) ∧ XCls K C ∧ NoAttr K C f ∧ fs.lookup f = some v ∧ Q v H1
theorem qe_fldX {e : Expr} {f : Str} {pos : Pos} {ta : TE} (he : QE X e ta) (hb : attributeBase e f X.env (eval e X.env) = eval e X.env := by rfl) : QE X (.Attribute e f pos) (tFldX X.K ta f) := ⟨by
  intro pins s σ H Q I h
  refine attr_of hb (thn (he.p pins s σ H _ I h) fun u s1 ⟨x, H1, I1, rx, a, C, d, tb, fs, v, ex, ea, ed, c, n, l, q⟩ => ?_)
  subst ex
  obtain rfl : u = Value.ref a := rx
  obtain ⟨vs, ho, _⟩ := I1.exc ea
  obtain ⟨mA, hn, r⟩ := I1.hok d _ ed
  obtain ⟨u, hu, ru⟩ := RelO.some_of (v := v) (o := mA f) (by rw [← l]; exact r f)
  exact get_exc I1.kIn ho c n hn hu (handed_of ru) ⟨v, H1, I1.tok _, ru, q⟩⟩

/-- o.f = value, o an exception without a dict -/
def sFldX (K : PySem.W.Frag) (ta tv : TE) (f : Str) : TS := fun D σ H => tv σ H fun y H1 => ta σ H1 fun x H2 => ∃ (a C : Addr) (tb : Option Addr), x = .ref a ∧ H2 a = some (hE a (.ref C) none tb) ∧ XCls K C ∧ NoAttr K C f ∧
  ∀ d, H2 d = none → d ≠ a → D.nx σ (upd (upd H2 d (.xd [(f, y)])) a (hE a (.ref C) (some d) tb))
theorem qs_fldX {o value : Expr} {f : Str} {pos pos' : Pos} {ta tv : TE} (ha : QE X o ta) (hv : QE X value tv) (hs : swapsWith value (some (.Attribute o f pos')) pos.line X.env = pure false := by rfl) : QS X (.Assign [.Attribute o f pos'] value pos) (sFldX X.K ta tv f) := ⟨by
  intro pins s σ H D I h
  refine plainObj_wpAny_Assign_Attribute (thn (hv.p pins s σ H _ I h) fun u s1 ⟨y, H1, I1, ry, q⟩ => thn (ha.p pins s1 σ H1 _ I1 q) fun ov s2 ⟨x, H2, I2, rx, a, C, tb, ex, ea, c, n, q2⟩ => ?_) hs
  subst ex
  obtain rfl : ov = Value.ref a := rx
  obtain ⟨vs, ho, h1⟩ := I2.exc ea
  have na : s2.heap.objs.size ≠ a := Nat.ne_of_gt (I2.hok.lt ea)
  have hf : H2 s2.heap.objs.size = none := I2.hok.fresh (Nat.le_refl _)
  refine set_exc I2.kIn ho c n fun h' hn hx k => ⟨σ, _, ?_, q2 _ hf na⟩
  have ne : ∀ b o, H2 b = some o → b ≠ s2.heap.objs.size := fun b o e z => by rw [z, hf] at e; cases e
  have nea : ∀ b o, H2 b = some o → o ≠ hE a (.ref C) none tb → b ≠ a := fun b o e z q => by rw [q, ea] at e; cases e; exact z rfl
  refine I2.un (t' := s2.toks + 2) ⟨fun b o e z _ _ => k b o (fun q => by rw [q, ea] at z; cases z) e, fun b o e z _ _ => ⟨o.slots, k b o (fun q => by rw [q, ea] at z; cases z) e⟩, fun b o e z _ => ?_, fun b o e _ => ?_, fun b xs e => ?_, fun b o u e => ?_, fun b ps e => ⟨#[], ?_⟩⟩ fun b o e => ?_
  · rw [upd_ne (fun q => by rw [q, ea] at z; cases z), upd_ne (Nat.ne_of_lt (Heap.lt_size e))]; exact z
  · by_cases hb : b = a
    · subst hb; exact ⟨_, hx⟩
    · exact ⟨_, k b o hb e⟩
  · rw [upd_ne (nea _ _ e (fun z => nomatch z)), upd_ne (ne _ _ e)]; exact e
  · rw [upd_ne (nea _ _ e (fun z => nomatch z)), upd_ne (ne _ _ e)]; exact e
  · rw [upd_ne (nea _ _ e (fun z => nomatch z)), upd_ne (ne _ _ e), e]; simp
  · by_cases hb : b = a
    · subst hb; rw [upd_same] at e; cases e
      exact hE_ok ⟨vs, hx, h1⟩
    · rw [upd_ne hb] at e
      by_cases hd : b = s2.heap.objs.size
      · subst hd; rw [upd_same] at e; cases e
        refine ⟨_, hn, fun g => ?_⟩
        by_cases hg : g = f
        · subst hg
          simp only [List.lookup, beq_self_eq_true, if_true]
          exact ry
        · have hb' : (g == f) = false := beq_eq_false_iff_ne.mpr hg
          simp only [List.lookup, hb', if_neg hg]
          trivial
      · rw [upd_ne hd] at e
        refine (I2.hok b o e).stay (fun c' u hc e' => k c' u (fun q => ?_) e') (fun c' z => by rw [upd_ne (nea _ _ z (fun z => nomatch z)), upd_ne (ne _ _ z)]; exact z) fun c' xs z => by rw [upd_ne (nea _ _ z (fun z => nomatch z)), upd_ne (ne _ _ z)]; exact z
        rcases hc with hc | hc
        · exact hb (hc.symm.trans q)
        · rw [q, ea] at hc; cases hc⟩
end
end L2

end
section
set_option Elab.async false
set_option linter.all false
set_option maxRecDepth 100000
namespace L2
open PySem PySem.Spec PyProof.Rows

/-! ### making an exception -/
section
variable {X : Cx} {pins : List (Addr × Obj)} {σ : St} {H : Hp} {s : Shared} {Q : VK} {C f : Addr} {fd : FuncData} {ps : List Str} {sp : Sp} {k : Nat} {us : List Value} {vs : List V}
theorem run_exc0 (q : excXIn X.K C none = true) (I : Inv X pins σ H s) (h : ∀ x, H x = none → Q (.ref x) (upd H x (hE x (.ref C) none none))) : wpAny (model X.prog X.w) X.A (call (.ref C) []) (EP X pins σ Q) X.xe s := by
  obtain ⟨bm, N, nm, qn, bs, hd, sn, sub, ab, col, dd, k0, k1, k2, k3, k5, mN, hC, hN, hi, T⟩ := excX_of I.kIn q
  obtain ⟨hp, g, d, t, os⟩ := s
  refine wpAny_call_exc_subU PySem.F.excBase_ValueError (by decide) PySem.F.excBase_ValueError T hC hN hi fun h' e mk => ?_
  obtain ⟨t', ht, _⟩ := mk.there
  exact ⟨.ref e, _, I.laidN (t' := t) mk.keeps mk.new (hE_ok ⟨_, ht, rfl⟩), rfl, h e (I.hok.clear mk.new)⟩

theorem run_excI (q : excXIn X.K C (some (.ref f)) = true) (hf : PySem.W.isFn X.K (.ref f) = true) (F : FnOk X.prog X.w X.K X.mg X.base CX0 k f fd ps sp) (hr : Room (k + 1) X.A) (hb : Binds X.K fd ps []) (I : Inv X pins σ H s) (r : Vals vs us) (hl : us.length ≤ sizeLine)
    (h : ∀ x, H x = none → sp (.ref x :: vs) (upd H x (hE x (.ref C) none none)) (fun v H2 => v = .non ∧ Q (.ref x) H2) E0) : wpAny (model X.prog X.w) X.A (call (.ref C) us) (EP X pins σ Q) X.xe s := by
  obtain ⟨bm, N, nm, qn, bs, hd, sn, sub, ab, col, dd, k0, k1, k2, k3, k5, mN, hC, hN, hi, T⟩ := excX_of I.kIn q
  obtain ⟨oI, hoI, hoc⟩ : ∃ oI, s.heap.get? f = some oI ∧ oI.cls = .type "function" := by
    have e : (X.K.lookup f).map (·.cls) = some (.type "function") := beq_iff_eq.mp hf
    obtain ⟨o, a, b⟩ := Option.map_eq_some_iff.mp e
    exact ⟨o, I.kIn _ _ a, b⟩
  obtain ⟨hp, g, d, t, os⟩ := s
  refine call_excI T hC hN hi hoI hoc hl fun h' e mk => ?_
  obtain ⟨t', ht, _⟩ := mk.there
  have I2 : Inv X pins σ (upd H e (hE e (.ref C) none none)) ⟨h', g, d, t, os⟩ := I.laidN (t' := t) mk.keeps mk.new (hE_ok ⟨_, ht, rfl⟩)
  have hq := h e (I.hok.clear mk.new)
  have r2 : Vals (V.ref e :: vs) (Value.ref e :: us) := .cons rfl r
  have hl2 : (Value.ref e :: us ++ []).length = ps.length := by rw [List.append_nil, ← r2.length]; exact F.len _ _ _ _ hq
  have bd := hb ⟨h', g, d, t, os⟩ (Value.ref e :: us) I2.kIn hl2
  rw [List.append_nil] at bd
  refine wpAny_call (codeAny_mono (F.run _ X.stack _ _ ⟨Value.ref e :: us, []⟩ (Value.ref e :: us) _ _ E0 (hr.make C us []) (I2.env0.make C us []) bd r2 hq) fun r s' hq' => ?_)
  cases r with
  | error e => exact False.elim hq'
  | ok fl =>
    cases fl with
    | ret u =>
      obtain ⟨v, H', I3, rv, ev, q3⟩ := I2.after hq'
      subst ev
      exact ⟨rv, ⟨V.ref e, H', I3, rfl, q3⟩⟩
    | next => exact False.elim hq'
    | brk => exact False.elim hq'
    | cont => exact False.elim hq'

/-- C(), C an own class of exceptions without __init__ -/
def tExc0 (C : Addr) : TE := fun σ H Q => ∀ x, H x = none → Q (.ref x) (upd H x (hE x (.ref C) none none))
theorem qe_exc0 {x : Str} {p pos : Pos} (q : excXIn X.K C none = true) (kp : PySem.W.keepIn X.K (.ref C) = true) (hm : X.mg x = some (.ref C)) (hg : Gl X x := by rfl) (hdb : (x == ("__debug__" : Str)) = false := by decide) : QE X (.Call (.Name x p) [] [] pos) (tExc0 C) := ⟨by
  intro pins s σ H Q I h
  refine wpAny_Call_Name_kw (ld_glob I hg hm ?_ hdb)
  exact PySem.W.callWith_K0 I.kIn kp (run_exc0 q I h)⟩
/-- C(e, ..), with its __init__ -/
def tExcI (C : Addr) (sp : Sp) (t : TA) : TE := fun σ H Q => t σ H fun vs H1 => vs.length ≤ 1000 ∧ ∀ x, H1 x = none → sp (.ref x :: vs) (upd H1 x (hE x (.ref C) none none)) (fun v H2 => v = .non ∧ Q (.ref x) H2) E0
theorem qe_excI {x : Str} {p pos : Pos} {e : Expr} {es : List Expr} {t : TA} (q : excXIn X.K C (some (.ref f)) = true) (hf : PySem.W.isFn X.K (.ref f) = true) (F : FnOk X.prog X.w X.K X.mg X.base CX0 k f fd ps sp) (hr : Room (k + 1) X.A) (hb : Binds X.K fd ps [])
    (kp : PySem.W.keepIn X.K (.ref C) = true) (hm : X.mg x = some (.ref C)) (ha : QA X (e :: es) t) (hg : Gl X x := by rfl) (hdb : (x == ("__debug__" : Str)) = false := by decide)
    (he : starEach (e :: es) X.env = (false, eval e X.env) :: starEach es X.env := by rfl) (hpl : (backTo pos (starEach es X.env)).any (·.1) = false := by rfl) : QE X (.Call (.Name x p) (e :: es) [] pos) (tExcI C sp t) := ⟨by
  intro pins s σ H Q I h
  refine wpAny_Call_Name_kw (ld_glob I hg hm ?_ hdb)
  refine PySem.W.callWith_K (h₀ := X.base) I.ok.mod.kin kp (thn (ha.p pos pins s σ H _ I h) fun us s1 ⟨vs, H1, I1, r, l, q1⟩ => ⟨I1.kIn, ?_⟩) he hpl
  refine run_excI q hf F hr hb I1 r ?_ q1
  show us.length ≤ sizeLine
  rw [← r.length]
  exact Nat.le_of_lt (small1000 l)⟩
end

/-! ### raise -/
/-- what is wanted of an exception that this code raises -/
def XRaises (X : Cx) (E : XK) : Prop := ∀ (pins : List (Addr × Obj)) (σ : St) (H : Hp) (s : Shared) (x C : Addr) (dx tb : Option Addr), Inv X pins σ H s → Fly H x (.ref C) dx tb → (∀ T H', Flown H H' x (.ref C) dx T → E (.ref C) dx H') → X.xe (.ref x) s
section
variable {X : Cx} {E : XK}
theorem raise_ok {M : Model} {K : PySem.W.Frag} {A : Around} {E : Value → Shared → Prop} {s : Shared} {env : Env} {e : Sem Value} {Q : Flow → Shared → Prop} (hh : A.handled = none)
    (h : wpAny M A e (fun v s₁ => ∃ (x C : Addr) (dx : Option Addr) (vs : Array Value), v = .ref x ∧ K.In s₁.heap ∧ XCls K C ∧ s₁.heap.get? x = some { cls := .ref C, dict := dx, data := .fields vs } ∧ vs[1]? = some .none ∧ E (.ref x) s₁) E s) : wpAny M A (raiseStmt env (some e) none) Q E s := by
  unfold raiseStmt
  refine wpAny_bind (wpAny_mono h (fun v s₁ h₁ => ?_) fun _ _ z => z)
  obtain ⟨x, C, dx, vs, rfl, KX, c, ho, h1, hE'⟩ := h₁
  have LT : PySem.W.Looks M s₁.heap (typeOf (.ref x)) (.ref C) := (PySem.W.Looks.ld ho).andThen .now
  have L1 : PySem.W.Looks M s₁.heap (isType (.ref x)) false := by
    intro A' Q' E' s' k q
    unfold isType loadHead
    exact wpAny_bind (wpAny_loadPart (k _ _ ho) (wpAny_pure q))
  have L2 : PySem.W.Looks M s₁.heap (isInstance (.ref x) (.type "BaseException")) true := by
    obtain ⟨cd, hc, ho'⟩ := PySem.W.any_some c.ov
    have ne : cd.mro.isEmpty = false := by cases q : cd.mro with | nil => rw [q] at ho'; cases ho' | cons _ _ => rfl
    exact LT.andThen (PySem.W.looks_mroIn KX (by unfold PySem.W.mroIn; rw [hc, Option.bind_some, if_neg (by rw [ne]; decide), val_has (by decide) ho']))
  have L3 := PySem.W.looks_typeIn (M := M) KX c.ty
  refine wpAny_bind (wpAny_pure (wpAny_bind (wpAny_holding ?_)))
  unfold excFromValue isExcClass
  refine wpAny_bind (wpAny_bind (L1.here ?_))
  rw [if_neg (by decide)]
  refine wpAny_pure ?_
  rw [if_neg (by decide)]
  refine wpAny_bind (L2.here ?_)
  rw [if_pos rfl]
  refine wpAny_pure ?_
  dsimp only
  refine wpAny_bind (L1.here ?_)
  rw [if_neg (by decide)]
  unfold raisedInstance
  refine wpAny_bind (wpAny_bind (LT.here (wpAny_bind (L3.here ?_))))
  rw [if_pos (by decide)]
  refine wpAny_pure ?_
  unfold setFlight
  refine wpAny_bind (wpAny_bind (wpAny_field ho rfl h1 ?_))
  rw [if_neg (by decide)]
  refine wpAny_pure ?_
  exact wpAny_raiseNew_none hh hE'

/-- raise e -/
def tRaise (K : PySem.W.Frag) (te : TE) (E : XK) : TS := fun D σ H => te σ H fun v H1 => ∃ (x C : Addr) (dx : Option Addr), v = .ref x ∧ H1 x = some (hE x (.ref C) dx none) ∧ XCls K C ∧ ∀ T H', Flown H1 H' x (.ref C) dx T → E (.ref C) dx H'
theorem qs_raise {e : Expr} {te : TE} {pos : Pos} (hx : XRaises X E) (hc : X.calm = true) (he : QE X e te) : QS X (.Raise (some e) none pos) (tRaise X.K te E) := ⟨by
  intro pins s σ H D I h
  rw [arm_exec_Raise]
  refine wpAny_bind (wpAny_standAt (raise_ok (K := X.K) (I.ok.hd hc) ?_))
  refine wpAny_bind (thn (he.p pins s σ H _ I h) fun u s1 ⟨v, H1, I1, rv, x, C, dx, ev, ex, c, q⟩ => wpAny_bind (wpAny_standAt (wpAny_pure ?_)))
  subst ev
  obtain rfl : u = Value.ref x := rv
  obtain ⟨vs, ho, h1⟩ := I1.exc ex
  exact ⟨x, C, dx, vs, rfl, I1.kIn, c, ho, h1, hx pins σ H1 s1 x C dx none I1 ⟨ex, fun T z => nomatch z⟩ q⟩⟩
end

/-! ### how an exception lies behind a call -/
def CXD (P : Program) (w : World) : CXT := fun outer H s E e s' => ∃ (x C : Addr) (dx : Option Addr) (T : Addr) (H' : Hp), e = .ref x ∧ s'.os = s.os ∧ AllBare s'.gens ∧ Un (frs outer) [] H H' s.heap s'.heap ∧ HOk P w H' s'.heap ∧
  Fly H' x (.ref C) dx (some T) ∧ E (.ref C) dx H'
section
variable {P : Program} {w : World} {K : PySem.W.Frag} {mg : Str → Option Value} {base : Heap} {N : List Str} {qual : Str} {scope : Scope} {f : Addr} {cd : Value} {A : Around} {outer : List Env} {s : Shared} {H : Hp} {E : XK}
theorem raises_cx : XRaises (cxOf (CXD P w) P w K mg base N qual scope f cd A outer s H E) E := fun pins σ H1 s1 x C dx tb I fl q => by
  show wpAny _ _ (leaving _ _) _ _ _
  refine leave_ok I rfl rfl rfl fl fun s2 T H2 fn I2 => ⟨x, C, dx, T, H2, rfl, I2.os, I2.bare, I2.base, I2.hok, fn.fly, q T H2 fn⟩
/-- a def out of which exceptions may come -/
theorem Fun.okX {CX : CXT} {x : Str} {st : Stmt} {fd : FuncData} {ps : List Str} {k : Nat} {sp : Sp} (F : Fun K x qual st f fd) (S : FnScope N ps (defScope st)) (len : ∀ vs H Q E, sp vs H Q E → vs.length = ps.length)
    (hbody : ∀ (cdv : Value) (A : Around) (outer : List Env) (s : Shared) (H : Hp) (vs : List V) (Q : VK) (E : XK), Room k (A.deeper (envOfC qual (defScope st) s.heap.objs.size f cdv)) → sp vs H Q E →
      ∃ t, PSs (cxOf CX P w K mg base N qual (defScope st) f cdv A outer s H E) (defBody st) t ∧ t { nx := fun _ H' => Q .non H', rt := Q } (start N vs) H) : FnOk P w K mg base CX (k + 1) f fd ps sp := by
  obtain ⟨oc, od, kV, doc, pm, an, cdv, ct, osl, rfl, lk, hcd⟩ := F.ex
  exact fn_of lk hcd S len fun A outer s H vs Q E hr hsp => hbody cdv A outer s H vs Q E hr hsp
end
end L2

end
section
set_option Elab.async false
set_option linter.all false
set_option maxRecDepth 100000
namespace L2
open PySem PySem.Spec PyProof.Rows

/-! ### within an except suite -/
abbrev Cx.held (X : Cx) (e : Value) : Cx := { X with A := X.A.mark (some e), calm := false, xe := fun _ _ => False }
theorem Cx.Ok.held {X : Cx} (ok : X.Ok) (e : Value) : (X.held e).Ok :=
  ⟨ok.mod, ok.kind, ok.glob, ok.blt, ok.above, ok.inj, ok.has, ok.cab, (fun z => by cases z), ok.frames, ok.stk, ok.exf, ok.bs, ok.bsz, ok.noex, ok.exfs, ok.funs, ok.frf⟩
section
variable {X : Cx} {pins : List (Addr × Obj)} {σ : St} {H : Hp} {s : Shared} {e : Value}
theorem Inv.held (I : Inv X pins σ H s) (e : Value) : Inv (X.held e) pins σ H s := ⟨I.ok.held e, I.os, I.bare, I.base, I.loc, I.cell, I.free, I.freeC, I.pin, I.hok, I.len⟩
theorem Inv.unheld (ok : X.Ok) (I : Inv (X.held e) pins σ H s) : Inv X pins σ H s := ⟨ok, I.os, I.bare, I.base, I.loc, I.cell, I.free, I.freeC, I.pin, I.hok, I.len⟩

/-- del n -/
theorem Inv.unbound {h' : Heap} {i : Nat} {n : Str} {m : Str → Option Value} {u : Option Value} {t' : Nat} (I : Inv X pins σ H s) (hN : X.N.Nodup) (hi : X.N[i]? = some n)
    (hl : ∀ (i : Nat) (x : Str) (v : V), X.N[i]? = some x → σ[i]? = some (some v) → Vis X.env.scope x → ∃ u, RelV v u ∧ Look X.env s.heap m x u) (hn : h'.Ns X.env.locals (fun x => if x = n then u else m x)) (hs : Heap.SameBut X.env.locals s.heap h') :
    Inv X pins (σ.set i none) H { s with heap := h', toks := t' } := by
  have nb : ∀ b o, X.s₀.heap.get? b = some o → b ≠ X.env.locals := fun b o e => Nat.ne_of_lt (Nat.lt_of_lt_of_le (Heap.lt_size e) I.ok.above)
  have nH : ∀ b o, H b = some o → b ≠ X.env.locals := fun b o e z => by rw [z, I.free] at e; cases e
  have cK : ∀ x c, X.env.cells.lookup x = some c → ∀ v, s.heap.IsCell c v → h'.IsCell c v := fun x c e v ⟨o, ho, hd⟩ => ⟨o, (hs.2 c (I.cne x c e)).trans ho, hd⟩
  refine ⟨I.ok, I.os, I.bare, ⟨fun b o e n hb hx => (hs.2 b (nb b o e)).trans (I.base.keep b o e n hb hx), fun b o e n hb hx => ?_, I.base.free, fun b o e hx => ?_, I.base.tups, I.base.frzs, I.base.tbls⟩, ⟨_, hn, fun j y v e1 e2 e3 => ?_⟩, fun x c e => ?_, I.free, I.freeC, fun p hp => ?_, fun b o e => ?_, by simpa using I.len⟩
  · obtain ⟨sl, e1⟩ := I.base.slot b o e n hb hx
    exact ⟨sl, (hs.2 b (nb b o e)).trans e1⟩
  · obtain ⟨o', e1⟩ := I.base.there b o e hx
    exact ⟨o', (hs.2 b (nb b o e)).trans e1⟩
  · have hj : i ≠ j := fun z => by
      subst z
      rw [List.getElem?_set] at e2
      simp only [if_true] at e2
      split at e2 <;> cases e2
    rw [List.getElem?_set_ne hj] at e2
    obtain ⟨u', r, lk⟩ := hl j y v e1 e2 e3
    refine ⟨u', r, ?_⟩
    rcases lk with ⟨k1, k2⟩ | ⟨k1, c, k2, k3⟩
    · refine .inl ⟨k1, ?_⟩
      have ny : y ≠ n := fun z => hj (nodup_ix hN hi (by rw [← z]; exact e1))
      show (if y = n then u else m y) = some u'
      rw [if_neg ny]
      exact k2
    · exact .inr ⟨k1, c, k2, cK y c k2 _ k3⟩
  · obtain ⟨v, q⟩ := I.cell x c e
    exact ⟨v, cK x c e v q⟩
  · obtain ⟨a1, a2, a3, a4⟩ := I.pin p hp
    exact ⟨(hs.2 p.1 a3).trans a1, a2, a3, a4⟩
  · refine (I.hok b o e).stay (fun c u hc q => (hs.2 c ?_).trans q) (fun _ q => q) fun _ _ q => q
    rcases hc with rfl | hc
    · exact nH _ _ e
    · exact nH _ _ hc

theorem unbind_ok {A : Around} {E : Value → Shared → Prop} {M : Model} {i : Nat} {n : Str} {pos : Pos} {Q : Unit → Shared → Prop} (I : Inv X pins σ H s) (hN : X.N.Nodup) (hi : X.N[i]? = some n) (hk : X.env.kindOf n = some .local)
    (h : ∀ s', Inv X pins (σ.set i none) H s' → Q () s') : wpAny M A (do bindName X.env n .none; unbindBehindTheSuite X.env n pos) Q E s := by
  refine wpAny_bind (wpAny_bindName (store_ok I hN hi (.inl hk) (v := .non) rfl (fun s1 I1 => ?_) (.inr hk)))
  have hiσ : i < σ.length := by rw [I.len]; exact (List.getElem?_eq_some_iff.mp hi).1
  obtain ⟨m, hn, hl⟩ := id I1.loc
  obtain ⟨u, ru, lk⟩ := hl i n .non hi (by rw [List.getElem?_set_self hiσ]) (.inl hk)
  have hm : m n = some u := by
    rcases lk with ⟨_, q⟩ | ⟨q, _⟩
    · exact q
    · rw [hk] at q; rcases q with q | q <;> cases q
  unfold unbindBehindTheSuite
  refine wpAny_onRaise (wpAny_unbindName_local hk hn hm (by rw [I.ok.kind]; rfl) fun h' u' hn' hs => h _ ?_)
  have J := Inv.unbound (t' := s1.toks) I1 hN hi hl hn' hs
  rw [List.set_set] at J
  exact J
end

/-! ### except clauses -/
abbrev TH := Addr → Addr → Option Addr → TS
def PH (X : Cx) (hs : List ExceptHandler) (t : TH) : Prop :=
  ∀ (pins : List (Addr × Obj)) (s : Shared) (σ : St) (H : Hp) (D : Ends) (x C : Addr) (dx : Option Addr) (T : Addr), Inv X pins σ H s → Fly H x (.ref C) dx (some T) → t x C dx D σ H → wpAny (model X.prog X.w) X.A (handleBy (.ref x) X.env hs) (SP X pins D) X.xe s
structure QH (X : Cx) (hs : List ExceptHandler) (t : TH) : Prop where
  p : PH X hs t
theorem qh_nil {X : Cx} : QH X [] (fun _ _ _ _ _ _ => False) := ⟨fun _ _ _ _ _ _ _ _ _ _ _ h => h.elim⟩
def Ends.as (D : Ends) (i : Nat) : Ends := { nx := fun σ H => D.nx (σ.set i none) H, rt := D.rt, bk := fun σ H => D.bk (σ.set i none) H, ct := fun σ H => D.ct (σ.set i none) H }
/-- except C' as n: .. -/
def tAs (K : PySem.W.Frag) (C' : Addr) (i : Nat) (ts : TS) (tr : TH) : TH := fun x C dx D σ H => ∃ b, PySem.W.exmOne K (.ref C) (.ref C') = some b ∧ if b = true then ts (D.as i) (σ.set i (some (.ref x))) H else tr x C dx D σ H
theorem qh_as {X : Cx} {c n : Str} {np pos : Pos} {C' : Addr} {i : Nat} {b₀ : Stmt} {suite : List Stmt} {rest : List ExceptHandler} {ts : TS} {tr : TH} (hm : X.mg c = some (.ref C')) (hN : X.N.Nodup) (hb : ∀ e, QB (X.held e) (b₀ :: suite) ts) (hr : QH X rest tr)
    (hi : X.N[i]? = some n := by rfl) (hk : X.env.kindOf n = some .local := by rfl) (hg : Gl X c := by rfl) (hd : (c == ("__debug__" : Str)) = false := by decide) :
    QH X (.ExceptHandler (some (.Name c np)) (some n) (b₀ :: suite) pos :: rest) (tAs X.K C' i ts tr) := ⟨by
  intro pins s σ H D x C dx T I fl h
  obtain ⟨b, eb, h⟩ := h
  obtain ⟨vs, ho, _⟩ := I.exc fl.ex
  obtain ⟨fT, nT⟩ := fl.tr T rfl
  have LT : PySem.W.Looks (model X.prog X.w) s.heap (typeOf (.ref x)) (.ref C) := (PySem.W.Looks.ld ho).andThen .now
  refine wpAny_handleBy_cons (codeAny_handlers_test (ld_glob (X := X.held (.ref x)) (I.held _) hg hm ((PySem.W.exm_one I.kIn LT eb).here ?_) hd)) (by intro q; cases q)
  cases b with
  | false => exact hr.p pins s σ H D x C dx T I fl h
  | true =>
    refine codeAny_handlers_suite_as (land_ok I fl.ex fT fun s1 I1 => ?_)
    rw [upd_id fT] at I1
    refine store_ok I1 hN hi (.inl hk) (v := .ref x) rfl (fun s2 I2 => ?_) (.inr hk)
    refine wpAny_mono ((hb (.ref x)).p pins s2 _ H (D.as i) (I2.held _) h) (fun f s3 q => ?_) fun _ _ z => False.elim z
    cases f with
    | next =>
      obtain ⟨σ', H', I3, q⟩ := q
      exact unbind_ok (I3.unheld I.ok) hN hi hk fun s4 I4 => ⟨_, H', I4, q⟩
    | brk =>
      obtain ⟨σ', H', I3, q⟩ := q
      exact unbind_ok (I3.unheld I.ok) hN hi hk fun s4 I4 => ⟨_, H', I4, q⟩
    | cont =>
      obtain ⟨σ', H', I3, q⟩ := q
      exact unbind_ok (I3.unheld I.ok) hN hi hk fun s4 I4 => ⟨_, H', I4, q⟩
    | ret u =>
      obtain ⟨v, σ', H', I3, r, q⟩ := q
      exact unbind_ok (I3.unheld I.ok) hN hi hk fun s4 I4 => ⟨v, _, H', I4, r, q⟩⟩

/-! ### the tried statement -/
abbrev EK := Addr → Addr → Option Addr → Hp → Prop
def ErrP (X : Cx) (pins : List (Addr × Obj)) (σ : St) (Ex : EK) (e : Value) (s' : Shared) : Prop := ∃ (x C : Addr) (dx : Option Addr) (T : Addr) (H' : Hp), e = .ref x ∧ Inv X pins σ H' s' ∧ Fly H' x (.ref C) dx (some T) ∧ Ex x C dx H'
abbrev TXE := St → Hp → VK → EK → Prop
structure QXE (X : Cx) (e : Expr) (t : TXE) : Prop where
  p : ∀ (pins : List (Addr × Obj)) (s : Shared) (σ : St) (H : Hp) (Q : VK) (Ex : EK), Inv X pins σ H s → t σ H Q Ex → wpAny (model X.prog X.w) X.A (eval e X.env) (EP X pins σ Q) (ErrP X pins σ Ex) s
abbrev TX := Ends → EK → St → Hp → Prop
structure QX (X : Cx) (st : Stmt) (t : TX) : Prop where
  p : ∀ (pins : List (Addr × Obj)) (s : Shared) (σ : St) (H : Hp) (D : Ends) (Ex : EK), Inv X pins σ H s → t D Ex σ H → wpAny (model X.prog X.w) X.A (exec st X.env) (SP X pins D) (ErrP X pins σ Ex) s

section
variable {X : Cx}
def tXCall (sp : Sp) (t : TA) : TXE := fun σ H Q Ex => t σ H fun vs H1 => sp vs H1 Q (fun cls dx H' => ∃ C, cls = .ref C ∧ ∀ x T, Fly H' x (.ref C) dx (some T) → Ex x C dx H')
theorem qxe_call {k : Nat} {f : Addr} {fd : FuncData} {ps : List Str} {sp : Sp} {x : Str} {p pos : Pos} {e : Expr} {es : List Expr} {t : TA} (F : FnOk X.prog X.w X.K X.mg X.base (CXD X.prog X.w) k f fd ps sp) (hr : Room k X.A) (hm : X.mg x = some (.ref f))
    (hk : PySem.W.keepIn X.K (.ref f) = true) (hb : Binds X.K fd ps []) (ha : QA X.nox (e :: es) t) (hg : Gl X x := by rfl) (hdb : (x == ("__debug__" : Str)) = false := by decide)
    (he : starEach (e :: es) X.env = (false, eval e X.env) :: starEach es X.env := by rfl) (hpl : (backTo pos (starEach es X.env)).any (·.1) = false := by rfl) : QXE X (.Call (.Name x p) (e :: es) [] pos) (tXCall sp t) := ⟨by
  intro pins s σ H Q Ex I h
  refine wpAny_Call_Name_kw (ld_glob I hg hm ?_ hdb)
  refine PySem.W.callWith_K (h₀ := X.base) I.ok.mod.kin hk (wpAny_mono (ha.p pos pins s σ H _ (I.wish _) h) (fun us s1 ⟨vs, H1, I1, r, q⟩ => ?_) fun _ _ z => False.elim z) he hpl
  have I1' : Inv X pins σ H1 s1 := I1.unwish
  refine ⟨I1'.kIn, ?_⟩
  have hl : (us ++ []).length = ps.length := by rw [List.append_nil, ← r.length]; exact F.len _ _ _ _ q
  have bd := hb s1 us I1'.kIn hl
  rw [List.append_nil] at bd
  refine wpAny_call (codeAny_mono (F.run X.A X.stack s1 H1 ⟨us, []⟩ us vs Q _ hr I1'.env0 bd r q) fun r s' hq => ?_)
  cases r with
  | error e =>
    obtain ⟨x, C, dx, T, H2, rfl, os, bare, un, hok, fl, C', eC, z⟩ := hq
    cases eC
    exact ⟨x, C, dx, T, H2, rfl, I1'.call' os un hok bare (fun _ z => nomatch z), fl, z x T fl⟩
  | ok fl =>
    cases fl with
    | ret u => exact I1'.after hq
    | next => exact False.elim hq
    | brk => exact False.elim hq
    | cont => exact False.elim hq⟩
theorem qx_expr {e : Expr} {te : TXE} {pos : Pos} (he : QXE X e te) (hs : swapsWith e none pos.line X.env = pure false := by rfl) : QX X (.Expr e pos) (fun D Ex σ H => te σ H (fun _ H1 => D.nx σ H1) Ex) := ⟨by
  intro pins s σ H D Ex I h
  exact wpAny_Expr_any (thn (he.p pins s σ H _ Ex I h) fun v s1 ⟨x, H1, I1, r1, q1⟩ => ⟨σ, H1, I1, q1⟩) I.quiet hs⟩

/-- try: one statement; except .. -/
def tTry (tb : TX) (th : TH) : TS := fun D σ H => tb D (fun x C dx H' => ∀ T H'', Flown H' H'' x (.ref C) dx T → th x C dx D σ H'') σ H
theorem qs_try {st : Stmt} {tb : TX} {h₀ : ExceptHandler} {hs : List ExceptHandler} {th : TH} {pos : Pos} (hst : X.stack = X.env :: X.outer) (hf : X.env.frame = some X.env.locals) (hb : QX X st tb) (hh : QH X (h₀ :: hs) th) : QS X (.Try [st] (h₀ :: hs) [] [] pos) (tTry tb th) := ⟨by
  intro pins s σ H D I h
  refine wpAny_Try_except (wpAny_execs_cons (wpAny_mono (hb.p pins s σ H D _ I h) (fun f s1 q => ?_) fun e s1 q => ?_))
  · cases f with
    | next => exact wpAny_execs_nil (wpAny_execs_nil q)
    | ret v => exact q
    | brk => exact q
    | cont => exact q
  · obtain ⟨x, C, dx, T, H1, rfl, I1, fl, z⟩ := q
    refine note_ok I1 hst hf rfl fl fun s2 T2 hn ne I2 => ?_
    refine land_ok I2 upd_same (by rw [upd_ne ne, upd_same]) fun s3 I3 => ?_
    have fn : Flown H1 (upd (upd (upd H1 T2 (hT T2 (rawInt X.env.locals))) x (hE x (.ref C) dx (some T2))) T2 (hT T2 .none)) x (.ref C) dx T2 :=
      ⟨by rw [upd_ne (Ne.symm ne), upd_same], upd_same, ne, hn, fun b b1 b2 => by rw [upd_ne b2, upd_ne b1, upd_ne b2]⟩
    exact hh.p pins s3 σ _ D x C dx T2 I3 fn.fly (z T2 _ fn)⟩
end
/-! ### a def of which exceptions may come, by its name -/
structure CalleeX (P : Program) (w : World) (K : PySem.W.Frag) (mg : Str → Option Value) (base : Heap) (x : Str) (ps : List Str) (k : Nat) (sp : Sp) : Prop where
  ex : ∃ (f : Addr) (fd : FuncData), FnOk P w K mg base (CXD P w) k f fd ps sp ∧ mg x = some (.ref f) ∧ PySem.W.keepIn K (.ref f) = true ∧ Binds K fd ps []
theorem qxe_callee {X : Cx} {k : Nat} {ps : List Str} {sp : Sp} {x : Str} {p pos : Pos} {e : Expr} {es : List Expr} {t : TA} (C : CalleeX X.prog X.w X.K X.mg X.base x ps k sp) (hr : Room k X.A) (hg : Gl X x) (ha : QA X.nox (e :: es) t) (hdb : (x == ("__debug__" : Str)) = false := by decide)
    (he : starEach (e :: es) X.env = (false, eval e X.env) :: starEach es X.env := by rfl) (hpl : (backTo pos (starEach es X.env)).any (·.1) = false := by rfl) : QXE X (.Call (.Name x p) (e :: es) [] pos) (tXCall sp t) := by
  obtain ⟨f, fd, F, hm, hk, hb⟩ := C.ex
  exact qxe_call F hr hm hk hb ha hg hdb he hpl

/-! ### readings of raise -/
theorem Flown.same_of {H H1 H' : Hp} {x : Addr} {cls : Value} {dx : Option Addr} {T : Addr} (f : Flown H1 H' x cls dx T) (hx : H x = none) (h : ∀ b o, H b = some o → b ≠ x → H1 b = some o) : Same H H' := fun b o e => by
  have nx : b ≠ x := ne_of_none e hx
  have e1 := h b o e nx
  rw [f.same b nx (ne_of_none e1 f.new)]
  exact e1
theorem Flown.keep {H H' : Hp} {x : Addr} {cls : Value} {dx : Option Addr} {T b : Addr} {o : HO} (f : Flown H H' x cls dx T) (e : H b = some o) (nx : b ≠ x) : H' b = some o := by
  rw [f.same b nx (ne_of_none e f.new)]; exact e
theorem raise0 {K : PySem.W.Frag} {E : XK} {D : Ends} {σ : St} {H : Hp} {C : Addr} (xc : XCls K C) (k : ∀ H', Same H H' → E (.ref C) none H') : tRaise K (tExc0 C) E D σ H := fun x hx =>
  ⟨x, C, none, rfl, upd_same, xc, fun T H' fn => k H' (fn.same_of hx fun b o e nx => by rw [upd_ne nx]; exact e)⟩
/-- self.fld = value, in the class's __init__ -/
def spInit (K : PySem.W.Frag) (fld : Str) : Sp := fun vs H Q _ => ∃ (x C : Addr) (v : V) (tb : Option Addr), vs = [.ref x, v] ∧ H x = some (hE x (.ref C) none tb) ∧ XCls K C ∧ NoAttr K C fld ∧
  ∀ d, H d = none → d ≠ x → Q .non (upd (upd H d (.xd [(fld, v)])) x (hE x (.ref C) (some d) tb))
theorem raiseI {K : PySem.W.Frag} {E : XK} {D : Ends} {σ : St} {H : Hp} {C : Addr} {fld : Str} {t : TA} {v : V} (xc : XCls K C) (na : NoAttr K C fld) (ht : ∀ Q : List V → Hp → Prop, Q [v] H → t σ H Q) (k : ∀ d H', H' d = some (.xd [(fld, v)]) → Same H H' → E (.ref C) (some d) H') :
    tRaise K (tExcI C (spInit K fld) t) E D σ H := by
  refine ht _ ⟨(by show 1 ≤ 1000; decide), fun x hx => ⟨x, C, v, none, rfl, upd_same, xc, na, fun d hd nd => ⟨rfl, x, C, some d, rfl, upd_same, xc, fun T H' fn => ?_⟩⟩⟩
  have e1 : (upd (upd (upd H x (hE x (.ref C) none none)) d (.xd [(fld, v)])) x (hE x (.ref C) (some d) none)) d = some (.xd [(fld, v)]) := by rw [upd_ne nd, upd_same]
  refine k d H' (fn.keep e1 nd) (fn.same_of hx fun b o e nx => ?_)
  have eb : (upd H x (hE x (.ref C) none none)) b = some o := by rw [upd_ne nx]; exact e
  rw [upd_ne nx, upd_ne (ne_of_none eb hd)]
  exact eb
/-! ### in an except suite: the text named for itself -/
section
variable {X : Cx}
theorem call_isinstXK (K : PySem.W.Frag) (hK : X.K = K) : CallR X (.builtin "isinstance") (fun xs H Q => ∃ (x D : Addr) (dx tb : Option Addr) (y : V) (c : Value) (b : Bool), xs = [.ref x, y] ∧ vCls y = some c ∧ H x = some (hE x (.ref D) dx tb) ∧ XDict H dx ∧ XCls K D ∧ PySem.W.kitOne K (.ref D) c = some b ∧ Q (.bl b) H) := by
  subst hK; exact call_isinstX
theorem qe_fldXK {e : Expr} {f : Str} {pos : Pos} {ta : TE} (K : PySem.W.Frag) (hK : X.K = K) (he : QE X e ta) (hb : attributeBase e f X.env (eval e X.env) = eval e X.env := by rfl) : QE X (.Attribute e f pos) (tFldX K ta f) := by
  subst hK; exact qe_fldX he hb
end
end L2

end
section
set_option Elab.async false
set_option linter.all false
set_option maxRecDepth 100000
set_option maxHeartbeats 8000000
namespace K19
open PySem L2 PyProof.Rows
def top (i : Nat) : Stmt := PySem.Challenge.pw_weirmark_k19_refusals_apart.main.body.getD i (.Pass ⟨0, 0, 0, 0⟩)
structure Txt (mg : Str → Option Value) : Prop where
  len : mg "len" = none
  abs : mg "abs" = none
  range : mg "range" = none
  isinstance : mg "isinstance" = none
  int : mg "int" = none
  str : mg "str" = none
  bool : mg "bool" = none
  max : mg "max" = none
  min : mg "min" = none
  ValueError : mg "ValueError" = none
/-- all but what stands at p stays -/
def But (p : Addr) (H H' : Hp) : Prop := ∀ b o, H b = some o → b ≠ p → H' b = some o
theorem But.refl (p : Addr) (H : Hp) : But p H H := fun _ _ h _ => h
theorem But.trans {p : Addr} {H H1 H2 : Hp} (a : But p H H1) (b : But p H1 H2) : But p H H2 := fun c o h n => b c o (a c o h n) n
theorem But.upd (p : Addr) (H : Hp) (o : HO) : But p H (upd H p o) := fun c u h n => by rw [upd_ne n]; exact h
theorem But.new {p D : Addr} {H : Hp} (o : HO) (h : H D = none) : But p H (L2.upd H D o) := fun c u e n => by rw [upd_ne (ne_of_none e h)]; exact e
theorem Same.new {D : Addr} {H : Hp} (o : HO) (h : H D = none) : Same H (upd H D o) := fun c u e => by rw [upd_ne (ne_of_none e h)]; exact e
/-- a hand: digits, a count, cells -/
def Hand (H : Hp) (p c : Addr) : Prop := ∃ (d n : Int) (cs : List Int), H p = some (.lst [.int d, .int n, .ref c]) ∧ H c = some (.lst (cs.map V.int)) ∧ cs ≠ []
theorem Hand.ne {H : Hp} {p c : Addr} (h : Hand H p c) : c ≠ p := by
  obtain ⟨d, n, cs, hp, hc, h0⟩ := h
  refine ne_of hc hp fun z => ?_
  have z : cs.map V.int = [.int d, .int n, .ref c] := by injection z
  match cs, z with
  | [_, _, _], z => simp at z
theorem Hand.set {H : Hp} {p c : Addr} (h : Hand H p c) (d n : Int) : Hand (upd H p (.lst [.int d, .int n, .ref c])) p c := by
  obtain ⟨_, _, cs, hp, hc, h0⟩ := id h
  exact ⟨d, n, cs, upd_same, by rw [upd_ne h.ne]; exact hc, h0⟩
theorem Hand.same {H H' : Hp} {p c : Addr} (h : Hand H p c) (k : Same H H') : Hand H' p c := by
  obtain ⟨d, n, cs, hp, hc, h0⟩ := h
  exact ⟨d, n, cs, k _ _ hp, k _ _ hc, h0⟩
theorem Hand.at {H : Hp} {p c : Addr} (h : Hand H p c) : ∃ o, H p = some o := by
  obtain ⟨d, n, cs, hp, _⟩ := h
  exact ⟨_, hp⟩
theorem Hand.new {H : Hp} {p c D : Addr} (h : Hand H p c) (o : HO) (e : H D = none) : Hand (upd H D o) p c := h.same (Same.new o e)
theorem Hand.nef {H : Hp} {p c D : Addr} (h : Hand H p c) (e : H D = none) : D ≠ p := fun z => by
  obtain ⟨o, hp⟩ := h.at
  rw [z, hp] at e; cases e
def spDraw : Sp := fun vs H Q _ => ∃ (p c : Addr) (many : Int), vs = [.ref p, .int many] ∧ Hand H p c ∧ 0 < many ∧ many < 1073741824 ∧ ∀ (r : Int) (H' : Hp), 0 ≤ r → r < many → Hand H' p c → But p H H' → Q (.int r) H'
def spOpen (K : PySem.W.Frag) : Sp := fun vs H Q _ => ∃ (a : Addr) (ns : List Int) (pl : Int), vs = [.ref a, .int pl] ∧ SqL K H a (ns.map V.int) ∧ ns.length ≤ 63 ∧ 0 ≤ pl ∧ pl ≤ 1000 ∧ ∀ (p c : Addr) (H' : Hp), H p = none → Hand H' p c → Same H H' → Q (.ref p) H'
def spFar : Sp := fun vs H Q _ => ∃ (p c : Addr) (bound : Int), vs = [.ref p, .int bound] ∧ Hand H p c ∧ 0 < bound ∧ ∀ (r : Int) (H' : Hp), 0 ≤ r → r < bound → Hand H' p c → But p H H' → Q (.int r) H'
abbrev s_draw : Stmt := top 19
theorem sc_draw : FnScope ["_law_hand", "_law_many", "_law_got", "_law_cell", "_law_number"] ["_law_hand", "_law_many"] (defScope s_draw) := ⟨rfl, rfl, rfl, by decide +kernel, rfl, by decide +kernel, by decide +kernel⟩
abbrev s_open : Stmt := top 18
theorem sc_open : FnScope ["_law_script", "_law_place", "_law_cells", "_law_at_here", "_law_digits"] ["_law_script", "_law_place"] (defScope s_open) := ⟨rfl, rfl, rfl, by decide +kernel, rfl, by decide +kernel, by decide +kernel⟩
abbrev s_far : Stmt := top 20
theorem sc_far : FnScope ["_law_hand", "_law_bound", "_law_total", "_law_k"] ["_law_hand", "_law_bound"] (defScope s_far) := ⟨rfl, rfl, rfl, by decide +kernel, rfl, by decide +kernel, by decide +kernel⟩

theorem at_mod (cs : List Int) (h0 : cs ≠ []) (n : Int) : ∃ x : Int, atI (cs.map V.int) (n % ((cs.map V.int).length : Int)) = some (.int x) := by
  have hl := List.length_pos_iff.mpr h0
  have e : (cs.map V.int).length = cs.length := List.length_map ..
  have h1 := Int.emod_nonneg n (b := ((cs.map V.int).length : Int)) (by omega)
  have h2 := Int.emod_lt_of_pos n (b := ((cs.map V.int).length : Int)) (by omega)
  obtain ⟨j, hj⟩ := Int.eq_ofNat_of_zero_le h1
  rw [hj]
  have hlt : j < cs.length := by omega
  exact ⟨cs[j], atI_nat (by rw [List.getElem?_map, List.getElem?_eq_getElem hlt]; rfl)⟩
theorem mulR {i j : Int} (h1 : -(2 ^ 64) < j) (h2 : j < 2 ^ 64) : CMul i j := .inr ⟨h1, h2⟩
theorem mulM {i a m : Int} (h0 : 0 < m := by decide) (h1 : m ≤ 2147483647 := by decide) : CMul i (a % m) := by
  have b1 := Int.emod_nonneg a (b := m) (by omega)
  have b2 := Int.emod_lt_of_pos a h0
  exact .inr ⟨by omega, by omega⟩
theorem pos1 : (0 : Int) < 2147483647 := by decide
theorem pos2 : (0 : Int) < 998244353 := by decide
theorem pos3 : (0 : Int) < 1000000007 := by decide
theorem mulL {i j : Int} (h1 : -(2 ^ 64) < i) (h2 : i < 2 ^ 64) : CMul i j := .inl ⟨h1, h2⟩
section
variable {P : Program} {w : World} {K : PySem.W.Frag} {mg : Str → Option Value} {base : Heap}
theorem ok_draw {f : Addr} {fd : FuncData} (L : Lk K mg "_law_draw" s_draw ["_law_hand", "_law_many"] f fd) (T : Txt mg) : Callee P w K mg base "_law_draw" ["_law_hand", "_law_many"] 1 spDraw := by
  refine L.callee (L.F.ok sc_draw (fun vs H Q E h => ?_) (fun cdv A outer s H vs Q E hr h => ?_))
  · obtain ⟨p, c, many, rfl, _⟩ := h
    rfl
  · obtain ⟨p, c, many, rfl, hh, m0, m1, k⟩ := h
    obtain ⟨d, n, cs, hp, hc, h0⟩ := id hh
    refine ⟨_, (QB.p (qb_cn (qs_if (qt_cmpR op_gt (qe_ix ix_list (qv 0) qe_int (fun _ _ => rfl)) qe_int (nomark _)) (qb_cn (qs_set (i := 2) sc_draw.nd rfl (Or.inl rfl) (qe_op op_mod (qe_ix ix_list (qv 0) qe_int (fun _ _ => rfl)) (qv 1)))
      (qb_cn (qs_asg (qe_op op_fdiv (qe_ix ix_list (qv 0) qe_int (fun _ _ => rfl)) (qv 1)) (qg_sub (qv 0) qe_int set_list))
      (qb_one (qs_ret (qv 2))))) qb_nil)
      (qb_cn (qs_augS (qv 0) qe_int get_list qe_int ip_add set_list)
      (qb_cn (qs_set (i := 3) sc_draw.nd rfl (Or.inl rfl) (qe_op op_mod (qe_ix ix_list (qe_ix ix_list (qv 0) qe_int (fun _ _ => rfl)) (qe_op op_mod (qe_ix ix_list (qv 0) qe_int (fun _ _ => rfl)) (qe_callB call_len_seq (by rfl) T.len PySem.boot_len (qa_cn (qe_ix ix_list (qv 0) qe_int (fun _ _ => rfl)) qa_nil))) (fun _ _ => rfl)) qe_int))
      (qb_cn (qs_set (i := 4) sc_draw.nd rfl (Or.inl rfl) (qe_op op_mod (qe_op op_add (qe_op op_add (qe_op op_mul (qv 3) qe_int) (qe_op op_mul (qe_ix ix_list (qv 0) qe_int (fun _ _ => rfl)) qe_int)) qe_int) qe_int))
      (qb_cn (qs_set (i := 4) sc_draw.nd rfl (Or.inl rfl) (qe_op op_mod (qe_op op_add (qe_op op_mul (qv 4) (qv 4)) (qe_ix ix_list (qv 0) qe_int (fun _ _ => rfl))) qe_int))
      (qb_cn (qs_set (i := 4) sc_draw.nd rfl (Or.inl rfl) (qe_op op_mod (qe_op op_add (qe_op op_mul (qv 4) qe_int) qe_int) qe_int))
      (qb_one (qs_ret (qe_op op_mod (qe_op op_fdiv (qe_op op_mod (qe_op op_mul (qv 4) (qv 4)) qe_int) qe_int) (qv 1))))))))))), ?_⟩
    refine ⟨_, rfl, p, _, _, _, rfl, rfl, SqL.of hp, rfl, _, _, rfl, rfl, _, rfl, ?_⟩
    refine ite2 (fun _ => ?_) (fun _ => ?_)
    · refine ⟨_, rfl, p, _, _, _, rfl, rfl, SqL.of hp, rfl, _, rfl, _, _, rfl, rfl, m0, ?_⟩
      refine ⟨_, rfl, p, _, _, _, rfl, rfl, SqL.of hp, rfl, _, rfl, _, _, rfl, rfl, ⟨m0, m1⟩, _, rfl, p, _, _, _, rfl, rfl, hp, rfl, _, rfl, ?_⟩
      exact k _ _ (Int.emod_nonneg _ (by omega)) (Int.emod_lt_of_pos _ m0) (hh.set _ n) (But.upd p H _)
    · refine ⟨_, rfl, p, _, 1, _, rfl, rfl, SqL.of hp, rfl, _, _, rfl, rfl, p, _, _, _, rfl, rfl, hp, rfl, ?_⟩
      have h1 : Hand (upd H p (.lst [.int d, .int (n + 1), .ref c])) p c := hh.set d (n + 1)
      have hp1 : (upd H p (.lst [.int d, .int (n + 1), .ref c])) p = some (.lst [.int d, .int (n + 1), .ref c]) := upd_same
      have hc1 : (upd H p (.lst [.int d, .int (n + 1), .ref c])) c = some (.lst (cs.map V.int)) := by rw [upd_ne hh.ne]; exact hc
      have hb : But p H (upd H p (.lst [.int d, .int (n + 1), .ref c])) := But.upd p H _
      obtain ⟨x, hx⟩ := at_mod cs h0 (n + 1)
      refine ⟨_, rfl, p, _, _, _, rfl, rfl, SqL.of hp1, rfl, _, rfl, p, _, _, _, rfl, rfl, SqL.of hp1, rfl, _, rfl, p, _, _, _, rfl, rfl, SqL.of hp1, rfl, c, _, rfl, .inl (SqL.of hc1), _, _, rfl, rfl, ?_, c, _, _, _, rfl, rfl, SqL.of hc1, hx, _, _, rfl, rfl, pos1, ?_⟩
      · show (0 : Int) < ((cs.map V.int).length : Int)
        rw [List.length_map]
        have := List.length_pos_iff.mpr h0
        omega
      refine ⟨_, rfl, _, _, rfl, rfl, mulR (by decide) (by decide), _, rfl, p, _, _, _, rfl, rfl, SqL.of hp1, rfl, _, _, rfl, rfl, mulR (by decide) (by decide), _, _, rfl, rfl, _, _, rfl, rfl, _, _, rfl, rfl, pos2, ?_⟩
      refine ⟨_, rfl, _, rfl, _, _, rfl, rfl, mulM, _, rfl, p, _, _, _, rfl, rfl, SqL.of hp1, rfl, _, _, rfl, rfl, _, _, rfl, rfl, pos2, ?_⟩
      refine ⟨_, rfl, _, _, rfl, rfl, mulR (by decide) (by decide), _, _, rfl, rfl, _, _, rfl, rfl, pos1, ?_⟩
      refine ⟨_, rfl, _, rfl, _, _, rfl, rfl, mulM, _, _, rfl, rfl, pos3, _, _, rfl, rfl, ⟨by decide, by decide⟩, _, rfl, _, _, rfl, rfl, m0, ?_⟩
      exact k _ _ (Int.emod_nonneg _ (by omega)) (Int.emod_lt_of_pos _ m0) h1 hb
end
theorem flat_ints (ns : List Int) : (ns.map V.int).all flatV = true := by
  rw [List.all_map]
  exact List.all_eq_true.mpr fun _ _ => rfl
theorem cut_ints (ns : List Int) (lo hi : Option Int) : ∃ ms : List Int, cutV (ns.map V.int) lo hi = ms.map V.int ∧ ms.length ≤ ns.length := by
  refine ⟨(ns.drop (HT.sIx (ns.map V.int).length 0 lo)).take (HT.sIx (ns.map V.int).length (ns.map V.int).length hi - HT.sIx (ns.map V.int).length 0 lo), ?_, ?_⟩
  · unfold cutV
    rw [List.map_take, List.map_drop]
  · rw [List.length_take, List.length_drop]
    omega
theorem cut_from (xs : List V) (j : Nat) (h : j ≤ xs.length) : cutV xs (some (j : Int)) none = xs.drop j := by
  unfold cutV
  rw [HT.sIx_nat, HT.sIx_none, Nat.min_eq_left h]
  exact List.take_of_length_le (by rw [List.length_drop]; omega)
theorem cut_to (xs : List V) (j : Nat) (h : j ≤ xs.length) : cutV xs none (some (j : Int)) = xs.take j := by
  unfold cutV
  rw [HT.sIx_nat, HT.sIx_none, Nat.min_eq_left h, List.drop_zero, Nat.sub_zero]
theorem int_at {ns : List Int} {i : Nat} {x : V} (h : (ns.map V.int)[i]? = some x) : ∃ v, x = .int v ∧ ns[i]? = some v := by
  rw [List.getElem?_map] at h
  cases e : ns[i]? with
  | none => rw [e] at h; cases h
  | some v => rw [e] at h; exact ⟨v, (Option.some.inj h).symm, rfl⟩
theorem at_ints {ms : List Int} {i : Int} (h0 : 0 ≤ i) (h1 : i < ms.length) : ∃ v : Int, atI (ms.map V.int) i = some (.int v) := by
  obtain ⟨j, rfl⟩ := Int.eq_ofNat_of_zero_le h0
  have hlt : j < ms.length := by omega
  exact ⟨ms[j], atI_nat (by rw [List.getElem?_map, List.getElem?_eq_getElem hlt]; rfl)⟩
section
variable {P : Program} {w : World} {K : PySem.W.Frag} {mg : Str → Option Value} {base : Heap}
theorem ok_open {f : Addr} {fd : FuncData} (L : Lk K mg "_law_open" s_open ["_law_script", "_law_place"] f fd) (T : Txt mg) : Callee P w K mg base "_law_open" ["_law_script", "_law_place"] 1 (spOpen K) := by
  refine L.callee (L.F.ok sc_open (fun vs H Q E h => ?_) (fun cdv A outer s H vs Q E hr h => ?_))
  · obtain ⟨a, ns, pl, rfl, _⟩ := h
    rfl
  · obtain ⟨a, ns, pl, rfl, hS, hn, p0, p1, k⟩ := h
    have R : ∃ u, PSs ((cxOf CX0 P w K mg base ["_law_script", "_law_place", "_law_cells", "_law_at_here", "_law_digits"] "_law_open" (defScope s_open) f cdv A outer s H E).nox) ((defBody s_open).drop 2) u ∧ ∀ (e : Addr) (H2 : Hp) (ms : List Int), H2 e = some (.lst (ms.map V.int)) → ms ≠ [] → ms.length ≤ 63 → Same H H2 →
        u { nx := fun _ H' => Q .non H', rt := Q } [some (.ref a), some (.int pl), some (.ref e), none, none] H2 := by
      refine ⟨_, (QB.p (qb_cn (qs_set (i := 3) sc_open.nd rfl (Or.inl rfl) (qe_op op_mod (qv 1) (qe_callB call_len_seq (by rfl) T.len PySem.boot_len (qa_cn (qv 2) qa_nil))))
      (qb_cn (qs_set (i := 4) sc_open.nd rfl (Or.inl rfl) qe_int)
      (qb_cn (qs_if (qw_pt (qw_and (qt_cmpR op_ge (qe_ix ix_list (qv 2) (qv 3) (fun _ _ => rfl)) (qe_op op_pow qe_int qe_int) (nomark _)) (qw_and1 (qt_cmpR op_lt (qv 1) (qe_callB call_len_seq (by rfl) T.len PySem.boot_len (qa_cn (qv 2) qa_nil)) (nomark _))))) (qb_one (qs_set (i := 4) sc_open.nd rfl (Or.inl rfl) (qe_ix ix_list (qv 2) (qv 3) (fun _ _ => rfl)))) qb_nil)
      (qb_one (qs_ret (qe_lst (qa_cn (qv 4) (qa_cn (qe_op op_add qe_int (qe_op op_mul qe_int (qv 1))) (qa_cn (qe_op op_cat (qe_slice sl_list (qv 2) (qo_some (qv 3)) qo_none) (qe_slice sl_list (qv 2) qo_none (qo_some (qv 3)))) qa_nil)))))))))), fun e H2 ms he m0 m1 s2 => ?_⟩
      have hl := List.length_pos_iff.mpr m0
      have el : (ms.map V.int).length = ms.length := List.length_map ..
      have b1 := Int.emod_nonneg pl (b := ((ms.map V.int).length : Int)) (by omega)
      have b2 := Int.emod_lt_of_pos pl (b := ((ms.map V.int).length : Int)) (by omega)
      refine ⟨_, rfl, _, rfl, e, _, rfl, .inl (SqL.of he), _, _, rfl, rfl, ?_, ?_⟩
      · show (0 : Int) < ((ms.map V.int).length : Int)
        omega
      obtain ⟨v, hv⟩ := at_ints (ms := ms) b1 (by omega)
      have fin : ∀ (dg at' : Int), 0 ≤ at' → at' < (ms.length : Int) → tRet (tLst (tCons (tVar 4) (tCons (tOp (rI0 fun i j => .int (i + j)) (tC (.int 1)) (tOp (rI CMul fun i j => .int (i * j)) (tC (.int 101)) (tVar 1))) (tCons (tOp rCat (tSl (rSlL K) (tVar 2) (tPart (tVar 3)) tNoPart) (tSl (rSlL K) (tVar 2) tNoPart (tPart (tVar 3)))) tNil)))) { nx := fun _ H' => Q .non H', rt := Q } [some (.ref a), some (.int pl), some (.ref e), some (.int at'), some (.int dg)] H2 := by
        intro dg at' a0 a1
        obtain ⟨ja, rfl⟩ := Int.eq_ofNat_of_zero_le a0
        have jl : ja < ms.length := by omega
        have e2 := cut_from (ms.map V.int) ja (by rw [List.length_map]; omega)
        have e3 := cut_to (ms.map V.int) ja (by rw [List.length_map]; omega)
        rw [← List.map_drop] at e2
        rw [← List.map_take] at e3
        have l2 : (ms.drop ja).length ≤ ms.length := by rw [List.length_drop]; omega
        have l3 : (ms.take ja).length ≤ ms.length := by rw [List.length_take]; omega
        refine ⟨_, rfl, _, rfl, _, _, rfl, rfl, mulL (by decide) (by decide), _, _, rfl, rfl, _, rfl, _, rfl, _, rfl, e, _, rfl, SqL.of he, fun q hq => ?_⟩
        have he' : (upd H2 q (.lst (cutV (ms.map V.int) (some (ja : Int)) none))) e = some (.lst (ms.map V.int)) := by rw [upd_ne (ne_of_none he hq)]; exact he
        refine ⟨_, rfl, _, rfl, _, rfl, e, _, rfl, SqL.of he', fun q2 hq2 => ?_⟩
        have nq : q ≠ q2 := fun z => by rw [← z, upd_same] at hq2; cases hq2
        have hq' : H2 q2 = none := by rw [upd_ne (Ne.symm nq)] at hq2; exact hq2
        refine ⟨q, q2, _, _, rfl, rfl, by rw [upd_ne nq, upd_same], upd_same, ?_, fun q3 hq3 => ?_⟩
        · rw [e2, e3, List.length_map, List.length_map]
          exact Nat.le_trans (Nat.add_le_add l2 l3) (by have : ms.length + ms.length ≤ 126 := by omega
                                                        exact Nat.le_trans this (by decide))
        refine ⟨by show 3 ≤ sizeLine; decide, fun p hp => ?_⟩
        have s3 : Same H2 (upd (upd (upd H2 q (.lst (cutV (ms.map V.int) (some (ja : Int)) none))) q2 (.lst (cutV (ms.map V.int) none (some (ja : Int))))) q3 (.lst (cutV (ms.map V.int) (some (ja : Int)) none ++ cutV (ms.map V.int) none (some (ja : Int))))) :=
          ((Same.new _ hq).trans (Same.new _ hq2)).trans (Same.new _ hq3)
        have s4 := s3.trans (Same.new (.lst [.int dg, .int (1 + 101 * pl), .ref q3]) hp)
        refine k p q3 _ ((s2.trans s3).free hp) ⟨dg, 1 + 101 * pl, ms.drop ja ++ ms.take ja, upd_same, ?_, ?_⟩ (s2.trans s4)
        · rw [upd_ne (fun z => by rw [← z, upd_same] at hp; cases hp), upd_same, e2, e3, List.map_append]
        · intro z
          have := congrArg List.length z
          rw [List.length_append, List.length_drop, List.length_take, List.length_nil] at this
          omega
      refine ⟨_, rfl, _, rfl, e, _, _, _, rfl, rfl, SqL.of he, hv, _, _, rfl, rfl, ⟨by decide, by decide, by decide⟩, _, _, rfl, rfl, _, rfl, ?_⟩
      refine ite2 (fun _ => ?_) (fun _ => ?_)
      · refine ⟨_, rfl, _, rfl, e, _, rfl, .inl (SqL.of he), _, _, rfl, rfl, _, rfl, ?_⟩
        refine ite2 (fun _ => ?_) (fun _ => ?_)
        · exact ⟨_, rfl, _, rfl, e, _, _, _, rfl, rfl, SqL.of he, hv, fin _ _ b1 (by omega)⟩
        · exact fin _ _ b1 (by omega)
      · refine iteF ?_
        exact fin _ _ b1 (by omega)
    obtain ⟨u, hu, ku⟩ := R
    refine ⟨_, (QB.p (qb_cn (qs_comp (i := 2) ["_law_cell"] [] [] ["_law_script", "_law_place", "_law_cells", "_law_at_here", "_law_digits"] (defScope s_open).names rfl sc_open.nd rfl (Or.inl rfl) (qi_list (qe_slice sl_list (qv 0) qo_none (qo_some qe_int))) (fun _ _ _ _ _ => (qg_name (i := 0) (show (["_law_cell"] : List Str).Nodup by decide +kernel) rfl (Or.inl rfl))) (fun _ _ _ _ _ => qts_nil) (fun _ _ _ _ _ => (qe_callB call_abs (by rfl) T.abs boot_abs (qa_cn (qv 0) qa_nil))))
      (qb_cn (qs_if (qt_cmpR (op_eqL (hu0 hr)) (qv 2) (qe_lst qa_nil) (nomark _)) (qb_one (qs_set (i := 2) sc_open.nd rfl (Or.inl rfl) (qe_lst (qa_cn qe_int qa_nil)))) qb_nil)
      ⟨hu⟩))), ?_⟩
    obtain ⟨cn, ec, lc⟩ := cut_ints ns none (some 63)
    refine ⟨_, rfl, _, rfl, a, _, rfl, hS, fun q hq => ⟨q, rfl, ⟨_, SqL.of upd_same⟩, fun D hD => ?_⟩⟩
    refine comp_list (K := K) (a := q) (xs := cn.map V.int) (fun i ys H' => (∃ ms : List Int, ys = ms.map V.int ∧ ms.length = i) ∧ Same (upd H q (.lst (cutV (ns.map V.int) none (some 63)))) H') ⟨⟨[], rfl, rfl⟩, Same.new _ hD⟩ (fun i ys H' _ ⟨_, s'⟩ => SqL.of (s' _ _ (by rw [upd_same, ec])))
      (fun ys H' ⟨⟨ms, e1, l1⟩, s'⟩ hD' => ?_) (fun i x ys H' hx ⟨⟨ms, e1, l1⟩, s'⟩ hD' => ?_)
    · subst e1
      have hlm : ms.length ≤ 63 := by rw [l1, List.length_map]; omega
      have s1 : Same H H' := (Same.new _ hq).trans s'
      refine ⟨_, rfl, Nat.zero_le _, fun e he => ⟨D, e, _, _, rfl, rfl, SqL.of (by rw [upd_ne (ne_of_none hD' he)]; exact hD'), SqL.of upd_same, flat_ints ms, rfl, _, rfl, ?_⟩⟩
      have s2 : Same H (upd H' e (.lst [])) := s1.trans (Same.new _ he)
      refine ite2 (fun _ => ?_) (fun hne => ?_)
      · refine ⟨by show 1 ≤ sizeLine; decide, fun d hd => ?_⟩
        exact ku d _ [0] upd_same (by simp) (by show 1 ≤ 63; decide) (s2.trans (Same.new _ hd))
      · refine ku D _ ms (by rw [upd_ne (ne_of_none hD' he)]; exact hD') (fun z => hne ?_) hlm s2
        rw [z]
        rfl
    · obtain ⟨v, rfl, _⟩ := int_at hx
      subst e1
      have hi : i < (cn.map V.int).length := (List.getElem?_eq_some_iff.mp hx).1
      rw [List.length_map] at hi
      refine ⟨rfl, _, rfl, v, rfl, hD', ?_, nx (by rw [List.length_map]; exact hi) ⟨⟨ms ++ [if v < 0 then -v else v], by rw [List.map_append]; rfl, by rw [List.length_append, l1]; rfl⟩, ?_⟩⟩
      · rw [List.length_map, l1]
        exact Nat.lt_of_lt_of_le hi (Nat.le_trans lc (Nat.le_trans hn (by decide)))
      · intro b o e
        rw [upd_ne (fun z => by rw [z, hD] at e; cases e)]
        exact s' b o e
theorem ok_far {f : Addr} {fd : FuncData} (L : Lk K mg "_law_far" s_far ["_law_hand", "_law_bound"] f fd) (T : Txt mg) (C__law_draw : Callee P w K mg base "_law_draw" ["_law_hand", "_law_many"] 1 spDraw) : Callee P w K mg base "_law_far" ["_law_hand", "_law_bound"] 2 spFar := by
  refine L.callee (L.F.ok sc_far (fun vs H Q E h => ?_) (fun cdv A outer s H vs Q E hr h => ?_))
  · obtain ⟨p, c, many, rfl, _⟩ := h
    rfl
  · obtain ⟨p, c, bound, rfl, hh, m0, k⟩ := h
    refine ⟨_, (QB.p (qb_cn (qs_set (i := 2) sc_far.nd rfl (Or.inl rfl) qe_int)
      (qb_cn (qs_for PassesOwn.never rfl (qi_range1 rfl T.range (qa_cn qe_int qa_nil)) (qg_name (i := 3) sc_far.nd rfl (Or.inl rfl)) (qb_one (qs_set (i := 2) sc_far.nd rfl (Or.inl rfl) (qe_op op_add (qe_op op_mul (qv 2) qe_int) (qe_callee C__law_draw (hr.mono (by first | decide | omega)) (by rfl) (qa_cn (qv 0) (qa_cn qe_int qa_nil)))))))
      (qb_one (qs_ret (qe_op op_mod (qv 2) (qv 1))))))), ?_⟩
    refine ⟨11, rfl, by decide, by decide, for_range (n := 11) (fun i σ H' => ∃ (t : Int) (v : Option V), σ = [some (.ref p), some (.int bound), some (.int t), v] ∧ Hand H' p c ∧ But p H H') ⟨0, none, rfl, hh, But.refl p H⟩ ?_ ?_⟩
    · rintro i σ H' hi ⟨t, v, rfl, h1, b1⟩
      refine ⟨_, rfl, _, _, rfl, rfl, mulR (by decide) (by decide), _, rfl, p, c, 1000003, rfl, h1, by decide, by decide, fun r H2 r0 r1 h2 b2 => ?_⟩
      exact ⟨_, _, rfl, rfl, _, _, rfl, h2, b1.trans b2⟩
    · rintro σ H' ⟨t, v, rfl, h1, b1⟩
      refine ⟨_, rfl, _, rfl, _, _, rfl, rfl, m0, ?_⟩
      exact k _ _ (Int.emod_nonneg _ (by omega)) (Int.emod_lt_of_pos _ m0) h1 b1
end
end K19

end
section
set_option Elab.async false
set_option linter.all false
set_option maxRecDepth 100000
set_option maxHeartbeats 4000000
namespace K19
open PySem L2 PyProof.Rows
abbrev s_letters : Stmt := top 21
theorem sc_letters : FnScope ["_law_hand", "_law_many"] ["_law_hand", "_law_many"] (defScope s_letters) := ⟨rfl, rfl, rfl, by decide +kernel, rfl, by decide +kernel, by decide +kernel⟩

def spLetters : Sp := fun vs H Q _ => ∃ (p c : Addr) (many : Int), vs = [.ref p, .int many] ∧ Hand H p c ∧ 0 ≤ many ∧ many ≤ 1000 ∧ ∀ (z : Str) (H' : Hp), z.length = many.toNat → Hand H' p c → But p H H' → Q (.str z) H'
theorem at_lt {α : Type} (xs : List α) {i : Int} (h0 : 0 ≤ i) (h1 : i < xs.length) : ∃ v, atI xs i = some v := by
  obtain ⟨j, rfl⟩ := Int.eq_ofNat_of_zero_le h0
  have hlt : j < xs.length := by omega
  exact ⟨xs[j], atI_nat (List.getElem?_eq_getElem hlt)⟩
theorem sum_ones (zs : List Str) (h : ∀ z ∈ zs, z.length = 1) : (zs.map (·.length)).sum = zs.length := by
  induction zs with
  | nil => rfl
  | cons z zs ih =>
    rw [List.map_cons, List.sum_cons, List.length_cons, ih fun y hy => h y (List.mem_cons_of_mem _ hy), h z List.mem_cons_self]
    omega
theorem join_ones (zs : List Str) (h : ∀ z ∈ zs, z.length = 1) : (Txt.join ("" : Str) zs).length = zs.length := by
  have h1 := len_join_ge_sum ("" : Str) zs
  have h2 := StrLaws.join_length_le ("" : Str) zs
  have h3 : (Txt.join ("" : Str) zs).length = (Str.join ("" : Str) zs).length := by
    unfold Txt.join
    rw [StrLaws.glued_eq_join]
  rw [sum_ones zs h] at h1 h2
  rw [← h3] at h2
  have h4 : ("" : Str).length = 0 := by decide
  rw [h4, Nat.mul_zero] at h2
  omega
section
variable {P : Program} {w : World} {K : PySem.W.Frag} {mg : Str → Option Value} {base : Heap}
theorem ok_letters {f : Addr} {fd : FuncData} (L : Lk K mg "_law_letters" s_letters ["_law_hand", "_law_many"] f fd) (T : Txt mg) (C__law_draw : Callee P w K mg base "_law_draw" ["_law_hand", "_law_many"] 1 spDraw) : Callee P w K mg base "_law_letters" ["_law_hand", "_law_many"] 2 spLetters := by
  refine L.callee (L.F.ok sc_letters (fun vs H Q E h => ?_) (fun cdv A outer s H vs Q E hr h => ?_))
  · obtain ⟨p, c, many, rfl, _⟩ := h
    rfl
  · obtain ⟨p, c, many, rfl, hh, m0, m1, k⟩ := h
    have hqq : QB ((cxOf CX0 P w K mg base ["_law_hand", "_law_many"] "_law_letters" (defScope s_letters) f cdv A outer s H E).nox) (defBody s_letters) _ := (qb_one (qs_ret (qe_bm PySem.F.plainAttrs_str PySem.F.slot_str_join PySem.F.type_str_join mt_join qe_str (qa_cn (qe_comp ["_law_k"] ["_law_hand"] [0] ["_law_hand", "_law_many"] (defScope s_letters).names rfl (qi_range1 rfl T.range (qa_cn (qv 1) qa_nil)) (fun _ _ _ _ _ => (qg_name (i := 0) (show (["_law_k", "_law_hand"] : List Str).Nodup by decide +kernel) rfl (Or.inl rfl))) (fun _ _ _ _ _ => qts_nil) (fun _ _ _ _ _ => (qe_ix ix_str qe_str (qe_callee C__law_draw (hr.mono (by first | decide | omega)) (by rfl) (qa_cn (qv 1) (qa_cn qe_int qa_nil))) (fun _ _ => rfl)))) qa_nil))))
    (with_reducible refine ⟨_, hqq.p, ?_⟩)
    refine ⟨rfl, _, rfl, many, rfl, by omega, by omega, fun D hD => ?_⟩
    refine comp_range (n := many.toNat) (fun i ys H' => (∃ zs : List Str, ys = zs.map V.str ∧ zs.length = i ∧ ∀ z ∈ zs, z.length = 1) ∧ Hand H' p c ∧ But p H H') ⟨⟨[], rfl, rfl, fun z hz => by cases hz⟩, hh.new _ hD, But.new _ hD⟩ ?_ ?_
    · rintro ys H' ⟨⟨zs, rfl, lz, oz⟩, h1, b1⟩ hD'
      refine ⟨_, D, zs, rfl, rfl, SqL.of hD', ?_, k _ _ ?_ h1 b1⟩
      · rw [sum_ones zs (fun z hz => (oz z hz)), lz]
        have : ("" : Str).length = 0 := by decide
        rw [this]
        omega
      · rw [join_ones zs (fun z hz => (oz z hz)), lz]
    · rintro i ys H' hi ⟨⟨zs, rfl, lz, oz⟩, h1, b1⟩ hD'
      refine ⟨rfl, _, rfl, p, c, 26, rfl, h1, by decide, by decide, fun r H2 r0 r1 h2 b2 => ?_⟩
      have hD2 : H2 D = some (.lst (zs.map V.str)) := b2 _ _ hD' (hh.nef hD)
      obtain ⟨ch, hch⟩ := at_lt (("abcdefghijklmnopqrstuvwxyz" : Str).cps.toList) r0 (by rw [show (("abcdefghijklmnopqrstuvwxyz" : Str).cps.toList).length = 26 by decide]; exact r1)
      refine ⟨_, _, _, rfl, rfl, by decide, hch, hD2, ?_, nx hi ⟨⟨zs ++ [⟨#[ch]⟩], by rw [List.map_append]; rfl, by rw [List.length_append, lz]; rfl, fun z hz => ?_⟩, ?_, ?_⟩⟩
      · rw [List.length_map, lz]
        exact Nat.lt_of_lt_of_le (show i < 1001 by omega) (by decide)
      · rcases List.mem_append.mp hz with z1 | z1
        · exact oz z z1
        · rw [List.mem_singleton.mp z1]
          rfl
      · obtain ⟨d, n, cs, e1, e2, e3⟩ := h2
        have n2 : c ≠ D := fun z => by
          rw [z, hD2] at e2
          have e2 : zs.map V.str = cs.map V.int := by injection e2 with e2; injection e2
          cases cs with
          | nil => exact e3 rfl
          | cons c0 cs =>
            cases zs with
            | nil => cases e2
            | cons z0 zs => rw [List.map_cons, List.map_cons] at e2; cases e2
        exact ⟨d, n, cs, by rw [upd_ne (Ne.symm (hh.nef hD))]; exact e1, by rw [upd_ne n2]; exact e2, e3⟩
      · intro b o e nb
        rw [upd_ne (ne_of_none e hD)]
        exact b2 b o (b1 b o e nb) nb
end
end K19

end
section
set_option Elab.async false
set_option linter.all false
set_option maxRecDepth 100000
set_option maxHeartbeats 4000000
namespace K19
open PySem L2 PyProof.Rows
abbrev s_raised : Stmt := top 22
theorem sc_raised : FnScope ["_law_k", "_law_word", "_law_number"] ["_law_k", "_law_word", "_law_number"] (defScope s_raised) := ⟨rfl, rfl, rfl, by decide +kernel, rfl, by decide +kernel, by decide +kernel⟩
abbrev s_NoText___init__ : Stmt := inClass (top 6) 0
theorem sc_NoText___init__ : FnScope ["self", "at"] ["self", "at"] (defScope s_NoText___init__) := ⟨rfl, rfl, rfl, by decide +kernel, rfl, by decide +kernel, by decide +kernel⟩
abbrev s_NoName___init__ : Stmt := inClass (top 7) 0
theorem sc_NoName___init__ : FnScope ["self", "name"] ["self", "name"] (defScope s_NoName___init__) := ⟨rfl, rfl, rfl, by decide +kernel, rfl, by decide +kernel, by decide +kernel⟩
abbrev s_NoRoad___init__ : Stmt := inClass (top 8) 0
theorem sc_NoRoad___init__ : FnScope ["self", "name"] ["self", "name"] (defScope s_NoRoad___init__) := ⟨rfl, rfl, rfl, by decide +kernel, rfl, by decide +kernel, by decide +kernel⟩
abbrev s_Taken___init__ : Stmt := inClass (top 9) 0
theorem sc_Taken___init__ : FnScope ["self", "name"] ["self", "name"] (defScope s_Taken___init__) := ⟨rfl, rfl, rfl, by decide +kernel, rfl, by decide +kernel, by decide +kernel⟩
abbrev s_Gap___init__ : Stmt := inClass (top 10) 0
theorem sc_Gap___init__ : FnScope ["self", "wanted"] ["self", "wanted"] (defScope s_Gap___init__) := ⟨rfl, rfl, rfl, by decide +kernel, rfl, by decide +kernel, by decide +kernel⟩
abbrev s_NoQuestion___init__ : Stmt := inClass (top 13) 0
theorem sc_NoQuestion___init__ : FnScope ["self", "at"] ["self", "at"] (defScope s_NoQuestion___init__) := ⟨rfl, rfl, rfl, by decide +kernel, rfl, by decide +kernel, by decide +kernel⟩
abbrev s_Untaken___init__ : Stmt := inClass (top 16) 0
theorem sc_Untaken___init__ : FnScope ["self", "wanted"] ["self", "wanted"] (defScope s_Untaken___init__) := ⟨rfl, rfl, rfl, by decide +kernel, rfl, by decide +kernel, by decide +kernel⟩

def names : List Str := ["Late", "Fixed", "BackMark", "NotLoose", "NoText", "NoName", "NoRoad", "Taken", "Gap", "Ended", "Begun", "NoQuestion", "NoKeep", "NoLine", "Untaken"]
def nm (i : Nat) : Str := names.getD i ""
/-- the field that a refusal has -/
def fld (i : Nat) : Option Str := [none, none, none, none, some "at", some "name", some "name", some "name", some "wanted", none, none, some "at", none, none, some "wanted"].getD i none
structure RX (K : PySem.W.Frag) (mg : Str → Option Value) (c : Nat → Addr) (W : Addr) : Prop where
  mW : mg "WeirError" = some (.ref W)
  mC : ∀ i, i < 15 → mg (nm i) = some (.ref (c i))
  ok : ∀ i, i < 15 → XCls K (c i)
  kp : ∀ i, i < 15 → PySem.W.keepIn K (.ref (c i)) = true
  pl : ∀ i, i < 15 → fld i = none → excXIn K (c i) none = true
  na : ∀ i, i < 15 → ∀ f, fld i = some f → NoAttr K (c i) f
  iso : ∀ i j, i < 15 → j < 15 → PySem.W.kitOne K (.ref (c i)) (.ref (c j)) = some (decide (i = j))
  val : ∀ i, i < 15 → PySem.W.kitOne K (.ref (c i)) (.type "ValueError") = some true
  exW : ∀ i, i < 15 → PySem.W.exmOne K (.ref (c i)) (.ref W) = some true
  ex : ∀ i j, i < 15 → j < 15 → PySem.W.exmOne K (.ref (c i)) (.ref (c j)) = some (decide (i = j))
  i4 : ∃ f fd, excXIn K (c 4) (some (.ref f)) = true ∧ PySem.W.isFn K (.ref f) = true ∧ Fun K "__init__" "NoText.__init__" s_NoText___init__ f fd ∧ Binds K fd ["self", "at"] []
  i5 : ∃ f fd, excXIn K (c 5) (some (.ref f)) = true ∧ PySem.W.isFn K (.ref f) = true ∧ Fun K "__init__" "NoName.__init__" s_NoName___init__ f fd ∧ Binds K fd ["self", "name"] []
  i6 : ∃ f fd, excXIn K (c 6) (some (.ref f)) = true ∧ PySem.W.isFn K (.ref f) = true ∧ Fun K "__init__" "NoRoad.__init__" s_NoRoad___init__ f fd ∧ Binds K fd ["self", "name"] []
  i7 : ∃ f fd, excXIn K (c 7) (some (.ref f)) = true ∧ PySem.W.isFn K (.ref f) = true ∧ Fun K "__init__" "Taken.__init__" s_Taken___init__ f fd ∧ Binds K fd ["self", "name"] []
  i8 : ∃ f fd, excXIn K (c 8) (some (.ref f)) = true ∧ PySem.W.isFn K (.ref f) = true ∧ Fun K "__init__" "Gap.__init__" s_Gap___init__ f fd ∧ Binds K fd ["self", "wanted"] []
  i11 : ∃ f fd, excXIn K (c 11) (some (.ref f)) = true ∧ PySem.W.isFn K (.ref f) = true ∧ Fun K "__init__" "NoQuestion.__init__" s_NoQuestion___init__ f fd ∧ Binds K fd ["self", "at"] []
  i14 : ∃ f fd, excXIn K (c 14) (some (.ref f)) = true ∧ PySem.W.isFn K (.ref f) = true ∧ Fun K "__init__" "Untaken.__init__" s_Untaken___init__ f fd ∧ Binds K fd ["self", "wanted"] []

/-- the field's value -/
def val (i : Nat) (word : Str) (num : Int) : V := [.non, .non, .non, .non, .int num, .str word, .str word, .str word, .int num, .non, .non, .int num, .non, .non, .int num].getD i .non
def XD (H : Hp) (dx : Option Addr) (i : Nat) (word : Str) (num : Int) : Prop := match fld i with
  | none => dx = none
  | some f => ∃ d, dx = some d ∧ H d = some (.xd [(f, val i word num)])
def spRaised (c : Nat → Addr) : Sp := fun vs H _ E => ∃ (k : Nat) (word : Str) (num : Int), vs = [.int k, .str word, .int num] ∧ k < 15 ∧ ∀ dx H', XD H' dx k word num → Same H H' → E (.ref (c k)) dx H'
section
variable {P : Program} {w : World} {K : PySem.W.Frag} {mg : Str → Option Value} {base : Heap}
theorem ok_ini4 {f : Addr} {fd : FuncData} (F : Fun K "__init__" "NoText.__init__" s_NoText___init__ f fd) : FnOk P w K mg base CX0 1 f fd ["self", "at"] (spInit K "at") := by
  refine F.ok sc_NoText___init__ (fun vs H Q E h => ?_) (fun cdv A outer s H vs Q E hr h => ?_)
  · obtain ⟨x, C, v, tb, rfl, _⟩ := h
    rfl
  · obtain ⟨x, C, v, tb, rfl, hx, xc, na, k⟩ := h
    have hqq : QB ((cxOf CX0 P w K mg base ["self", "at"] "NoText.__init__" (defScope s_NoText___init__) f cdv A outer s H E).nox) (defBody s_NoText___init__) _ := (qb_one (qs_fldX (qv 0) (qv 1)))
    (with_reducible refine ⟨_, hqq.p, ?_⟩)
    exact ⟨v, rfl, _, rfl, x, C, tb, rfl, hx, xc, na, k⟩
theorem ok_ini5 {f : Addr} {fd : FuncData} (F : Fun K "__init__" "NoName.__init__" s_NoName___init__ f fd) : FnOk P w K mg base CX0 1 f fd ["self", "name"] (spInit K "name") := by
  refine F.ok sc_NoName___init__ (fun vs H Q E h => ?_) (fun cdv A outer s H vs Q E hr h => ?_)
  · obtain ⟨x, C, v, tb, rfl, _⟩ := h
    rfl
  · obtain ⟨x, C, v, tb, rfl, hx, xc, na, k⟩ := h
    have hqq : QB ((cxOf CX0 P w K mg base ["self", "name"] "NoName.__init__" (defScope s_NoName___init__) f cdv A outer s H E).nox) (defBody s_NoName___init__) _ := (qb_one (qs_fldX (qv 0) (qv 1)))
    (with_reducible refine ⟨_, hqq.p, ?_⟩)
    exact ⟨v, rfl, _, rfl, x, C, tb, rfl, hx, xc, na, k⟩
theorem ok_ini6 {f : Addr} {fd : FuncData} (F : Fun K "__init__" "NoRoad.__init__" s_NoRoad___init__ f fd) : FnOk P w K mg base CX0 1 f fd ["self", "name"] (spInit K "name") := by
  refine F.ok sc_NoRoad___init__ (fun vs H Q E h => ?_) (fun cdv A outer s H vs Q E hr h => ?_)
  · obtain ⟨x, C, v, tb, rfl, _⟩ := h
    rfl
  · obtain ⟨x, C, v, tb, rfl, hx, xc, na, k⟩ := h
    have hqq : QB ((cxOf CX0 P w K mg base ["self", "name"] "NoRoad.__init__" (defScope s_NoRoad___init__) f cdv A outer s H E).nox) (defBody s_NoRoad___init__) _ := (qb_one (qs_fldX (qv 0) (qv 1)))
    (with_reducible refine ⟨_, hqq.p, ?_⟩)
    exact ⟨v, rfl, _, rfl, x, C, tb, rfl, hx, xc, na, k⟩
theorem ok_ini7 {f : Addr} {fd : FuncData} (F : Fun K "__init__" "Taken.__init__" s_Taken___init__ f fd) : FnOk P w K mg base CX0 1 f fd ["self", "name"] (spInit K "name") := by
  refine F.ok sc_Taken___init__ (fun vs H Q E h => ?_) (fun cdv A outer s H vs Q E hr h => ?_)
  · obtain ⟨x, C, v, tb, rfl, _⟩ := h
    rfl
  · obtain ⟨x, C, v, tb, rfl, hx, xc, na, k⟩ := h
    have hqq : QB ((cxOf CX0 P w K mg base ["self", "name"] "Taken.__init__" (defScope s_Taken___init__) f cdv A outer s H E).nox) (defBody s_Taken___init__) _ := (qb_one (qs_fldX (qv 0) (qv 1)))
    (with_reducible refine ⟨_, hqq.p, ?_⟩)
    exact ⟨v, rfl, _, rfl, x, C, tb, rfl, hx, xc, na, k⟩
theorem ok_ini8 {f : Addr} {fd : FuncData} (F : Fun K "__init__" "Gap.__init__" s_Gap___init__ f fd) : FnOk P w K mg base CX0 1 f fd ["self", "wanted"] (spInit K "wanted") := by
  refine F.ok sc_Gap___init__ (fun vs H Q E h => ?_) (fun cdv A outer s H vs Q E hr h => ?_)
  · obtain ⟨x, C, v, tb, rfl, _⟩ := h
    rfl
  · obtain ⟨x, C, v, tb, rfl, hx, xc, na, k⟩ := h
    have hqq : QB ((cxOf CX0 P w K mg base ["self", "wanted"] "Gap.__init__" (defScope s_Gap___init__) f cdv A outer s H E).nox) (defBody s_Gap___init__) _ := (qb_one (qs_fldX (qv 0) (qv 1)))
    (with_reducible refine ⟨_, hqq.p, ?_⟩)
    exact ⟨v, rfl, _, rfl, x, C, tb, rfl, hx, xc, na, k⟩
theorem ok_ini11 {f : Addr} {fd : FuncData} (F : Fun K "__init__" "NoQuestion.__init__" s_NoQuestion___init__ f fd) : FnOk P w K mg base CX0 1 f fd ["self", "at"] (spInit K "at") := by
  refine F.ok sc_NoQuestion___init__ (fun vs H Q E h => ?_) (fun cdv A outer s H vs Q E hr h => ?_)
  · obtain ⟨x, C, v, tb, rfl, _⟩ := h
    rfl
  · obtain ⟨x, C, v, tb, rfl, hx, xc, na, k⟩ := h
    have hqq : QB ((cxOf CX0 P w K mg base ["self", "at"] "NoQuestion.__init__" (defScope s_NoQuestion___init__) f cdv A outer s H E).nox) (defBody s_NoQuestion___init__) _ := (qb_one (qs_fldX (qv 0) (qv 1)))
    (with_reducible refine ⟨_, hqq.p, ?_⟩)
    exact ⟨v, rfl, _, rfl, x, C, tb, rfl, hx, xc, na, k⟩
theorem ok_ini14 {f : Addr} {fd : FuncData} (F : Fun K "__init__" "Untaken.__init__" s_Untaken___init__ f fd) : FnOk P w K mg base CX0 1 f fd ["self", "wanted"] (spInit K "wanted") := by
  refine F.ok sc_Untaken___init__ (fun vs H Q E h => ?_) (fun cdv A outer s H vs Q E hr h => ?_)
  · obtain ⟨x, C, v, tb, rfl, _⟩ := h
    rfl
  · obtain ⟨x, C, v, tb, rfl, hx, xc, na, k⟩ := h
    have hqq : QB ((cxOf CX0 P w K mg base ["self", "wanted"] "Untaken.__init__" (defScope s_Untaken___init__) f cdv A outer s H E).nox) (defBody s_Untaken___init__) _ := (qb_one (qs_fldX (qv 0) (qv 1)))
    (with_reducible refine ⟨_, hqq.p, ?_⟩)
    exact ⟨v, rfl, _, rfl, x, C, tb, rfl, hx, xc, na, k⟩

theorem ok_raised {f : Addr} {fd : FuncData} {c : Nat → Addr} {W : Addr} (L : Lk K mg "_law_raised" s_raised ["_law_k", "_law_word", "_law_number"] f fd) (T : Txt mg) (R : RX K mg c W) : CalleeX P w K mg base "_law_raised" ["_law_k", "_law_word", "_law_number"] 3 (spRaised c) := by
  obtain ⟨f4, fd4, q4, h4, fn4, b4⟩ := R.i4
  have F4 := ok_ini4 (P := P) (w := w) (mg := mg) (base := base) fn4
  obtain ⟨f5, fd5, q5, h5, fn5, b5⟩ := R.i5
  have F5 := ok_ini5 (P := P) (w := w) (mg := mg) (base := base) fn5
  obtain ⟨f6, fd6, q6, h6, fn6, b6⟩ := R.i6
  have F6 := ok_ini6 (P := P) (w := w) (mg := mg) (base := base) fn6
  obtain ⟨f7, fd7, q7, h7, fn7, b7⟩ := R.i7
  have F7 := ok_ini7 (P := P) (w := w) (mg := mg) (base := base) fn7
  obtain ⟨f8, fd8, q8, h8, fn8, b8⟩ := R.i8
  have F8 := ok_ini8 (P := P) (w := w) (mg := mg) (base := base) fn8
  obtain ⟨f11, fd11, q11, h11, fn11, b11⟩ := R.i11
  have F11 := ok_ini11 (P := P) (w := w) (mg := mg) (base := base) fn11
  obtain ⟨f14, fd14, q14, h14, fn14, b14⟩ := R.i14
  have F14 := ok_ini14 (P := P) (w := w) (mg := mg) (base := base) fn14

  refine ⟨f, fd, L.F.okX sc_raised (fun vs H Q E h => ?_) (fun cdv A outer s H vs Q E hr h => ?_), L.m, L.F.kp, L.b⟩
  · obtain ⟨k, word, num, rfl, _⟩ := h
    rfl
  · obtain ⟨k, word, num, rfl, hk, kE⟩ := h
    have hqq : QB ((cxOf (CXD P w) P w K mg base ["_law_k", "_law_word", "_law_number"] "_law_raised" (defScope s_raised) f cdv A outer s H E)) (defBody s_raised) _ := (qb_cn (qs_if (qt_cmpR op_eq (qv 0) qe_int (nomark _)) (qb_one (qs_raise raises_cx rfl (qe_exc0 (R.pl 0 (by decide) rfl) (R.kp 0 (by decide)) (R.mC 0 (by decide))))) qb_nil)
      (qb_cn (qs_if (qt_cmpR op_eq (qv 0) qe_int (nomark _)) (qb_one (qs_raise raises_cx rfl (qe_exc0 (R.pl 1 (by decide) rfl) (R.kp 1 (by decide)) (R.mC 1 (by decide))))) qb_nil)
      (qb_cn (qs_if (qt_cmpR op_eq (qv 0) qe_int (nomark _)) (qb_one (qs_raise raises_cx rfl (qe_exc0 (R.pl 2 (by decide) rfl) (R.kp 2 (by decide)) (R.mC 2 (by decide))))) qb_nil)
      (qb_cn (qs_if (qt_cmpR op_eq (qv 0) qe_int (nomark _)) (qb_one (qs_raise raises_cx rfl (qe_exc0 (R.pl 3 (by decide) rfl) (R.kp 3 (by decide)) (R.mC 3 (by decide))))) qb_nil)
      (qb_cn (qs_if (qt_cmpR op_eq (qv 0) qe_int (nomark _)) (qb_one (qs_raise raises_cx rfl (qe_excI q4 h4 F4 (hr.mono (by decide)) b4 (R.kp 4 (by decide)) (R.mC 4 (by decide)) (qa_cn (qv 2) qa_nil)))) qb_nil)
      (qb_cn (qs_if (qt_cmpR op_eq (qv 0) qe_int (nomark _)) (qb_one (qs_raise raises_cx rfl (qe_excI q5 h5 F5 (hr.mono (by decide)) b5 (R.kp 5 (by decide)) (R.mC 5 (by decide)) (qa_cn (qv 1) qa_nil)))) qb_nil)
      (qb_cn (qs_if (qt_cmpR op_eq (qv 0) qe_int (nomark _)) (qb_one (qs_raise raises_cx rfl (qe_excI q6 h6 F6 (hr.mono (by decide)) b6 (R.kp 6 (by decide)) (R.mC 6 (by decide)) (qa_cn (qv 1) qa_nil)))) qb_nil)
      (qb_cn (qs_if (qt_cmpR op_eq (qv 0) qe_int (nomark _)) (qb_one (qs_raise raises_cx rfl (qe_excI q7 h7 F7 (hr.mono (by decide)) b7 (R.kp 7 (by decide)) (R.mC 7 (by decide)) (qa_cn (qv 1) qa_nil)))) qb_nil)
      (qb_cn (qs_if (qt_cmpR op_eq (qv 0) qe_int (nomark _)) (qb_one (qs_raise raises_cx rfl (qe_excI q8 h8 F8 (hr.mono (by decide)) b8 (R.kp 8 (by decide)) (R.mC 8 (by decide)) (qa_cn (qv 2) qa_nil)))) qb_nil)
      (qb_cn (qs_if (qt_cmpR op_eq (qv 0) qe_int (nomark _)) (qb_one (qs_raise raises_cx rfl (qe_exc0 (R.pl 9 (by decide) rfl) (R.kp 9 (by decide)) (R.mC 9 (by decide))))) qb_nil)
      (qb_cn (qs_if (qt_cmpR op_eq (qv 0) qe_int (nomark _)) (qb_one (qs_raise raises_cx rfl (qe_exc0 (R.pl 10 (by decide) rfl) (R.kp 10 (by decide)) (R.mC 10 (by decide))))) qb_nil)
      (qb_cn (qs_if (qt_cmpR op_eq (qv 0) qe_int (nomark _)) (qb_one (qs_raise raises_cx rfl (qe_excI q11 h11 F11 (hr.mono (by decide)) b11 (R.kp 11 (by decide)) (R.mC 11 (by decide)) (qa_cn (qv 2) qa_nil)))) qb_nil)
      (qb_cn (qs_if (qt_cmpR op_eq (qv 0) qe_int (nomark _)) (qb_one (qs_raise raises_cx rfl (qe_exc0 (R.pl 12 (by decide) rfl) (R.kp 12 (by decide)) (R.mC 12 (by decide))))) qb_nil)
      (qb_cn (qs_if (qt_cmpR op_eq (qv 0) qe_int (nomark _)) (qb_one (qs_raise raises_cx rfl (qe_exc0 (R.pl 13 (by decide) rfl) (R.kp 13 (by decide)) (R.mC 13 (by decide))))) qb_nil)
      (qb_one (qs_raise raises_cx rfl (qe_excI q14 h14 F14 (hr.mono (by decide)) b14 (R.kp 14 (by decide)) (R.mC 14 (by decide)) (qa_cn (qv 2) qa_nil))))))))))))))))))
    (with_reducible refine ⟨_, hqq.p, ?_⟩)
    refine ⟨_, rfl, rfl, _, rfl, ite2 (fun e => ?_) (fun n0 => ?_)⟩
    · obtain rfl : k = 0 := by have z := of_decide_eq_true e; injection z with z; omega
      exact raise0 (R.ok 0 hk) (fun H' sm => kE none H' rfl sm)
    have m0 : k ≠ 0 := fun z => n0 (by rw [z]; rfl)
    refine ⟨_, rfl, rfl, _, rfl, ite2 (fun e => ?_) (fun n1 => ?_)⟩
    · obtain rfl : k = 1 := by have z := of_decide_eq_true e; injection z with z; omega
      exact raise0 (R.ok 1 hk) (fun H' sm => kE none H' rfl sm)
    have m1 : k ≠ 1 := fun z => n1 (by rw [z]; rfl)
    refine ⟨_, rfl, rfl, _, rfl, ite2 (fun e => ?_) (fun n2 => ?_)⟩
    · obtain rfl : k = 2 := by have z := of_decide_eq_true e; injection z with z; omega
      exact raise0 (R.ok 2 hk) (fun H' sm => kE none H' rfl sm)
    have m2 : k ≠ 2 := fun z => n2 (by rw [z]; rfl)
    refine ⟨_, rfl, rfl, _, rfl, ite2 (fun e => ?_) (fun n3 => ?_)⟩
    · obtain rfl : k = 3 := by have z := of_decide_eq_true e; injection z with z; omega
      exact raise0 (R.ok 3 hk) (fun H' sm => kE none H' rfl sm)
    have m3 : k ≠ 3 := fun z => n3 (by rw [z]; rfl)
    refine ⟨_, rfl, rfl, _, rfl, ite2 (fun e => ?_) (fun n4 => ?_)⟩
    · obtain rfl : k = 4 := by have z := of_decide_eq_true e; injection z with z; omega
      exact raiseI (R.ok 4 hk) (R.na 4 hk _ rfl) (fun Q h => ⟨_, rfl, h⟩) (fun d H' hd sm => kE (some d) H' ⟨d, rfl, hd⟩ sm)
    have m4 : k ≠ 4 := fun z => n4 (by rw [z]; rfl)
    refine ⟨_, rfl, rfl, _, rfl, ite2 (fun e => ?_) (fun n5 => ?_)⟩
    · obtain rfl : k = 5 := by have z := of_decide_eq_true e; injection z with z; omega
      exact raiseI (R.ok 5 hk) (R.na 5 hk _ rfl) (fun Q h => ⟨_, rfl, h⟩) (fun d H' hd sm => kE (some d) H' ⟨d, rfl, hd⟩ sm)
    have m5 : k ≠ 5 := fun z => n5 (by rw [z]; rfl)
    refine ⟨_, rfl, rfl, _, rfl, ite2 (fun e => ?_) (fun n6 => ?_)⟩
    · obtain rfl : k = 6 := by have z := of_decide_eq_true e; injection z with z; omega
      exact raiseI (R.ok 6 hk) (R.na 6 hk _ rfl) (fun Q h => ⟨_, rfl, h⟩) (fun d H' hd sm => kE (some d) H' ⟨d, rfl, hd⟩ sm)
    have m6 : k ≠ 6 := fun z => n6 (by rw [z]; rfl)
    refine ⟨_, rfl, rfl, _, rfl, ite2 (fun e => ?_) (fun n7 => ?_)⟩
    · obtain rfl : k = 7 := by have z := of_decide_eq_true e; injection z with z; omega
      exact raiseI (R.ok 7 hk) (R.na 7 hk _ rfl) (fun Q h => ⟨_, rfl, h⟩) (fun d H' hd sm => kE (some d) H' ⟨d, rfl, hd⟩ sm)
    have m7 : k ≠ 7 := fun z => n7 (by rw [z]; rfl)
    refine ⟨_, rfl, rfl, _, rfl, ite2 (fun e => ?_) (fun n8 => ?_)⟩
    · obtain rfl : k = 8 := by have z := of_decide_eq_true e; injection z with z; omega
      exact raiseI (R.ok 8 hk) (R.na 8 hk _ rfl) (fun Q h => ⟨_, rfl, h⟩) (fun d H' hd sm => kE (some d) H' ⟨d, rfl, hd⟩ sm)
    have m8 : k ≠ 8 := fun z => n8 (by rw [z]; rfl)
    refine ⟨_, rfl, rfl, _, rfl, ite2 (fun e => ?_) (fun n9 => ?_)⟩
    · obtain rfl : k = 9 := by have z := of_decide_eq_true e; injection z with z; omega
      exact raise0 (R.ok 9 hk) (fun H' sm => kE none H' rfl sm)
    have m9 : k ≠ 9 := fun z => n9 (by rw [z]; rfl)
    refine ⟨_, rfl, rfl, _, rfl, ite2 (fun e => ?_) (fun n10 => ?_)⟩
    · obtain rfl : k = 10 := by have z := of_decide_eq_true e; injection z with z; omega
      exact raise0 (R.ok 10 hk) (fun H' sm => kE none H' rfl sm)
    have m10 : k ≠ 10 := fun z => n10 (by rw [z]; rfl)
    refine ⟨_, rfl, rfl, _, rfl, ite2 (fun e => ?_) (fun n11 => ?_)⟩
    · obtain rfl : k = 11 := by have z := of_decide_eq_true e; injection z with z; omega
      exact raiseI (R.ok 11 hk) (R.na 11 hk _ rfl) (fun Q h => ⟨_, rfl, h⟩) (fun d H' hd sm => kE (some d) H' ⟨d, rfl, hd⟩ sm)
    have m11 : k ≠ 11 := fun z => n11 (by rw [z]; rfl)
    refine ⟨_, rfl, rfl, _, rfl, ite2 (fun e => ?_) (fun n12 => ?_)⟩
    · obtain rfl : k = 12 := by have z := of_decide_eq_true e; injection z with z; omega
      exact raise0 (R.ok 12 hk) (fun H' sm => kE none H' rfl sm)
    have m12 : k ≠ 12 := fun z => n12 (by rw [z]; rfl)
    refine ⟨_, rfl, rfl, _, rfl, ite2 (fun e => ?_) (fun n13 => ?_)⟩
    · obtain rfl : k = 13 := by have z := of_decide_eq_true e; injection z with z; omega
      exact raise0 (R.ok 13 hk) (fun H' sm => kE none H' rfl sm)
    have m13 : k ≠ 13 := fun z => n13 (by rw [z]; rfl)
    obtain rfl : k = 14 := by omega
    have q := raiseI (K := K) (E := E) (D := { nx := fun _ _ => False, rt := Q }) (σ := start ["_law_k", "_law_word", "_law_number"] [.int ((14 : Nat) : Int), .str word, .int num]) (H := H) (C := c 14) (fld := "wanted") (t := tCons (tVar 2) tNil) (v := .int num) (R.ok 14 hk) (R.na 14 hk _ rfl) (fun Q h => ⟨_, rfl, h⟩) (fun d H' hd sm => kE (some d) H' ⟨d, rfl, hd⟩ sm)
    exact q
end
end K19

end
section
set_option Elab.async false
set_option linter.all false
set_option maxRecDepth 100000
set_option maxHeartbeats 4000000
namespace K19
open PySem L2 PyProof.Rows
abbrev s_kinds : Stmt := top 23
theorem sc_kinds : FnScope ["_law_k", "_law_word", "_law_number", "e", "_law_first"] ["_law_k", "_law_word", "_law_number"] (defScope s_kinds) := ⟨rfl, rfl, rfl, by decide +kernel, rfl, by decide +kernel, by decide +kernel⟩

/-- what was tracked stays, exceptions aside -/
def SameB (H H' : Hp) : Prop := ∀ b o, H b = some o → (∀ φ, o ≠ .ext φ) → H' b = some o
theorem SameB.of {H H' : Hp} (s : Same H H') : SameB H H' := fun b o e _ => s b o e
theorem SameB.trans {H H1 H2 : Hp} (a : SameB H H1) (b : SameB H1 H2) : SameB H H2 := fun c o e n => b c o (a c o e n) n
theorem SameB.new {H : Hp} {D : Addr} (o : HO) (h : H D = none) : SameB H (upd H D o) := fun b u e _ => by rw [upd_ne (ne_of_none e h)]; exact e
theorem SameB.flown {H H' : Hp} {x C : Addr} {dx : Option Addr} {T : Addr} {tb : Option Addr} (fl : H x = some (hE x (.ref C) dx tb)) (f : Flown H H' x (.ref C) dx T) : SameB H H' := fun b o e n => f.keep e (fun z => by
  rw [z, fl] at e
  cases e
  exact n _ rfl)
theorem Hand.sameB {H H' : Hp} {p c : Addr} (h : Hand H p c) (k : SameB H H') : Hand H' p c := by
  obtain ⟨d, n, cs, hp, hc, h0⟩ := h
  exact ⟨d, n, cs, k _ _ hp (fun _ z => nomatch z), k _ _ hc (fun _ z => nomatch z), h0⟩
def kindsL (k : Nat) : List V := [.bl (decide (k = 0)), .bl (decide (k = 1)), .bl (decide (k = 2)), .bl (decide (k = 3)), .bl (decide (k = 4)), .bl (decide (k = 5)), .bl (decide (k = 6)), .bl (decide (k = 7)), .bl (decide (k = 8)), .bl (decide (k = 9)), .bl (decide (k = 10)), .bl (decide (k = 11)), .bl (decide (k = 12)), .bl (decide (k = 13)), .bl (decide (k = 14)), .bl true]
def spKinds : Sp := fun vs H Q _ => ∃ (k : Nat) (word : Str) (num : Int), vs = [.int k, .str word, .int num] ∧ k < 15 ∧ ∀ D H', H' D = some (.lst (kindsL k)) → SameB H H' → Q (.ref D) H'
section
variable {P : Program} {w : World} {K : PySem.W.Frag} {mg : Str → Option Value} {base : Heap}
theorem XD.dict {H : Hp} {dx : Option Addr} {k : Nat} {word : Str} {num : Int} (h : XD H dx k word num) : XDict H dx := by
  unfold XD at h
  split at h
  · rw [h]; trivial
  · obtain ⟨d, rfl, hd⟩ := h
    exact ⟨_, hd⟩
theorem XDict.keep {H H' : Hp} {dx : Option Addr} (h : XDict H dx) (s : ∀ d fs, dx = some d → H d = some (.xd fs) → H' d = some (.xd fs)) : XDict H' dx := by
  cases dx with
  | none => trivial
  | some d => obtain ⟨fs, e⟩ := h; exact ⟨fs, s d fs rfl e⟩
theorem ok_kinds {f : Addr} {fd : FuncData} {c : Nat → Addr} {W : Addr} (L : Lk K mg "_law_kinds" s_kinds ["_law_k", "_law_word", "_law_number"] f fd) (T : Txt mg) (R : RX K mg c W) (C__law_raised : CalleeX P w K mg base "_law_raised" ["_law_k", "_law_word", "_law_number"] 3 (spRaised c)) :
    Callee P w K mg base "_law_kinds" ["_law_k", "_law_word", "_law_number"] 4 spKinds := by
  refine L.callee (L.F.ok sc_kinds (fun vs H Q E h => ?_) (fun cdv A outer s H vs Q E hr h => ?_))
  · obtain ⟨k, word, num, rfl, _⟩ := h
    rfl
  · obtain ⟨k, word, num, rfl, hk, kq⟩ := h
    have hqq : QB ((cxOf CX0 P w K mg base ["_law_k", "_law_word", "_law_number", "e", "_law_first"] "_law_kinds" (defScope s_kinds) f cdv A outer s H E).nox) (defBody s_kinds) _ := (qb_cn (qs_try rfl rfl (qx_expr (qxe_callee C__law_raised (hr.mono (by first | decide | omega)) (by rfl) (qa_cn (qv 0) (qa_cn (qv 1) (qa_cn (qv 2) qa_nil))))) (qh_as (i := 3) R.mW sc_kinds.nd (fun _ => (qb_cn (qs_set (i := 4) sc_kinds.nd rfl (Or.inl rfl) (qe_lst (qa_cn (qe_callB (call_isinstXK K rfl) (by rfl) T.isinstance boot_isinstance (qa_cn (qv 3) (qa_cn (qe_glob (v := .ref (c 0)) (by rfl) (R.mC 0 (by decide)) rfl) qa_nil))) (qa_cn (qe_callB (call_isinstXK K rfl) (by rfl) T.isinstance boot_isinstance (qa_cn (qv 3) (qa_cn (qe_glob (v := .ref (c 1)) (by rfl) (R.mC 1 (by decide)) rfl) qa_nil))) (qa_cn (qe_callB (call_isinstXK K rfl) (by rfl) T.isinstance boot_isinstance (qa_cn (qv 3) (qa_cn (qe_glob (v := .ref (c 2)) (by rfl) (R.mC 2 (by decide)) rfl) qa_nil))) (qa_cn (qe_callB (call_isinstXK K rfl) (by rfl) T.isinstance boot_isinstance (qa_cn (qv 3) (qa_cn (qe_glob (v := .ref (c 3)) (by rfl) (R.mC 3 (by decide)) rfl) qa_nil))) qa_nil))))))
      (qb_cn (qs_set (i := 4) sc_kinds.nd rfl (Or.inl rfl) (qe_op op_cat (qv 4) (qe_lst (qa_cn (qe_callB (call_isinstXK K rfl) (by rfl) T.isinstance boot_isinstance (qa_cn (qv 3) (qa_cn (qe_glob (v := .ref (c 4)) (by rfl) (R.mC 4 (by decide)) rfl) qa_nil))) (qa_cn (qe_callB (call_isinstXK K rfl) (by rfl) T.isinstance boot_isinstance (qa_cn (qv 3) (qa_cn (qe_glob (v := .ref (c 5)) (by rfl) (R.mC 5 (by decide)) rfl) qa_nil))) (qa_cn (qe_callB (call_isinstXK K rfl) (by rfl) T.isinstance boot_isinstance (qa_cn (qv 3) (qa_cn (qe_glob (v := .ref (c 6)) (by rfl) (R.mC 6 (by decide)) rfl) qa_nil))) (qa_cn (qe_callB (call_isinstXK K rfl) (by rfl) T.isinstance boot_isinstance (qa_cn (qv 3) (qa_cn (qe_glob (v := .ref (c 7)) (by rfl) (R.mC 7 (by decide)) rfl) qa_nil))) qa_nil)))))))
      (qb_cn (qs_set (i := 4) sc_kinds.nd rfl (Or.inl rfl) (qe_op op_cat (qv 4) (qe_lst (qa_cn (qe_callB (call_isinstXK K rfl) (by rfl) T.isinstance boot_isinstance (qa_cn (qv 3) (qa_cn (qe_glob (v := .ref (c 8)) (by rfl) (R.mC 8 (by decide)) rfl) qa_nil))) (qa_cn (qe_callB (call_isinstXK K rfl) (by rfl) T.isinstance boot_isinstance (qa_cn (qv 3) (qa_cn (qe_glob (v := .ref (c 9)) (by rfl) (R.mC 9 (by decide)) rfl) qa_nil))) (qa_cn (qe_callB (call_isinstXK K rfl) (by rfl) T.isinstance boot_isinstance (qa_cn (qv 3) (qa_cn (qe_glob (v := .ref (c 10)) (by rfl) (R.mC 10 (by decide)) rfl) qa_nil))) (qa_cn (qe_callB (call_isinstXK K rfl) (by rfl) T.isinstance boot_isinstance (qa_cn (qv 3) (qa_cn (qe_glob (v := .ref (c 11)) (by rfl) (R.mC 11 (by decide)) rfl) qa_nil))) qa_nil)))))))
      (qb_cn (qs_set (i := 4) sc_kinds.nd rfl (Or.inl rfl) (qe_op op_cat (qv 4) (qe_lst (qa_cn (qe_callB (call_isinstXK K rfl) (by rfl) T.isinstance boot_isinstance (qa_cn (qv 3) (qa_cn (qe_glob (v := .ref (c 12)) (by rfl) (R.mC 12 (by decide)) rfl) qa_nil))) (qa_cn (qe_callB (call_isinstXK K rfl) (by rfl) T.isinstance boot_isinstance (qa_cn (qv 3) (qa_cn (qe_glob (v := .ref (c 13)) (by rfl) (R.mC 13 (by decide)) rfl) qa_nil))) (qa_cn (qe_callB (call_isinstXK K rfl) (by rfl) T.isinstance boot_isinstance (qa_cn (qv 3) (qa_cn (qe_glob (v := .ref (c 14)) (by rfl) (R.mC 14 (by decide)) rfl) qa_nil))) qa_nil))))))
      (qb_one (qs_ret (qe_op op_cat (qv 4) (qe_lst (qa_cn (qe_callB (call_isinstXK K rfl) (by rfl) T.isinstance boot_isinstance (qa_cn (qv 3) (qa_cn (qe_bltn (v := .ty "ValueError") (by rfl) T.ValueError PyProof.Rows.Boot.«ValueError» rfl) qa_nil))) qa_nil)))))))))) qh_nil))
      (qb_one (qs_ret (qe_lst qa_nil))))
    (with_reducible refine ⟨_, hqq.p, ?_⟩)
    refine ⟨_, rfl, _, rfl, _, rfl, k, word, num, rfl, hk, fun dx H1 xd s1 => ⟨c k, rfl, fun x T' fl T2 H2 fn => ⟨true, R.exW k hk, ?_⟩⟩⟩
    rw [if_pos rfl]
    have hx : H2 x = some (hE x (.ref (c k)) dx (some T2)) := fn.ex
    have hd : XDict H2 dx := XDict.keep xd.dict fun d fs _ e => fn.keep e (ne_of e fl.ex (fun z => nomatch z))
    have s2 : SameB H H2 := (SameB.of s1).trans (SameB.flown fl.ex fn)
    refine ⟨_, rfl, x, c k, dx, some T2, .ref (c 0), .ref (c 0), _, rfl, rfl, hx, hd, R.ok k hk, R.iso k 0 hk (by decide), _, rfl, x, c k, dx, some T2, .ref (c 1), .ref (c 1), _, rfl, rfl, hx, hd, R.ok k hk, R.iso k 1 hk (by decide), _, rfl, x, c k, dx, some T2, .ref (c 2), .ref (c 2), _, rfl, rfl, hx, hd, R.ok k hk, R.iso k 2 hk (by decide), _, rfl, x, c k, dx, some T2, .ref (c 3), .ref (c 3), _, rfl, rfl, hx, hd, R.ok k hk, R.iso k 3 hk (by decide), (by show 4 ≤ sizeLine; decide), fun D1 n1 => ?_⟩
    generalize e3 : upd H2 D1 _ = H3
    have k3 : ∀ b o, H2 b = some o → H3 b = some o := fun b o e => by rw [← e3, upd_ne (ne_of_none e n1)]; exact e
    have f3 : H3 D1 = some (.lst [.bl (decide (k = 0)), .bl (decide (k = 1)), .bl (decide (k = 2)), .bl (decide (k = 3))]) := by rw [← e3]; exact upd_same
    have hx3 := k3 _ _ hx
    have hd3 : XDict H3 dx := XDict.keep hd fun d fs _ e => k3 _ _ e
    have s3 : SameB H H3 := s2.trans (fun b o e _ => k3 b o e)
    refine ⟨_, rfl, _, rfl, x, c k, dx, some T2, .ref (c 4), .ref (c 4), _, rfl, rfl, hx3, hd3, R.ok k hk, R.iso k 4 hk (by decide), _, rfl, x, c k, dx, some T2, .ref (c 5), .ref (c 5), _, rfl, rfl, hx3, hd3, R.ok k hk, R.iso k 5 hk (by decide), _, rfl, x, c k, dx, some T2, .ref (c 6), .ref (c 6), _, rfl, rfl, hx3, hd3, R.ok k hk, R.iso k 6 hk (by decide), _, rfl, x, c k, dx, some T2, .ref (c 7), .ref (c 7), _, rfl, rfl, hx3, hd3, R.ok k hk, R.iso k 7 hk (by decide), (by show 4 ≤ sizeLine; decide), fun E3 m3 => ?_⟩
    have g3 : (upd H3 E3 (.lst [.bl (decide (k = 4)), .bl (decide (k = 5)), .bl (decide (k = 6)), .bl (decide (k = 7))])) D1 = some (.lst [.bl (decide (k = 0)), .bl (decide (k = 1)), .bl (decide (k = 2)), .bl (decide (k = 3))]) := by rw [upd_ne (ne_of_none f3 m3)]; exact f3
    refine ⟨D1, E3, _, _, rfl, rfl, g3, upd_same, (by show 4 + 4 ≤ sizeLine; decide), fun D4 n4 => ?_⟩
    generalize e4 : upd (upd H3 E3 (.lst [.bl (decide (k = 4)), .bl (decide (k = 5)), .bl (decide (k = 6)), .bl (decide (k = 7))])) D4 _ = H4
    have k4 : ∀ b o, H3 b = some o → H4 b = some o := fun b o e => by
      have z : (upd H3 E3 (.lst [.bl (decide (k = 4)), .bl (decide (k = 5)), .bl (decide (k = 6)), .bl (decide (k = 7))])) b = some o := by rw [upd_ne (ne_of_none e m3)]; exact e
      rw [← e4, upd_ne (ne_of_none z n4)]; exact z
    have f4 : H4 D4 = some (.lst [.bl (decide (k = 0)), .bl (decide (k = 1)), .bl (decide (k = 2)), .bl (decide (k = 3)), .bl (decide (k = 4)), .bl (decide (k = 5)), .bl (decide (k = 6)), .bl (decide (k = 7))]) := by rw [← e4]; exact upd_same
    have hx4 := k4 _ _ hx3
    have hd4 : XDict H4 dx := XDict.keep hd3 fun d fs _ e => k4 _ _ e
    have s4 : SameB H H4 := s3.trans (fun b o e _ => k4 b o e)
    refine ⟨_, rfl, _, rfl, x, c k, dx, some T2, .ref (c 8), .ref (c 8), _, rfl, rfl, hx4, hd4, R.ok k hk, R.iso k 8 hk (by decide), _, rfl, x, c k, dx, some T2, .ref (c 9), .ref (c 9), _, rfl, rfl, hx4, hd4, R.ok k hk, R.iso k 9 hk (by decide), _, rfl, x, c k, dx, some T2, .ref (c 10), .ref (c 10), _, rfl, rfl, hx4, hd4, R.ok k hk, R.iso k 10 hk (by decide), _, rfl, x, c k, dx, some T2, .ref (c 11), .ref (c 11), _, rfl, rfl, hx4, hd4, R.ok k hk, R.iso k 11 hk (by decide), (by show 4 ≤ sizeLine; decide), fun E4 m4 => ?_⟩
    have g4 : (upd H4 E4 (.lst [.bl (decide (k = 8)), .bl (decide (k = 9)), .bl (decide (k = 10)), .bl (decide (k = 11))])) D4 = some (.lst [.bl (decide (k = 0)), .bl (decide (k = 1)), .bl (decide (k = 2)), .bl (decide (k = 3)), .bl (decide (k = 4)), .bl (decide (k = 5)), .bl (decide (k = 6)), .bl (decide (k = 7))]) := by rw [upd_ne (ne_of_none f4 m4)]; exact f4
    refine ⟨D4, E4, _, _, rfl, rfl, g4, upd_same, (by show 8 + 4 ≤ sizeLine; decide), fun D5 n5 => ?_⟩
    generalize e5 : upd (upd H4 E4 (.lst [.bl (decide (k = 8)), .bl (decide (k = 9)), .bl (decide (k = 10)), .bl (decide (k = 11))])) D5 _ = H5
    have k5 : ∀ b o, H4 b = some o → H5 b = some o := fun b o e => by
      have z : (upd H4 E4 (.lst [.bl (decide (k = 8)), .bl (decide (k = 9)), .bl (decide (k = 10)), .bl (decide (k = 11))])) b = some o := by rw [upd_ne (ne_of_none e m4)]; exact e
      rw [← e5, upd_ne (ne_of_none z n5)]; exact z
    have f5 : H5 D5 = some (.lst [.bl (decide (k = 0)), .bl (decide (k = 1)), .bl (decide (k = 2)), .bl (decide (k = 3)), .bl (decide (k = 4)), .bl (decide (k = 5)), .bl (decide (k = 6)), .bl (decide (k = 7)), .bl (decide (k = 8)), .bl (decide (k = 9)), .bl (decide (k = 10)), .bl (decide (k = 11))]) := by rw [← e5]; exact upd_same
    have hx5 := k5 _ _ hx4
    have hd5 : XDict H5 dx := XDict.keep hd4 fun d fs _ e => k5 _ _ e
    have s5 : SameB H H5 := s4.trans (fun b o e _ => k5 b o e)
    refine ⟨_, rfl, _, rfl, x, c k, dx, some T2, .ref (c 12), .ref (c 12), _, rfl, rfl, hx5, hd5, R.ok k hk, R.iso k 12 hk (by decide), _, rfl, x, c k, dx, some T2, .ref (c 13), .ref (c 13), _, rfl, rfl, hx5, hd5, R.ok k hk, R.iso k 13 hk (by decide), _, rfl, x, c k, dx, some T2, .ref (c 14), .ref (c 14), _, rfl, rfl, hx5, hd5, R.ok k hk, R.iso k 14 hk (by decide), (by show 3 ≤ sizeLine; decide), fun E5 m5 => ?_⟩
    have g5 : (upd H5 E5 (.lst [.bl (decide (k = 12)), .bl (decide (k = 13)), .bl (decide (k = 14))])) D5 = some (.lst [.bl (decide (k = 0)), .bl (decide (k = 1)), .bl (decide (k = 2)), .bl (decide (k = 3)), .bl (decide (k = 4)), .bl (decide (k = 5)), .bl (decide (k = 6)), .bl (decide (k = 7)), .bl (decide (k = 8)), .bl (decide (k = 9)), .bl (decide (k = 10)), .bl (decide (k = 11))]) := by rw [upd_ne (ne_of_none f5 m5)]; exact f5
    refine ⟨D5, E5, _, _, rfl, rfl, g5, upd_same, (by show 12 + 3 ≤ sizeLine; decide), fun D6 n6 => ?_⟩
    generalize e6 : upd (upd H5 E5 (.lst [.bl (decide (k = 12)), .bl (decide (k = 13)), .bl (decide (k = 14))])) D6 _ = H6
    have k6 : ∀ b o, H5 b = some o → H6 b = some o := fun b o e => by
      have z : (upd H5 E5 (.lst [.bl (decide (k = 12)), .bl (decide (k = 13)), .bl (decide (k = 14))])) b = some o := by rw [upd_ne (ne_of_none e m5)]; exact e
      rw [← e6, upd_ne (ne_of_none z n6)]; exact z
    have f6 : H6 D6 = some (.lst [.bl (decide (k = 0)), .bl (decide (k = 1)), .bl (decide (k = 2)), .bl (decide (k = 3)), .bl (decide (k = 4)), .bl (decide (k = 5)), .bl (decide (k = 6)), .bl (decide (k = 7)), .bl (decide (k = 8)), .bl (decide (k = 9)), .bl (decide (k = 10)), .bl (decide (k = 11)), .bl (decide (k = 12)), .bl (decide (k = 13)), .bl (decide (k = 14))]) := by rw [← e6]; exact upd_same
    have hx6 := k6 _ _ hx5
    have hd6 : XDict H6 dx := XDict.keep hd5 fun d fs _ e => k6 _ _ e
    have s6 : SameB H H6 := s5.trans (fun b o e _ => k6 b o e)
    refine ⟨_, rfl, _, rfl, x, c k, dx, some T2, .ty "ValueError", .type "ValueError", _, rfl, rfl, hx6, hd6, R.ok k hk, R.val k hk, (by show 1 ≤ sizeLine; decide), fun E6 m6 => ?_⟩
    have g6 : (upd H6 E6 (.lst [.bl true])) D6 = some (.lst [.bl (decide (k = 0)), .bl (decide (k = 1)), .bl (decide (k = 2)), .bl (decide (k = 3)), .bl (decide (k = 4)), .bl (decide (k = 5)), .bl (decide (k = 6)), .bl (decide (k = 7)), .bl (decide (k = 8)), .bl (decide (k = 9)), .bl (decide (k = 10)), .bl (decide (k = 11)), .bl (decide (k = 12)), .bl (decide (k = 13)), .bl (decide (k = 14))]) := by rw [upd_ne (ne_of_none f6 m6)]; exact f6
    refine ⟨D6, E6, _, _, rfl, rfl, g6, upd_same, (by show 15 + 1 ≤ sizeLine; decide), fun D7 n7 => ?_⟩
    refine kq D7 _ upd_same (s6.trans fun b o e _ => ?_)
    have z : (upd H6 E6 (.lst [.bl true])) b = some o := by rw [upd_ne (ne_of_none e m6)]; exact e
    rw [upd_ne (ne_of_none z n7)]; exact z
end
end K19

end
section
set_option Elab.async false
set_option linter.all false
set_option maxRecDepth 100000
set_option maxHeartbeats 4000000
namespace K19
open PySem L2 PyProof.Rows
abbrev s_at : Stmt := top 24
theorem sc_at : FnScope ["_law_k", "_law_number", "e"] ["_law_k", "_law_number"] (defScope s_at) := ⟨rfl, rfl, rfl, by decide +kernel, rfl, by decide +kernel, by decide +kernel⟩
abbrev s_wanted : Stmt := top 25
theorem sc_wanted : FnScope ["_law_k", "_law_number", "e"] ["_law_k", "_law_number"] (defScope s_wanted) := ⟨rfl, rfl, rfl, by decide +kernel, rfl, by decide +kernel, by decide +kernel⟩
abbrev s_name : Stmt := top 26
theorem sc_name : FnScope ["_law_k", "_law_word", "e"] ["_law_k", "_law_word"] (defScope s_name) := ⟨rfl, rfl, rfl, by decide +kernel, rfl, by decide +kernel, by decide +kernel⟩
abbrev s_is : Stmt := top 27
theorem sc_is : FnScope ["_law_found", "_law_due"] ["_law_found", "_law_due"] (defScope s_is) := ⟨rfl, rfl, rfl, by decide +kernel, rfl, by decide +kernel, by decide +kernel⟩

def spAt : Sp := fun vs H Q _ => ∃ (k : Nat) (num : Int), vs = [.int k, .int num] ∧ (k = 4 ∨ k = 11) ∧ ∀ D H', H' D = some (.lst [.int num]) → SameB H H' → Q (.ref D) H'
def spWanted : Sp := fun vs H Q _ => ∃ (k : Nat) (num : Int), vs = [.int k, .int num] ∧ (k = 8 ∨ k = 14) ∧ ∀ D H', H' D = some (.lst [.int num]) → SameB H H' → Q (.ref D) H'
def spName : Sp := fun vs H Q _ => ∃ (k : Nat) (word : Str), vs = [.int k, .str word] ∧ (k = 5 ∨ k = 6 ∨ k = 7) ∧ ∀ D H', H' D = some (.lst [.str word]) → SameB H H' → Q (.ref D) H'
def spIs : Sp := fun vs H Q _ => ∃ v : V, vs = [v, v] ∧ ((∃ i, v = .int i) ∨ ∃ z, v = .str z) ∧ Q (.bl true) H
section
variable {P : Program} {w : World} {K : PySem.W.Frag} {mg : Str → Option Value} {base : Heap}
theorem ok_at {f : Addr} {fd : FuncData} {c : Nat → Addr} {W : Addr} (L : Lk K mg "_law_at" s_at ["_law_k", "_law_number"] f fd) (R : RX K mg c W) (C__law_raised : CalleeX P w K mg base "_law_raised" ["_law_k", "_law_word", "_law_number"] 3 (spRaised c)) :
    Callee P w K mg base "_law_at" ["_law_k", "_law_number"] 4 spAt := by
  refine L.callee (L.F.ok sc_at (fun vs H Q E h => ?_) (fun cdv A outer s H vs Q E hr h => ?_))
  · obtain ⟨k, num, rfl, _⟩ := h
    rfl
  · obtain ⟨k, num, rfl, hk, kq⟩ := h
    have hqq : QB ((cxOf CX0 P w K mg base ["_law_k", "_law_number", "e"] "_law_at" (defScope s_at) f cdv A outer s H E).nox) (defBody s_at) _ := (qb_cn (qs_try rfl rfl (qx_expr (qxe_callee C__law_raised (hr.mono (by first | decide | omega)) (by rfl) (qa_cn (qv 0) (qa_cn qe_str (qa_cn (qv 1) qa_nil))))) (qh_as (i := 2) (R.mC 4 (by decide)) sc_at.nd (fun _ => (qb_one (qs_ret (qe_lst (qa_cn (qe_fldXK K rfl (qv 2)) qa_nil))))) (qh_as (i := 2) (R.mC 11 (by decide)) sc_at.nd (fun _ => (qb_one (qs_ret (qe_lst (qa_cn (qe_fldXK K rfl (qv 2)) qa_nil))))) qh_nil)))
      (qb_one (qs_ret (qe_lst qa_nil))))
    (with_reducible refine ⟨_, hqq.p, ?_⟩)
    refine ⟨_, rfl, _, rfl, k, "", num, rfl, by omega, fun dx H1 xd s1 => ⟨c k, rfl, fun x T' fl T2 H2 fn => ?_⟩⟩
    have s2 : SameB H H2 := (SameB.of s1).trans (SameB.flown fl.ex fn)
    rcases hk with rfl | rfl
    · obtain ⟨d, rfl, hd1⟩ := (show ∃ d, dx = some d ∧ H1 d = some (.xd [("at", V.int num)]) from xd)
      have hd : H2 d = some (.xd [("at", V.int num)]) := fn.keep hd1 (ne_of hd1 fl.ex (fun z => nomatch z))
      refine ⟨_, R.ex 4 4 (by decide) (by decide), ?_⟩
      rw [if_pos (by decide)]
      refine ⟨_, rfl, x, c 4, d, some T2, _, _, rfl, fn.ex, hd, R.ok 4 (by decide), R.na 4 (by decide) _ rfl, rfl, (by show 1 ≤ sizeLine; decide), fun D n => kq D _ upd_same (s2.trans (SameB.new _ n))⟩
    · obtain ⟨d, rfl, hd1⟩ := (show ∃ d, dx = some d ∧ H1 d = some (.xd [("at", V.int num)]) from xd)
      have hd : H2 d = some (.xd [("at", V.int num)]) := fn.keep hd1 (ne_of hd1 fl.ex (fun z => nomatch z))
      refine ⟨_, R.ex 11 4 (by decide) (by decide), ?_⟩
      rw [if_neg (by decide)]
      refine ⟨_, R.ex 11 11 (by decide) (by decide), ?_⟩
      rw [if_pos (by decide)]
      refine ⟨_, rfl, x, c 11, d, some T2, _, _, rfl, fn.ex, hd, R.ok 11 (by decide), R.na 11 (by decide) _ rfl, rfl, (by show 1 ≤ sizeLine; decide), fun D n => kq D _ upd_same (s2.trans (SameB.new _ n))⟩
theorem ok_wanted {f : Addr} {fd : FuncData} {c : Nat → Addr} {W : Addr} (L : Lk K mg "_law_wanted" s_wanted ["_law_k", "_law_number"] f fd) (R : RX K mg c W) (C__law_raised : CalleeX P w K mg base "_law_raised" ["_law_k", "_law_word", "_law_number"] 3 (spRaised c)) :
    Callee P w K mg base "_law_wanted" ["_law_k", "_law_number"] 4 spWanted := by
  refine L.callee (L.F.ok sc_wanted (fun vs H Q E h => ?_) (fun cdv A outer s H vs Q E hr h => ?_))
  · obtain ⟨k, num, rfl, _⟩ := h
    rfl
  · obtain ⟨k, num, rfl, hk, kq⟩ := h
    have hqq : QB ((cxOf CX0 P w K mg base ["_law_k", "_law_number", "e"] "_law_wanted" (defScope s_wanted) f cdv A outer s H E).nox) (defBody s_wanted) _ := (qb_cn (qs_try rfl rfl (qx_expr (qxe_callee C__law_raised (hr.mono (by first | decide | omega)) (by rfl) (qa_cn (qv 0) (qa_cn qe_str (qa_cn (qv 1) qa_nil))))) (qh_as (i := 2) (R.mC 8 (by decide)) sc_wanted.nd (fun _ => (qb_one (qs_ret (qe_lst (qa_cn (qe_fldXK K rfl (qv 2)) qa_nil))))) (qh_as (i := 2) (R.mC 14 (by decide)) sc_wanted.nd (fun _ => (qb_one (qs_ret (qe_lst (qa_cn (qe_fldXK K rfl (qv 2)) qa_nil))))) qh_nil)))
      (qb_one (qs_ret (qe_lst qa_nil))))
    (with_reducible refine ⟨_, hqq.p, ?_⟩)
    refine ⟨_, rfl, _, rfl, k, "", num, rfl, by omega, fun dx H1 xd s1 => ⟨c k, rfl, fun x T' fl T2 H2 fn => ?_⟩⟩
    have s2 : SameB H H2 := (SameB.of s1).trans (SameB.flown fl.ex fn)
    rcases hk with rfl | rfl
    · obtain ⟨d, rfl, hd1⟩ := (show ∃ d, dx = some d ∧ H1 d = some (.xd [("wanted", V.int num)]) from xd)
      have hd : H2 d = some (.xd [("wanted", V.int num)]) := fn.keep hd1 (ne_of hd1 fl.ex (fun z => nomatch z))
      refine ⟨_, R.ex 8 8 (by decide) (by decide), ?_⟩
      rw [if_pos (by decide)]
      refine ⟨_, rfl, x, c 8, d, some T2, _, _, rfl, fn.ex, hd, R.ok 8 (by decide), R.na 8 (by decide) _ rfl, rfl, (by show 1 ≤ sizeLine; decide), fun D n => kq D _ upd_same (s2.trans (SameB.new _ n))⟩
    · obtain ⟨d, rfl, hd1⟩ := (show ∃ d, dx = some d ∧ H1 d = some (.xd [("wanted", V.int num)]) from xd)
      have hd : H2 d = some (.xd [("wanted", V.int num)]) := fn.keep hd1 (ne_of hd1 fl.ex (fun z => nomatch z))
      refine ⟨_, R.ex 14 8 (by decide) (by decide), ?_⟩
      rw [if_neg (by decide)]
      refine ⟨_, R.ex 14 14 (by decide) (by decide), ?_⟩
      rw [if_pos (by decide)]
      refine ⟨_, rfl, x, c 14, d, some T2, _, _, rfl, fn.ex, hd, R.ok 14 (by decide), R.na 14 (by decide) _ rfl, rfl, (by show 1 ≤ sizeLine; decide), fun D n => kq D _ upd_same (s2.trans (SameB.new _ n))⟩
theorem ok_name {f : Addr} {fd : FuncData} {c : Nat → Addr} {W : Addr} (L : Lk K mg "_law_name" s_name ["_law_k", "_law_word"] f fd) (R : RX K mg c W) (C__law_raised : CalleeX P w K mg base "_law_raised" ["_law_k", "_law_word", "_law_number"] 3 (spRaised c)) :
    Callee P w K mg base "_law_name" ["_law_k", "_law_word"] 4 spName := by
  refine L.callee (L.F.ok sc_name (fun vs H Q E h => ?_) (fun cdv A outer s H vs Q E hr h => ?_))
  · obtain ⟨k, word, rfl, _⟩ := h
    rfl
  · obtain ⟨k, word, rfl, hk, kq⟩ := h
    have hqq : QB ((cxOf CX0 P w K mg base ["_law_k", "_law_word", "e"] "_law_name" (defScope s_name) f cdv A outer s H E).nox) (defBody s_name) _ := (qb_cn (qs_try rfl rfl (qx_expr (qxe_callee C__law_raised (hr.mono (by first | decide | omega)) (by rfl) (qa_cn (qv 0) (qa_cn (qv 1) (qa_cn qe_int qa_nil))))) (qh_as (i := 2) (R.mC 5 (by decide)) sc_name.nd (fun _ => (qb_one (qs_ret (qe_lst (qa_cn (qe_fldXK K rfl (qv 2)) qa_nil))))) (qh_as (i := 2) (R.mC 6 (by decide)) sc_name.nd (fun _ => (qb_one (qs_ret (qe_lst (qa_cn (qe_fldXK K rfl (qv 2)) qa_nil))))) (qh_as (i := 2) (R.mC 7 (by decide)) sc_name.nd (fun _ => (qb_one (qs_ret (qe_lst (qa_cn (qe_fldXK K rfl (qv 2)) qa_nil))))) qh_nil))))
      (qb_one (qs_ret (qe_lst qa_nil))))
    (with_reducible refine ⟨_, hqq.p, ?_⟩)
    refine ⟨_, rfl, _, rfl, k, word, 0, rfl, by omega, fun dx H1 xd s1 => ⟨c k, rfl, fun x T' fl T2 H2 fn => ?_⟩⟩
    have s2 : SameB H H2 := (SameB.of s1).trans (SameB.flown fl.ex fn)
    rcases hk with rfl | rfl | rfl
    · obtain ⟨d, rfl, hd1⟩ := (show ∃ d, dx = some d ∧ H1 d = some (.xd [("name", V.str word)]) from xd)
      have hd : H2 d = some (.xd [("name", V.str word)]) := fn.keep hd1 (ne_of hd1 fl.ex (fun z => nomatch z))
      refine ⟨_, R.ex 5 5 (by decide) (by decide), ?_⟩
      rw [if_pos (by decide)]
      refine ⟨_, rfl, x, c 5, d, some T2, _, _, rfl, fn.ex, hd, R.ok 5 (by decide), R.na 5 (by decide) _ rfl, rfl, (by show 1 ≤ sizeLine; decide), fun D n => kq D _ upd_same (s2.trans (SameB.new _ n))⟩
    · obtain ⟨d, rfl, hd1⟩ := (show ∃ d, dx = some d ∧ H1 d = some (.xd [("name", V.str word)]) from xd)
      have hd : H2 d = some (.xd [("name", V.str word)]) := fn.keep hd1 (ne_of hd1 fl.ex (fun z => nomatch z))
      refine ⟨_, R.ex 6 5 (by decide) (by decide), ?_⟩
      rw [if_neg (by decide)]
      refine ⟨_, R.ex 6 6 (by decide) (by decide), ?_⟩
      rw [if_pos (by decide)]
      refine ⟨_, rfl, x, c 6, d, some T2, _, _, rfl, fn.ex, hd, R.ok 6 (by decide), R.na 6 (by decide) _ rfl, rfl, (by show 1 ≤ sizeLine; decide), fun D n => kq D _ upd_same (s2.trans (SameB.new _ n))⟩
    · obtain ⟨d, rfl, hd1⟩ := (show ∃ d, dx = some d ∧ H1 d = some (.xd [("name", V.str word)]) from xd)
      have hd : H2 d = some (.xd [("name", V.str word)]) := fn.keep hd1 (ne_of hd1 fl.ex (fun z => nomatch z))
      refine ⟨_, R.ex 7 5 (by decide) (by decide), ?_⟩
      rw [if_neg (by decide)]
      refine ⟨_, R.ex 7 6 (by decide) (by decide), ?_⟩
      rw [if_neg (by decide)]
      refine ⟨_, R.ex 7 7 (by decide) (by decide), ?_⟩
      rw [if_pos (by decide)]
      refine ⟨_, rfl, x, c 7, d, some T2, _, _, rfl, fn.ex, hd, R.ok 7 (by decide), R.na 7 (by decide) _ rfl, rfl, (by show 1 ≤ sizeLine; decide), fun D n => kq D _ upd_same (s2.trans (SameB.new _ n))⟩
theorem ok_is {f : Addr} {fd : FuncData} (L : Lk K mg "_law_is" s_is ["_law_found", "_law_due"] f fd) (T : Txt mg) : Callee P w K mg base "_law_is" ["_law_found", "_law_due"] 1 spIs := by
  refine L.callee (L.F.ok sc_is (fun vs H Q E h => ?_) (fun cdv A outer s H vs Q E hr h => ?_))
  · obtain ⟨v, rfl, _⟩ := h
    rfl
  · obtain ⟨v, rfl, hv, kq⟩ := h
    have hqq : QB ((cxOf CX0 P w K mg base ["_law_found", "_law_due"] "_law_is" (defScope s_is) f cdv A outer s H E).nox) (defBody s_is) _ := (qb_cn (qs_if (qt_val (qe_callB call_isinst (by rfl) T.isinstance boot_isinstance (qa_cn (qv 1) (qa_cn (qe_bltn (v := .ty "str") (by rfl) T.str boot_str rfl) qa_nil)))) (qb_one (qs_ret (qe_and (qe_callB call_isinst (by rfl) T.isinstance boot_isinstance (qa_cn (qv 0) (qa_cn (qe_bltn (v := .ty "str") (by rfl) T.str boot_str rfl) qa_nil))) (qe_one (qe_cmpR op_eq (qv 0) (qv 1) (nomark _)))))) qb_nil)
      (qb_one (qs_ret (qe_and (qe_callB call_isinst (by rfl) T.isinstance boot_isinstance (qa_cn (qv 0) (qa_cn (qe_bltn (v := .ty "int") (by rfl) T.int boot_int rfl) qa_nil))) (qe_and (qe_not (qe_callB call_isinst (by rfl) T.isinstance boot_isinstance (qa_cn (qv 0) (qa_cn (qe_bltn (v := .ty "bool") (by rfl) T.bool boot_bool rfl) qa_nil)))) (qe_one (qe_cmpR op_eq (qv 0) (qv 1) (nomark _))))))))
    (with_reducible refine ⟨_, hqq.p, ?_⟩)
    rcases hv with ⟨i, rfl⟩ | ⟨z, rfl⟩
    · refine ⟨_, rfl, _, _, _, _, rfl, .int _, rfl, _, rfl, iteF ?_⟩
      refine ⟨_, rfl, _, _, _, _, rfl, .int _, rfl, _, rfl, iteT ?_⟩
      refine ⟨_, rfl, _, _, _, _, rfl, .int _, rfl, _, rfl, _, rfl, iteT ?_⟩
      refine ⟨_, rfl, _, rfl, rfl, ?_⟩
      rw [decide_eq_true rfl]
      exact kq
    · refine ⟨_, rfl, _, _, _, _, rfl, .str _, rfl, _, rfl, iteT ?_⟩
      refine ⟨_, rfl, _, _, _, _, rfl, .str _, rfl, _, rfl, iteT ?_⟩
      refine ⟨_, rfl, _, rfl, rfl, ?_⟩
      rw [decide_eq_true rfl]
      exact kq
end
end K19

end
section
set_option Elab.async false
set_option linter.all false
set_option maxRecDepth 100000
set_option maxHeartbeats 4000000
namespace K19
open PySem L2 PyProof.Rows
abbrev s_law : Stmt := top 28
theorem sc_law : FnScope ["_law_script", "_law_hand", "_law_k", "_law_word", "_law_number", "_law_found", "_law_due"] ["_law_script"] (defScope s_law) := ⟨rfl, rfl, rfl, by decide +kernel, rfl, by decide +kernel, by decide +kernel⟩

def spLaw (K : PySem.W.Frag) : Sp := fun vs H Q _ => ∃ (a : Addr) (ns : List Int), vs = [.ref a] ∧ SqL K H a (ns.map V.int) ∧ ns.length ≤ 63 ∧ ∀ H', Q (.bl true) H'
section
variable {P : Program} {w : World} {K : PySem.W.Frag} {mg : Str → Option Value} {base : Heap}
theorem dec_eq (m i : Nat) : decide (V.int (0 + (m : Int)) = V.int (0 + (i : Int))) = decide (i = m) := by
  by_cases h : i = m
  · rw [h, decide_eq_true rfl, decide_eq_true rfl]
  · rw [decide_eq_false h, decide_eq_false (fun z => h (by injection z with z; omega))]
theorem kinds_eq (i : Nat) : (List.range 15).map (fun (m : Nat) => V.bl (decide (i = m))) ++ [.bl true] = kindsL i := rfl
theorem kinds_self : ∀ i, i < 15 → eqL (kindsL i) (kindsL i) = true := by decide
theorem kinds_flat (i : Nat) : (kindsL i).all flatV = true := rfl
theorem in_a : ∀ i, i < 15 → inV (.int (0 + ((i : Nat) : Int))) [.int 4, .int 11] = decide (i = 4 ∨ i = 11) := by decide
theorem in_w : ∀ i, i < 15 → inV (.int (0 + ((i : Nat) : Int))) [.int 8, .int 14] = decide (i = 8 ∨ i = 14) := by decide
theorem in_n : ∀ i, i < 15 → inV (.int (0 + ((i : Nat) : Int))) [.int 5, .int 6, .int 7] = decide (i = 5 ∨ i = 6 ∨ i = 7) := by decide
theorem ok_law {f : Addr} {fd : FuncData} (L : Lk K mg "law" s_law ["_law_script"] f fd) (T : Txt mg)
    (C__law_open : Callee P w K mg base "_law_open" ["_law_script", "_law_place"] 1 (spOpen K)) (C__law_draw : Callee P w K mg base "_law_draw" ["_law_hand", "_law_many"] 1 spDraw) (C__law_far : Callee P w K mg base "_law_far" ["_law_hand", "_law_bound"] 2 spFar) (C__law_letters : Callee P w K mg base "_law_letters" ["_law_hand", "_law_many"] 2 spLetters)
    (C__law_kinds : Callee P w K mg base "_law_kinds" ["_law_k", "_law_word", "_law_number"] 4 spKinds) (C__law_at : Callee P w K mg base "_law_at" ["_law_k", "_law_number"] 4 spAt) (C__law_wanted : Callee P w K mg base "_law_wanted" ["_law_k", "_law_number"] 4 spWanted) (C__law_name : Callee P w K mg base "_law_name" ["_law_k", "_law_word"] 4 spName)
    (C__law_is : Callee P w K mg base "_law_is" ["_law_found", "_law_due"] 1 spIs) : FnOk P w K mg base CX0 5 f fd ["_law_script"] (spLaw K) := by
  refine L.F.ok sc_law (fun vs H Q E h => ?_) (fun cdv A outer s H vs Q E hr h => ?_)
  · obtain ⟨a, ns, rfl, _⟩ := h
    rfl
  · obtain ⟨sa, ns, rfl, hS, hn, kq⟩ := h
    have hqq : QB ((cxOf CX0 P w K mg base ["_law_script", "_law_hand", "_law_k", "_law_word", "_law_number", "_law_found", "_law_due"] "law" (defScope s_law) f cdv A outer s H E).nox) (defBody s_law) _ := (qb_cn (qs_set (i := 1) sc_law.nd rfl (Or.inl rfl) (qe_callee C__law_open (hr.mono (by first | decide | omega)) (by rfl) (qa_cn (qv 0) (qa_cn qe_int qa_nil))))
      (qb_cn (qs_for PassesOwn.never rfl (qi_range1 rfl T.range (qa_cn qe_int qa_nil)) (qg_name (i := 2) sc_law.nd rfl (Or.inr rfl)) (qb_cn (qs_set (i := 3) sc_law.nd rfl (Or.inl rfl) (qe_callee C__law_letters (hr.mono (by first | decide | omega)) (by rfl) (qa_cn (qv 1) (qa_cn (qe_op op_add qe_int (qe_callee C__law_draw (hr.mono (by first | decide | omega)) (by rfl) (qa_cn (qv 1) (qa_cn qe_int qa_nil)))) qa_nil))))
      (qb_cn (qs_set (i := 4) sc_law.nd rfl (Or.inl rfl) (qe_callee C__law_far (hr.mono (by first | decide | omega)) (by rfl) (qa_cn (qv 1) (qa_cn (qe_op op_add (qe_op op_pow qe_int qe_int) qe_int) qa_nil))))
      (qb_cn (qs_if (qt_cmpR op_eq (qe_callee C__law_draw (hr.mono (by first | decide | omega)) (by rfl) (qa_cn (qv 1) (qa_cn qe_int qa_nil))) qe_int (nomark _)) (qb_one (qs_set (i := 4) sc_law.nd rfl (Or.inl rfl) (qe_callee C__law_draw (hr.mono (by first | decide | omega)) (by rfl) (qa_cn (qv 1) (qa_cn qe_int qa_nil))))) qb_nil)
      (qb_cn (qs_if (qt_cmpR (op_neL (hu0 hr)) (qe_callee C__law_kinds (hr.mono (by first | decide | omega)) (by rfl) (qa_cn (qv 2) (qa_cn (qv 3) (qa_cn (qv 4) qa_nil)))) (qe_op op_cat (qe_comp ["_law_one"] ["_law_k"] [2] ["_law_script", "_law_hand", "_law_k", "_law_word", "_law_number", "_law_found", "_law_due"] (defScope s_law).names rfl (qi_range1 rfl T.range (qa_cn qe_int qa_nil)) (fun _ _ _ _ _ => (qg_name (i := 0) (show (["_law_one", "_law_k"] : List Str).Nodup by decide +kernel) rfl (Or.inl rfl))) (fun _ _ _ _ _ => qts_nil) (fun _ _ _ _ _ => (qe_cmpR op_eq (qv 0) (qv 1) (nomark _)))) (qe_lst (qa_cn qe_bl qa_nil))) (nomark _)) (qb_one (qs_ret qe_bl)) qb_nil)
      (qb_cn (qs_set (i := 5) sc_law.nd rfl (Or.inl rfl) (qe_lst qa_nil))
      (qb_cn (qs_set (i := 6) sc_law.nd rfl (Or.inl rfl) (qv 4))
      (qb_cn (qs_if (qt_cmpR op_in_seq (qv 2) (qe_tup (qa_cn qe_int (qa_cn qe_int qa_nil))) rfl) (qb_one (qs_set (i := 5) sc_law.nd rfl (Or.inl rfl) (qe_callee C__law_at (hr.mono (by first | decide | omega)) (by rfl) (qa_cn (qv 2) (qa_cn (qv 4) qa_nil))))) (qb_one (qs_if (qt_cmpR op_in_seq (qv 2) (qe_tup (qa_cn qe_int (qa_cn qe_int qa_nil))) rfl) (qb_one (qs_set (i := 5) sc_law.nd rfl (Or.inl rfl) (qe_callee C__law_wanted (hr.mono (by first | decide | omega)) (by rfl) (qa_cn (qv 2) (qa_cn (qv 4) qa_nil))))) (qb_one (qs_if (qt_cmpR op_in_seq (qv 2) (qe_tup (qa_cn qe_int (qa_cn qe_int (qa_cn qe_int qa_nil)))) rfl) (qb_cn (qs_set (i := 5) sc_law.nd rfl (Or.inl rfl) (qe_callee C__law_name (hr.mono (by first | decide | omega)) (by rfl) (qa_cn (qv 2) (qa_cn (qv 3) qa_nil))))
      (qb_one (qs_set (i := 6) sc_law.nd rfl (Or.inl rfl) (qv 3)))) (qb_one (qs_set (i := 5) sc_law.nd rfl (Or.inl rfl) (qe_lst (qa_cn (qv 4) qa_nil)))))))))
      (qb_one (qs_if (qw_pt (qw_or (qt_cmpR op_ne (qe_callB call_len_seq (by rfl) T.len PySem.boot_len (qa_cn (qv 5) qa_nil)) qe_int (nomark _)) (qw_or1 (qt_not (qt_val (qe_callee C__law_is (hr.mono (by first | decide | omega)) (by rfl) (qa_cn (qe_ix ix_list (qv 5) qe_int (fun _ _ => rfl)) (qa_cn (qv 6) qa_nil)))))))) (qb_one (qs_ret qe_bl)) qb_nil))))))))))
      (qb_one (qs_ret qe_bl))))
    (with_reducible refine ⟨_, hqq.p, ?_⟩)
    refine ⟨_, rfl, sa, ns, 0, rfl, hS, hn, by omega, by omega, fun p c H1 np h1 s1 => ?_⟩
    refine ⟨15, rfl, by decide, by decide, for_range (n := 15) (fun i σ H' => ∃ (o2 o3 o4 o5 o6 : Option V), σ = [some (.ref sa), some (.ref p), o2, o3, o4, o5, o6] ∧ Hand H' p c) ⟨none, none, none, none, none, rfl, h1⟩ ?_ ?_⟩
    · rintro i σ G ni ⟨o2, o3, o4, o5, o6, rfl, hG⟩
      refine ⟨_, rfl, _, rfl, p, c, 8, rfl, hG, by decide, by decide, fun r G1 r0 r1 hG1 b1 => ⟨_, _, rfl, rfl, p, c, 1 + r, rfl, hG1, by omega, by omega, fun word G2 lw hG2 b2 => ?_⟩⟩
      refine ⟨_, rfl, _, _, rfl, rfl, ⟨by decide, by decide, by decide⟩, _, _, rfl, rfl, p, c, _, rfl, hG2, (by decide +kernel), fun num0 G3 q0 q1 hG3 b3 => ?_⟩
      refine ⟨_, rfl, p, c, 3, rfl, hG3, by decide, by decide, fun r3 G4 _ _ hG4 b4 => ⟨rfl, _, rfl, ite2 (fun _ => ?_) (fun _ => ?_)⟩⟩
      · refine ⟨_, rfl, p, c, 4, rfl, hG4, by decide, by decide, fun num G5 _ _ hG5 b5 => ?_⟩
        refine ⟨_, rfl, _, rfl, _, rfl, i, word, num, (by rw [Int.zero_add]; rfl), ni, fun D1 F1 hD1 sb1 => ?_⟩
        have hF1 := hG5.sameB sb1
        refine ⟨_, rfl, by decide, by decide, fun D2 n2 => ?_⟩
        refine comp_range (n := 15) (fun j ys G' => ys = (List.range j).map (fun (m : Nat) => V.bl (decide (V.int (0 + (m : Int)) = V.int (0 + (i : Int))))) ∧ Same F1 G') ⟨rfl, Same.new _ n2⟩ ?_ ?_
        · rintro ys F2 ⟨rfl, sm2⟩ hD2
          refine ⟨(by show 1 ≤ sizeLine; decide), fun E2 m2 => ?_⟩
          have hD2' : (upd F2 E2 (.lst [.bl true])) D2 = some (.lst ((List.range 15).map (fun (m : Nat) => V.bl (decide (V.int (0 + (m : Int)) = V.int (0 + (i : Int))))))) := by rw [upd_ne (ne_of_none hD2 m2)]; exact hD2
          refine ⟨D2, E2, _, _, rfl, rfl, hD2', upd_same, (by rw [List.length_map, List.length_range]; decide), fun D3 n3 => ?_⟩
          have el : (List.range 15).map (fun (m : Nat) => V.bl (decide (V.int (0 + (m : Int)) = V.int (0 + (i : Int))))) ++ [.bl true] = kindsL i := by
            rw [← kinds_eq]
            congr 1
            exact List.map_congr_left fun m _ => by rw [dec_eq]
          rw [el]
          have sm3 : Same F1 (upd (upd F2 E2 (.lst [.bl true])) D3 (.lst (kindsL i))) := (sm2.trans (Same.new _ m2)).trans (Same.new _ n3)
          have hD3 : (upd (upd F2 E2 (.lst [.bl true])) D3 (.lst (kindsL i))) D3 = some (.lst (kindsL i)) := upd_same
          generalize (upd (upd F2 E2 (.lst [.bl true])) D3 (.lst (kindsL i))) = F3 at sm3 hD3
          have hF3 := hF1.same sm3
          refine ⟨D1, D3, kindsL i, kindsL i, rfl, rfl, SqL.of (sm3 _ _ hD1), SqL.of hD3, kinds_flat i, kinds_flat i, ?_⟩
          rw [kinds_self i ni]
          refine ⟨_, rfl, iteF ?_⟩
          refine ⟨Nat.zero_le _, fun D4 n4 => ?_⟩
          have hF4 := hF3.new (.lst []) n4
          refine ⟨_, rfl, ?_⟩
          refine ⟨_, rfl, (by show 2 ≤ sizeLine; decide), fun t5 m5 => ?_⟩
          have hF5 := hF4.new (.tup [.int 4, .int 11]) m5
          refine ⟨t5, [.int 4, .int 11], rfl, .inr (SqT.of upd_same), rfl, rfl, _, rfl, ite2 (fun c1 => ?_) (fun c1 => ?_)⟩
          · have hk : i = 4 ∨ i = 11 := by rw [if_neg Bool.false_ne_true, in_a i ni] at c1; exact of_decide_eq_true c1
            refine ⟨_, rfl, _, rfl, i, num, (by rw [Int.zero_add]; rfl), hk, fun D6 F6 hD6 sb6 => ?_⟩
            have hF6 := hF5.sameB sb6
            refine ⟨_, rfl, D6, _, rfl, .inl (SqL.of hD6), rfl, _, rfl, iteF ?_⟩
            refine ⟨_, rfl, D6, _, 0, _, rfl, rfl, SqL.of hD6, rfl, _, rfl, _, rfl, .inl ⟨num, rfl⟩, _, rfl, iteF ?_⟩
            exact ⟨_, _, _, _, _, rfl, hF6⟩
          · refine ⟨_, rfl, (by show 2 ≤ sizeLine; decide), fun t6 m6 => ?_⟩
            have hF5b := hF5.new (.tup [.int 8, .int 14]) m6
            refine ⟨t6, [.int 8, .int 14], rfl, .inr (SqT.of upd_same), rfl, rfl, _, rfl, ite2 (fun c2 => ?_) (fun c2 => ?_)⟩
            · have hk : i = 8 ∨ i = 14 := by rw [if_neg Bool.false_ne_true, in_w i ni] at c2; exact of_decide_eq_true c2
              refine ⟨_, rfl, _, rfl, i, num, (by rw [Int.zero_add]; rfl), hk, fun D6 F6 hD6 sb6 => ?_⟩
              have hF6 := hF5b.sameB sb6
              refine ⟨_, rfl, D6, _, rfl, .inl (SqL.of hD6), rfl, _, rfl, iteF ?_⟩
              refine ⟨_, rfl, D6, _, 0, _, rfl, rfl, SqL.of hD6, rfl, _, rfl, _, rfl, .inl ⟨num, rfl⟩, _, rfl, iteF ?_⟩
              exact ⟨_, _, _, _, _, rfl, hF6⟩
            · refine ⟨_, rfl, (by show 3 ≤ sizeLine; decide), fun t7 m7 => ?_⟩
              have hF5c := hF5b.new (.tup [.int 5, .int 6, .int 7]) m7
              refine ⟨t7, [.int 5, .int 6, .int 7], rfl, .inr (SqT.of upd_same), rfl, rfl, _, rfl, ite2 (fun c3 => ?_) (fun c3 => ?_)⟩
              · have hk : i = 5 ∨ i = 6 ∨ i = 7 := by rw [if_neg Bool.false_ne_true, in_n i ni] at c3; exact of_decide_eq_true c3
                refine ⟨_, rfl, _, rfl, i, word, (by rw [Int.zero_add]; rfl), hk, fun D6 F6 hD6 sb6 => ?_⟩
                have hF6 := hF5c.sameB sb6
                refine ⟨_, rfl, ?_⟩
                refine ⟨_, rfl, D6, _, rfl, .inl (SqL.of hD6), rfl, _, rfl, iteF ?_⟩
                refine ⟨_, rfl, D6, _, 0, _, rfl, rfl, SqL.of hD6, rfl, _, rfl, _, rfl, .inr ⟨word, rfl⟩, _, rfl, iteF ?_⟩
                exact ⟨_, _, _, _, _, rfl, hF6⟩
              · refine ⟨_, rfl, (by show 1 ≤ sizeLine; decide), fun D6 m8 => ?_⟩
                have hF6 := hF5c.new (.lst [.int num]) m8
                refine ⟨_, rfl, D6, _, rfl, .inl (SqL.of upd_same), rfl, _, rfl, iteF ?_⟩
                refine ⟨_, rfl, D6, _, 0, _, rfl, rfl, SqL.of upd_same, rfl, _, rfl, _, rfl, .inl ⟨num, rfl⟩, _, rfl, iteF ?_⟩
                exact ⟨_, _, _, _, _, rfl, hF6⟩
        · rintro j ys F2 hj ⟨rfl, sm2⟩ hD2
          refine ⟨rfl, _, rfl, _, rfl, rfl, hD2, ?_, nx hj ⟨?_, ?_⟩⟩
          · rw [List.length_map, List.length_range]
            exact Nat.lt_of_lt_of_le hj (by decide)
          · rw [List.range_succ, List.map_append]
            rfl
          · intro b o e
            rw [upd_ne (ne_of_none e n2)]
            exact sm2 b o e
      · have hG5 := hG4
        refine ⟨_, rfl, _, rfl, _, rfl, i, word, num0, (by rw [Int.zero_add]; rfl), ni, fun D1 F1 hD1 sb1 => ?_⟩
        have hF1 := hG5.sameB sb1
        refine ⟨_, rfl, by decide, by decide, fun D2 n2 => ?_⟩
        refine comp_range (n := 15) (fun j ys G' => ys = (List.range j).map (fun (m : Nat) => V.bl (decide (V.int (0 + (m : Int)) = V.int (0 + (i : Int))))) ∧ Same F1 G') ⟨rfl, Same.new _ n2⟩ ?_ ?_
        · rintro ys F2 ⟨rfl, sm2⟩ hD2
          refine ⟨(by show 1 ≤ sizeLine; decide), fun E2 m2 => ?_⟩
          have hD2' : (upd F2 E2 (.lst [.bl true])) D2 = some (.lst ((List.range 15).map (fun (m : Nat) => V.bl (decide (V.int (0 + (m : Int)) = V.int (0 + (i : Int))))))) := by rw [upd_ne (ne_of_none hD2 m2)]; exact hD2
          refine ⟨D2, E2, _, _, rfl, rfl, hD2', upd_same, (by rw [List.length_map, List.length_range]; decide), fun D3 n3 => ?_⟩
          have el : (List.range 15).map (fun (m : Nat) => V.bl (decide (V.int (0 + (m : Int)) = V.int (0 + (i : Int))))) ++ [.bl true] = kindsL i := by
            rw [← kinds_eq]
            congr 1
            exact List.map_congr_left fun m _ => by rw [dec_eq]
          rw [el]
          have sm3 : Same F1 (upd (upd F2 E2 (.lst [.bl true])) D3 (.lst (kindsL i))) := (sm2.trans (Same.new _ m2)).trans (Same.new _ n3)
          have hD3 : (upd (upd F2 E2 (.lst [.bl true])) D3 (.lst (kindsL i))) D3 = some (.lst (kindsL i)) := upd_same
          generalize (upd (upd F2 E2 (.lst [.bl true])) D3 (.lst (kindsL i))) = F3 at sm3 hD3
          have hF3 := hF1.same sm3
          refine ⟨D1, D3, kindsL i, kindsL i, rfl, rfl, SqL.of (sm3 _ _ hD1), SqL.of hD3, kinds_flat i, kinds_flat i, ?_⟩
          rw [kinds_self i ni]
          refine ⟨_, rfl, iteF ?_⟩
          refine ⟨Nat.zero_le _, fun D4 n4 => ?_⟩
          have hF4 := hF3.new (.lst []) n4
          refine ⟨_, rfl, ?_⟩
          refine ⟨_, rfl, (by show 2 ≤ sizeLine; decide), fun t5 m5 => ?_⟩
          have hF5 := hF4.new (.tup [.int 4, .int 11]) m5
          refine ⟨t5, [.int 4, .int 11], rfl, .inr (SqT.of upd_same), rfl, rfl, _, rfl, ite2 (fun c1 => ?_) (fun c1 => ?_)⟩
          · have hk : i = 4 ∨ i = 11 := by rw [if_neg Bool.false_ne_true, in_a i ni] at c1; exact of_decide_eq_true c1
            refine ⟨_, rfl, _, rfl, i, num0, (by rw [Int.zero_add]; rfl), hk, fun D6 F6 hD6 sb6 => ?_⟩
            have hF6 := hF5.sameB sb6
            refine ⟨_, rfl, D6, _, rfl, .inl (SqL.of hD6), rfl, _, rfl, iteF ?_⟩
            refine ⟨_, rfl, D6, _, 0, _, rfl, rfl, SqL.of hD6, rfl, _, rfl, _, rfl, .inl ⟨num0, rfl⟩, _, rfl, iteF ?_⟩
            exact ⟨_, _, _, _, _, rfl, hF6⟩
          · refine ⟨_, rfl, (by show 2 ≤ sizeLine; decide), fun t6 m6 => ?_⟩
            have hF5b := hF5.new (.tup [.int 8, .int 14]) m6
            refine ⟨t6, [.int 8, .int 14], rfl, .inr (SqT.of upd_same), rfl, rfl, _, rfl, ite2 (fun c2 => ?_) (fun c2 => ?_)⟩
            · have hk : i = 8 ∨ i = 14 := by rw [if_neg Bool.false_ne_true, in_w i ni] at c2; exact of_decide_eq_true c2
              refine ⟨_, rfl, _, rfl, i, num0, (by rw [Int.zero_add]; rfl), hk, fun D6 F6 hD6 sb6 => ?_⟩
              have hF6 := hF5b.sameB sb6
              refine ⟨_, rfl, D6, _, rfl, .inl (SqL.of hD6), rfl, _, rfl, iteF ?_⟩
              refine ⟨_, rfl, D6, _, 0, _, rfl, rfl, SqL.of hD6, rfl, _, rfl, _, rfl, .inl ⟨num0, rfl⟩, _, rfl, iteF ?_⟩
              exact ⟨_, _, _, _, _, rfl, hF6⟩
            · refine ⟨_, rfl, (by show 3 ≤ sizeLine; decide), fun t7 m7 => ?_⟩
              have hF5c := hF5b.new (.tup [.int 5, .int 6, .int 7]) m7
              refine ⟨t7, [.int 5, .int 6, .int 7], rfl, .inr (SqT.of upd_same), rfl, rfl, _, rfl, ite2 (fun c3 => ?_) (fun c3 => ?_)⟩
              · have hk : i = 5 ∨ i = 6 ∨ i = 7 := by rw [if_neg Bool.false_ne_true, in_n i ni] at c3; exact of_decide_eq_true c3
                refine ⟨_, rfl, _, rfl, i, word, (by rw [Int.zero_add]; rfl), hk, fun D6 F6 hD6 sb6 => ?_⟩
                have hF6 := hF5c.sameB sb6
                refine ⟨_, rfl, ?_⟩
                refine ⟨_, rfl, D6, _, rfl, .inl (SqL.of hD6), rfl, _, rfl, iteF ?_⟩
                refine ⟨_, rfl, D6, _, 0, _, rfl, rfl, SqL.of hD6, rfl, _, rfl, _, rfl, .inr ⟨word, rfl⟩, _, rfl, iteF ?_⟩
                exact ⟨_, _, _, _, _, rfl, hF6⟩
              · refine ⟨_, rfl, (by show 1 ≤ sizeLine; decide), fun D6 m8 => ?_⟩
                have hF6 := hF5c.new (.lst [.int num0]) m8
                refine ⟨_, rfl, D6, _, rfl, .inl (SqL.of upd_same), rfl, _, rfl, iteF ?_⟩
                refine ⟨_, rfl, D6, _, 0, _, rfl, rfl, SqL.of upd_same, rfl, _, rfl, _, rfl, .inl ⟨num0, rfl⟩, _, rfl, iteF ?_⟩
                exact ⟨_, _, _, _, _, rfl, hF6⟩
        · rintro j ys F2 hj ⟨rfl, sm2⟩ hD2
          refine ⟨rfl, _, rfl, _, rfl, rfl, hD2, ?_, nx hj ⟨?_, ?_⟩⟩
          · rw [List.length_map, List.length_range]
            exact Nat.lt_of_lt_of_le hj (by decide)
          · rw [List.range_succ, List.map_append]
            rfl
          · intro b o e
            rw [upd_ne (ne_of_none e n2)]
            exact sm2 b o e
    · rintro σ G ⟨o2, o3, o4, o5, o6, rfl, hG⟩
      exact kq _
end
end K19

end
section
set_option Elab.async false
set_option linter.all false
set_option maxRecDepth 100000
set_option maxHeartbeats 4000000
namespace K19
open PySem L2 PyProof.Rows
def xOk (K : PySem.W.Frag) (C : Addr) : Bool :=
  (PySem.W.hasDictIn K C && valOver K C) && (PySem.W.findIn K (.ref C) "__setattr__" == some (some (.builtin "object.__setattr__")) && (PySem.W.findIn K (.ref C) "__getattribute__" == some (some (.builtin "BaseException.__getattribute__")) &&
  (PySem.W.findIn K (.ref C) "__getattr__" == some none && (PySem.W.typeIn K (.ref C) == some (.type "type") && (PySem.W.findIn K (.ref C) "__class__" == some (some (.builtin "object.__class__")) &&
  (PySem.W.specialIn K (.builtin "object.__class__") "__get__" == some (some (.builtin "getset_descriptor.__get__")) && (PySem.W.takesIn K (.builtin "object.__class__") == some true && PySem.W.mroIn K C (.type "object") == some true)))))))
theorem xOk_of {K : PySem.W.Frag} {C : Addr} (h : xOk K C = true) : XCls K C := by
  unfold xOk at h
  simp only [Bool.and_eq_true, beq_iff_eq] at h
  obtain ⟨⟨h1, h2⟩, h3, h4, h5, h6, h7, h8, h9, h10⟩ := h
  exact ⟨h1, h2, h3, h4, h5, h6, h7, h8, h9, h10⟩
def kOne (K : PySem.W.Frag) (c : Nat → Addr) (W : Addr) (fi : Nat → Option Value) (i : Nat) : Bool :=
  ((xOk K (c i) && PySem.W.keepIn K (.ref (c i))) && (excXIn K (c i) (fi i) && (match fld i with | some f => PySem.W.findIn K (.ref (c i)) f == some none | none => (fi i).isNone))) &&
  ((PySem.W.kitOne K (.ref (c i)) (.type "ValueError") == some true && PySem.W.exmOne K (.ref (c i)) (.ref W) == some true) &&
   (List.range 15).all fun j => PySem.W.kitOne K (.ref (c i)) (.ref (c j)) == some (decide (i = j)) && PySem.W.exmOne K (.ref (c i)) (.ref (c j)) == some (decide (i = j)))
def kOk (K : PySem.W.Frag) (cs : List Addr) (W : Addr) (fs : List (Option Value)) : Bool := (List.range 15).all fun i => kOne K (fun i => cs.getD i 0) W (fun i => fs.getD i none) i
def RX_X (K : PySem.W.Frag) (mg : Str → Option Value) (p : (Nat → Addr) × Addr) : Prop := RX K mg p.1 p.2
theorem kOne_of {K : PySem.W.Frag} {c : Nat → Addr} {W : Addr} {fi : Nat → Option Value} {i : Nat} (h : kOne K c W fi i = true) : XCls K (c i) ∧ PySem.W.keepIn K (.ref (c i)) = true ∧ excXIn K (c i) (fi i) = true ∧ (∀ f, fld i = some f → NoAttr K (c i) f) ∧ (fld i = none → fi i = none) ∧
    PySem.W.kitOne K (.ref (c i)) (.type "ValueError") = some true ∧ PySem.W.exmOne K (.ref (c i)) (.ref W) = some true ∧ ∀ j, j < 15 → PySem.W.kitOne K (.ref (c i)) (.ref (c j)) = some (decide (i = j)) ∧ PySem.W.exmOne K (.ref (c i)) (.ref (c j)) = some (decide (i = j)) := by
  unfold kOne at h
  rw [Bool.and_eq_true, Bool.and_eq_true, Bool.and_eq_true, Bool.and_eq_true, Bool.and_eq_true, Bool.and_eq_true] at h
  obtain ⟨⟨⟨h1, h2⟩, h3, h4⟩, ⟨h5, h6⟩, h7⟩ := h
  refine ⟨xOk_of h1, h2, h3, fun f e => ?_, fun e => ?_, beq_iff_eq.mp h5, beq_iff_eq.mp h6, fun j hj => ?_⟩
  · rw [e] at h4; exact beq_iff_eq.mp h4
  · rw [e] at h4
    cases q : fi i with
    | none => rfl
    | some v => rw [q] at h4; cases h4
  · have z := List.all_eq_true.mp h7 j (List.mem_range.mpr hj)
    rw [Bool.and_eq_true] at z
    exact ⟨beq_iff_eq.mp z.1, beq_iff_eq.mp z.2⟩
theorem all15 {p : Nat → Prop} (h0 : p 0) (h1 : p 1) (h2 : p 2) (h3 : p 3) (h4 : p 4) (h5 : p 5) (h6 : p 6) (h7 : p 7) (h8 : p 8) (h9 : p 9) (h10 : p 10) (h11 : p 11) (h12 : p 12) (h13 : p 13) (h14 : p 14) : ∀ i, i < 15 → p i
  | 0, _ => h0 | 1, _ => h1 | 2, _ => h2 | 3, _ => h3 | 4, _ => h4 | 5, _ => h5 | 6, _ => h6 | 7, _ => h7 | 8, _ => h8 | 9, _ => h9 | 10, _ => h10 | 11, _ => h11 | 12, _ => h12 | 13, _ => h13 | 14, _ => h14
  | n + 15, h => absurd h (by omega)
theorem rx_X_mk {K : PySem.W.Frag} {h : Heap} {mg : Str → Option Value} {W c0 c1 c2 c3 c4 c5 c6 c7 c8 c9 c10 c11 c12 c13 c14 f4 f5 f6 f7 f8 f11 f14 : Addr} {od4 an4 od5 an5 od6 an6 od7 an7 od8 an8 od11 an11 od14 an14 : Option Addr} {sl4 sl5 sl6 sl7 sl8 sl11 sl14 : Array (Option Value)} {oc4 kV4 dc4 pm4 cd4 ct4 oc5 kV5 dc5 pm5 cd5 ct5 oc6 kV6 dc6 pm6 cd6 ct6 oc7 kV7 dc7 pm7 cd7 ct7 oc8 kV8 dc8 pm8 cd8 ct8 oc11 kV11 dc11 pm11 cd11 ct11 oc14 kV14 dc14 pm14 cd14 ct14 : Value} (X : K.In h) (G : h.Ns mainGlobals mg)
    (aW : PySem.W.nsIn K mainGlobals "WeirError" = some (some (.ref W)))
    (a0 : PySem.W.nsIn K mainGlobals "Late" = some (some (.ref c0)))
    (a1 : PySem.W.nsIn K mainGlobals "Fixed" = some (some (.ref c1)))
    (a2 : PySem.W.nsIn K mainGlobals "BackMark" = some (some (.ref c2)))
    (a3 : PySem.W.nsIn K mainGlobals "NotLoose" = some (some (.ref c3)))
    (a4 : PySem.W.nsIn K mainGlobals "NoText" = some (some (.ref c4)))
    (a5 : PySem.W.nsIn K mainGlobals "NoName" = some (some (.ref c5)))
    (a6 : PySem.W.nsIn K mainGlobals "NoRoad" = some (some (.ref c6)))
    (a7 : PySem.W.nsIn K mainGlobals "Taken" = some (some (.ref c7)))
    (a8 : PySem.W.nsIn K mainGlobals "Gap" = some (some (.ref c8)))
    (a9 : PySem.W.nsIn K mainGlobals "Ended" = some (some (.ref c9)))
    (a10 : PySem.W.nsIn K mainGlobals "Begun" = some (some (.ref c10)))
    (a11 : PySem.W.nsIn K mainGlobals "NoQuestion" = some (some (.ref c11)))
    (a12 : PySem.W.nsIn K mainGlobals "NoKeep" = some (some (.ref c12)))
    (a13 : PySem.W.nsIn K mainGlobals "NoLine" = some (some (.ref c13)))
    (a14 : PySem.W.nsIn K mainGlobals "Untaken" = some (some (.ref c14)))
    (n4 : PySem.W.findIn K (.ref c4) "__init__" = some (some (.ref f4))) (s4 : PySem.W.isFn K (.ref f4) = true) (l4 : K.lookup f4 = some ⟨oc4, od4, .func (PySem.W.fnOf "__init__" "NoText.__init__" (defArgs s_NoText___init__) (defBody s_NoText___init__) (defScope s_NoText___init__) .none kV4 dc4 pm4 an4 cd4 ct4), sl4⟩) (d4 : PySem.W.codeIn K cd4 "NoText.__init__" = true) (k4 : PySem.W.keepIn K (.ref f4) = true)
    (n5 : PySem.W.findIn K (.ref c5) "__init__" = some (some (.ref f5))) (s5 : PySem.W.isFn K (.ref f5) = true) (l5 : K.lookup f5 = some ⟨oc5, od5, .func (PySem.W.fnOf "__init__" "NoName.__init__" (defArgs s_NoName___init__) (defBody s_NoName___init__) (defScope s_NoName___init__) .none kV5 dc5 pm5 an5 cd5 ct5), sl5⟩) (d5 : PySem.W.codeIn K cd5 "NoName.__init__" = true) (k5 : PySem.W.keepIn K (.ref f5) = true)
    (n6 : PySem.W.findIn K (.ref c6) "__init__" = some (some (.ref f6))) (s6 : PySem.W.isFn K (.ref f6) = true) (l6 : K.lookup f6 = some ⟨oc6, od6, .func (PySem.W.fnOf "__init__" "NoRoad.__init__" (defArgs s_NoRoad___init__) (defBody s_NoRoad___init__) (defScope s_NoRoad___init__) .none kV6 dc6 pm6 an6 cd6 ct6), sl6⟩) (d6 : PySem.W.codeIn K cd6 "NoRoad.__init__" = true) (k6 : PySem.W.keepIn K (.ref f6) = true)
    (n7 : PySem.W.findIn K (.ref c7) "__init__" = some (some (.ref f7))) (s7 : PySem.W.isFn K (.ref f7) = true) (l7 : K.lookup f7 = some ⟨oc7, od7, .func (PySem.W.fnOf "__init__" "Taken.__init__" (defArgs s_Taken___init__) (defBody s_Taken___init__) (defScope s_Taken___init__) .none kV7 dc7 pm7 an7 cd7 ct7), sl7⟩) (d7 : PySem.W.codeIn K cd7 "Taken.__init__" = true) (k7 : PySem.W.keepIn K (.ref f7) = true)
    (n8 : PySem.W.findIn K (.ref c8) "__init__" = some (some (.ref f8))) (s8 : PySem.W.isFn K (.ref f8) = true) (l8 : K.lookup f8 = some ⟨oc8, od8, .func (PySem.W.fnOf "__init__" "Gap.__init__" (defArgs s_Gap___init__) (defBody s_Gap___init__) (defScope s_Gap___init__) .none kV8 dc8 pm8 an8 cd8 ct8), sl8⟩) (d8 : PySem.W.codeIn K cd8 "Gap.__init__" = true) (k8 : PySem.W.keepIn K (.ref f8) = true)
    (n11 : PySem.W.findIn K (.ref c11) "__init__" = some (some (.ref f11))) (s11 : PySem.W.isFn K (.ref f11) = true) (l11 : K.lookup f11 = some ⟨oc11, od11, .func (PySem.W.fnOf "__init__" "NoQuestion.__init__" (defArgs s_NoQuestion___init__) (defBody s_NoQuestion___init__) (defScope s_NoQuestion___init__) .none kV11 dc11 pm11 an11 cd11 ct11), sl11⟩) (d11 : PySem.W.codeIn K cd11 "NoQuestion.__init__" = true) (k11 : PySem.W.keepIn K (.ref f11) = true)
    (n14 : PySem.W.findIn K (.ref c14) "__init__" = some (some (.ref f14))) (s14 : PySem.W.isFn K (.ref f14) = true) (l14 : K.lookup f14 = some ⟨oc14, od14, .func (PySem.W.fnOf "__init__" "Untaken.__init__" (defArgs s_Untaken___init__) (defBody s_Untaken___init__) (defScope s_Untaken___init__) .none kV14 dc14 pm14 an14 cd14 ct14), sl14⟩) (d14 : PySem.W.codeIn K cd14 "Untaken.__init__" = true) (k14 : PySem.W.keepIn K (.ref f14) = true)
    (chk : kOk K [c0, c1, c2, c3, c4, c5, c6, c7, c8, c9, c10, c11, c12, c13, c14] W [none, none, none, none, some (.ref f4), some (.ref f5), some (.ref f6), some (.ref f7), some (.ref f8), none, none, some (.ref f11), none, none, some (.ref f14)] = true) : ∃ C, RX_X K mg C := by
  have o : ∀ i, i < 15 → _ := fun i hi => kOne_of (List.all_eq_true.mp chk i (List.mem_range.mpr hi))
  refine ⟨⟨fun i => [c0, c1, c2, c3, c4, c5, c6, c7, c8, c9, c10, c11, c12, c13, c14].getD i 0, W⟩, PySem.W.mg_of X G aW, all15 (PySem.W.mg_of X G a0) (PySem.W.mg_of X G a1) (PySem.W.mg_of X G a2) (PySem.W.mg_of X G a3) (PySem.W.mg_of X G a4) (PySem.W.mg_of X G a5) (PySem.W.mg_of X G a6) (PySem.W.mg_of X G a7) (PySem.W.mg_of X G a8) (PySem.W.mg_of X G a9) (PySem.W.mg_of X G a10) (PySem.W.mg_of X G a11) (PySem.W.mg_of X G a12) (PySem.W.mg_of X G a13) (PySem.W.mg_of X G a14), fun i hi => (o i hi).1, fun i hi => (o i hi).2.1, fun i hi e => ?_, fun i hi => (o i hi).2.2.2.1, fun i j hi hj => ((o i hi).2.2.2.2.2.2.2 j hj).1, fun i hi => (o i hi).2.2.2.2.2.1, fun i hi => (o i hi).2.2.2.2.2.2.1, fun i j hi hj => ((o i hi).2.2.2.2.2.2.2 j hj).2, ⟨_, _, (o 4 (by decide)).2.2.1, s4, fun_mk (st := s_NoText___init__) l4 d4 k4, (fun_mk (st := s_NoText___init__) l4 d4 k4).binds (ps := ["self", "at"]) fun _ _ _ _ _ _ us hl => match us, hl with | [_, _], _ => rfl⟩, ⟨_, _, (o 5 (by decide)).2.2.1, s5, fun_mk (st := s_NoName___init__) l5 d5 k5, (fun_mk (st := s_NoName___init__) l5 d5 k5).binds (ps := ["self", "name"]) fun _ _ _ _ _ _ us hl => match us, hl with | [_, _], _ => rfl⟩, ⟨_, _, (o 6 (by decide)).2.2.1, s6, fun_mk (st := s_NoRoad___init__) l6 d6 k6, (fun_mk (st := s_NoRoad___init__) l6 d6 k6).binds (ps := ["self", "name"]) fun _ _ _ _ _ _ us hl => match us, hl with | [_, _], _ => rfl⟩, ⟨_, _, (o 7 (by decide)).2.2.1, s7, fun_mk (st := s_Taken___init__) l7 d7 k7, (fun_mk (st := s_Taken___init__) l7 d7 k7).binds (ps := ["self", "name"]) fun _ _ _ _ _ _ us hl => match us, hl with | [_, _], _ => rfl⟩, ⟨_, _, (o 8 (by decide)).2.2.1, s8, fun_mk (st := s_Gap___init__) l8 d8 k8, (fun_mk (st := s_Gap___init__) l8 d8 k8).binds (ps := ["self", "wanted"]) fun _ _ _ _ _ _ us hl => match us, hl with | [_, _], _ => rfl⟩, ⟨_, _, (o 11 (by decide)).2.2.1, s11, fun_mk (st := s_NoQuestion___init__) l11 d11 k11, (fun_mk (st := s_NoQuestion___init__) l11 d11 k11).binds (ps := ["self", "at"]) fun _ _ _ _ _ _ us hl => match us, hl with | [_, _], _ => rfl⟩, ⟨_, _, (o 14 (by decide)).2.2.1, s14, fun_mk (st := s_Untaken___init__) l14 d14 k14, (fun_mk (st := s_Untaken___init__) l14 d14 k14).binds (ps := ["self", "wanted"]) fun _ _ _ _ _ _ us hl => match us, hl with | [_, _], _ => rfl⟩⟩
  have z := (o i hi).2.2.1
  rw [(o i hi).2.2.2.2.1 e] at z
  exact z

end K19

end
section
set_option Elab.async false
set_option linter.all false
set_option maxRecDepth 100000
namespace K19
open PySem L2 PyProof.Rows
theorem lk_law {K : PySem.W.Frag} {h : Heap} {mg : Str → Option Value} {f : Addr} {oc : Value} {od an : Option Addr} {osl : Array (Option Value)} {kV doc pm cdv ct : Value} (X : K.In h) (G : h.Ns mainGlobals mg)
    (a : PySem.W.nsIn K mainGlobals "law" = some (some (.ref f))) (l : K.lookup f = some ⟨oc, od, .func (PySem.W.fnOf "law" "law" (defArgs s_law) (defBody s_law) (defScope s_law) .none kV doc pm an cdv ct), osl⟩)
    (c : PySem.W.codeIn K cdv "law" = true) (k : PySem.W.keepIn K (.ref f) = true) : ∃ f fd, (∀ (s : Shared) (v : Value), BindsTo s fd ⟨[v], []⟩ [("_law_script", v)]) ∧ Lk K mg "law" s_law ["_law_script"] f fd :=
  ⟨f, _, fun s v => .of_eq rfl, fun_mk l c k, PySem.W.mg_of X G a, (fun_mk l c k).binds fun _ _ _ _ _ _ us hl => match us, hl with | [_], _ => rfl⟩
theorem walk {l : PySem.W.OpenLaw} {q : Program} {loose : List Str} {XP : (Str → Option Value) → Heap → Prop} {YP : World → Heap → Prop} {d : DefRec} {K : Params → PySem.W.Frag} (hn : l.most = some 63) (hdf : d.params.defaults = [])
    (hY : ∀ (w : World) (h : Heap), YP w h → (K w.params).In h)
    (F : ∀ (w : World) (mg : Str → Option Value) (fa : Addr) (h : Heap), (K w.params).In h → h.Ns mainGlobals mg → mg d.name = some (.ref fa) →
      ∃ fd : FuncData, (∀ (s : Shared) (u : Value), BindsTo s fd ⟨[u], []⟩ [("_law_script", u)]) ∧ ∀ base : Heap, (K w.params).In base → base.Ns mainGlobals mg → FnOk l.prog w (K w.params) mg base CX0 5 fa fd ["_law_script"] (spLaw (K w.params))) :
    PySem.W.WalkO q loose XP YP l.row.toRowW d [] (fun f vs => PySem.call f vs) :=
  L2.walk_of (n := 63) (k := 5) (x := "_law_script") (CX := fun _ => CX0) (sp := fun w => spLaw (K w.params)) hn (by decide) hdf ⟨rfl, by decide, by decide⟩ hY F (fun _ _ a ns hl _ hS => ⟨a, ns, rfl, hS, hl, fun _ => rfl⟩) fun _ _ _ _ _ z => z
theorem all_ok {P : Program} {w : World} {K : PySem.W.Frag} {mg : Str → Option Value} {base : Heap} (T : Txt mg)
    (e_open : ∃ f fd, Lk K mg "_law_open" s_open ["_law_script", "_law_place"] f fd)
    (e_draw : ∃ f fd, Lk K mg "_law_draw" s_draw ["_law_hand", "_law_many"] f fd)
    (e_far : ∃ f fd, Lk K mg "_law_far" s_far ["_law_hand", "_law_bound"] f fd)
    (e_letters : ∃ f fd, Lk K mg "_law_letters" s_letters ["_law_hand", "_law_many"] f fd)
    (e_raised : ∃ f fd, Lk K mg "_law_raised" s_raised ["_law_k", "_law_word", "_law_number"] f fd)
    (e_kinds : ∃ f fd, Lk K mg "_law_kinds" s_kinds ["_law_k", "_law_word", "_law_number"] f fd)
    (e_at : ∃ f fd, Lk K mg "_law_at" s_at ["_law_k", "_law_number"] f fd)
    (e_wanted : ∃ f fd, Lk K mg "_law_wanted" s_wanted ["_law_k", "_law_number"] f fd)
    (e_name : ∃ f fd, Lk K mg "_law_name" s_name ["_law_k", "_law_word"] f fd)
    (e_is : ∃ f fd, Lk K mg "_law_is" s_is ["_law_found", "_law_due"] f fd)
    (x_X : ∃ C, RX_X K mg C)
    {f : Addr} {fd : FuncData} (L : Lk K mg "law" s_law ["_law_script"] f fd) : FnOk P w K mg base CX0 5 f fd ["_law_script"] (spLaw K) := by
  obtain ⟨_, _, L_open⟩ := e_open
  obtain ⟨_, _, L_draw⟩ := e_draw
  obtain ⟨_, _, L_far⟩ := e_far
  obtain ⟨_, _, L_letters⟩ := e_letters
  obtain ⟨_, _, L_raised⟩ := e_raised
  obtain ⟨_, _, L_kinds⟩ := e_kinds
  obtain ⟨_, _, L_at⟩ := e_at
  obtain ⟨_, _, L_wanted⟩ := e_wanted
  obtain ⟨_, _, L_name⟩ := e_name
  obtain ⟨_, _, L_is⟩ := e_is
  obtain ⟨⟨c, W⟩, R⟩ := x_X
  have R : RX K mg c W := R
  have c1 := ok_draw (P := P) (w := w) (base := base) L_draw T
  have c2 := ok_open (P := P) (w := w) (base := base) L_open T
  have c3 := ok_far L_far T c1
  have c4 := ok_letters L_letters T c1
  have c5 := ok_raised (P := P) (w := w) (base := base) L_raised T R
  have c6 := ok_kinds L_kinds T R c5
  have c7 := ok_at L_at R c5
  have c8 := ok_wanted L_wanted R c5
  have c9 := ok_name L_name R c5
  have c10 := ok_is (P := P) (w := w) (base := base) L_is T
  exact ok_law L T c2 c1 c3 c4 c6 c7 c8 c9 c10
end K19
open PySem PySem.W PyProof.Rows
set_option maxRecDepth 100000 in
set_option maxHeartbeats 0 in
theorem PySem.Challenge.cw_weirmark_k19_refusals_apart_holds : PySem.Challenge.rw_weirmark_k19_refusals_apart.Holds := by
  w_on; o_law; k_head; (case hw => w_witness2)
  k_fill
  refine K19.walk (l := PySem.Challenge.rw_weirmark_k19_refusals_apart) rfl rfl (fun w h Y => PySem.W.kIn_of Y) ?F
  case F =>
    intro w mg fa h KX G hmg
    have m_len : mg "len" = none := by
      refine' PySem.W.mg_none_of KX G ?a1
      (case a1 => k_is)
    have m_abs : mg "abs" = none := by
      refine' PySem.W.mg_none_of KX G ?a2
      (case a2 => k_is)
    have m_range : mg "range" = none := by
      refine' PySem.W.mg_none_of KX G ?a3
      (case a3 => k_is)
    have m_isinstance : mg "isinstance" = none := by
      refine' PySem.W.mg_none_of KX G ?a4
      (case a4 => k_is)
    have m_int : mg "int" = none := by
      refine' PySem.W.mg_none_of KX G ?a5
      (case a5 => k_is)
    have m_str : mg "str" = none := by
      refine' PySem.W.mg_none_of KX G ?a6
      (case a6 => k_is)
    have m_bool : mg "bool" = none := by
      refine' PySem.W.mg_none_of KX G ?a7
      (case a7 => k_is)
    have m_max : mg "max" = none := by
      refine' PySem.W.mg_none_of KX G ?a8
      (case a8 => k_is)
    have m_min : mg "min" = none := by
      refine' PySem.W.mg_none_of KX G ?a9
      (case a9 => k_is)
    have m_ValueError : mg "ValueError" = none := by
      refine' PySem.W.mg_none_of KX G ?a10
      (case a10 => k_is)
    have e_open : ∃ f fd, L2.Lk (L2.KOf KX) mg "_law_open" K19.s_open ["_law_script", "_law_place"] f fd := by
      dsimp only [L2.KOf]
      refine' L2.lk_mk KX G ?a11 ?l11 ?c11 ?k11 ?b11
      (case a11 => k_is); (case l11 => k_is); (case c11 => k_is); (case k11 => k_is)
      (case b11 => exact fun _ _ _ _ _ _ us hl => match us, hl with | [_, _], _ => rfl)
    have e_draw : ∃ f fd, L2.Lk (L2.KOf KX) mg "_law_draw" K19.s_draw ["_law_hand", "_law_many"] f fd := by
      dsimp only [L2.KOf]
      refine' L2.lk_mk KX G ?a12 ?l12 ?c12 ?k12 ?b12
      (case a12 => k_is); (case l12 => k_is); (case c12 => k_is); (case k12 => k_is)
      (case b12 => exact fun _ _ _ _ _ _ us hl => match us, hl with | [_, _], _ => rfl)
    have e_far : ∃ f fd, L2.Lk (L2.KOf KX) mg "_law_far" K19.s_far ["_law_hand", "_law_bound"] f fd := by
      dsimp only [L2.KOf]
      refine' L2.lk_mk KX G ?a13 ?l13 ?c13 ?k13 ?b13
      (case a13 => k_is); (case l13 => k_is); (case c13 => k_is); (case k13 => k_is)
      (case b13 => exact fun _ _ _ _ _ _ us hl => match us, hl with | [_, _], _ => rfl)
    have e_letters : ∃ f fd, L2.Lk (L2.KOf KX) mg "_law_letters" K19.s_letters ["_law_hand", "_law_many"] f fd := by
      dsimp only [L2.KOf]
      refine' L2.lk_mk KX G ?a14 ?l14 ?c14 ?k14 ?b14
      (case a14 => k_is); (case l14 => k_is); (case c14 => k_is); (case k14 => k_is)
      (case b14 => exact fun _ _ _ _ _ _ us hl => match us, hl with | [_, _], _ => rfl)
    have e_raised : ∃ f fd, L2.Lk (L2.KOf KX) mg "_law_raised" K19.s_raised ["_law_k", "_law_word", "_law_number"] f fd := by
      dsimp only [L2.KOf]
      refine' L2.lk_mk KX G ?a15 ?l15 ?c15 ?k15 ?b15
      (case a15 => k_is); (case l15 => k_is); (case c15 => k_is); (case k15 => k_is)
      (case b15 => exact fun _ _ _ _ _ _ us hl => match us, hl with | [_, _, _], _ => rfl)
    have e_kinds : ∃ f fd, L2.Lk (L2.KOf KX) mg "_law_kinds" K19.s_kinds ["_law_k", "_law_word", "_law_number"] f fd := by
      dsimp only [L2.KOf]
      refine' L2.lk_mk KX G ?a16 ?l16 ?c16 ?k16 ?b16
      (case a16 => k_is); (case l16 => k_is); (case c16 => k_is); (case k16 => k_is)
      (case b16 => exact fun _ _ _ _ _ _ us hl => match us, hl with | [_, _, _], _ => rfl)
    have e_at : ∃ f fd, L2.Lk (L2.KOf KX) mg "_law_at" K19.s_at ["_law_k", "_law_number"] f fd := by
      dsimp only [L2.KOf]
      refine' L2.lk_mk KX G ?a17 ?l17 ?c17 ?k17 ?b17
      (case a17 => k_is); (case l17 => k_is); (case c17 => k_is); (case k17 => k_is)
      (case b17 => exact fun _ _ _ _ _ _ us hl => match us, hl with | [_, _], _ => rfl)
    have e_wanted : ∃ f fd, L2.Lk (L2.KOf KX) mg "_law_wanted" K19.s_wanted ["_law_k", "_law_number"] f fd := by
      dsimp only [L2.KOf]
      refine' L2.lk_mk KX G ?a18 ?l18 ?c18 ?k18 ?b18
      (case a18 => k_is); (case l18 => k_is); (case c18 => k_is); (case k18 => k_is)
      (case b18 => exact fun _ _ _ _ _ _ us hl => match us, hl with | [_, _], _ => rfl)
    have e_name : ∃ f fd, L2.Lk (L2.KOf KX) mg "_law_name" K19.s_name ["_law_k", "_law_word"] f fd := by
      dsimp only [L2.KOf]
      refine' L2.lk_mk KX G ?a19 ?l19 ?c19 ?k19 ?b19
      (case a19 => k_is); (case l19 => k_is); (case c19 => k_is); (case k19 => k_is)
      (case b19 => exact fun _ _ _ _ _ _ us hl => match us, hl with | [_, _], _ => rfl)
    have e_is : ∃ f fd, L2.Lk (L2.KOf KX) mg "_law_is" K19.s_is ["_law_found", "_law_due"] f fd := by
      dsimp only [L2.KOf]
      refine' L2.lk_mk KX G ?a20 ?l20 ?c20 ?k20 ?b20
      (case a20 => k_is); (case l20 => k_is); (case c20 => k_is); (case k20 => k_is)
      (case b20 => exact fun _ _ _ _ _ _ us hl => match us, hl with | [_, _], _ => rfl)
    have x_X : ∃ C, K19.RX_X (L2.KOf KX) mg C := by
      dsimp only [L2.KOf]
      refine' K19.rx_X_mk KX G ?XaW ?Xa0 ?Xa1 ?Xa2 ?Xa3 ?Xa4 ?Xa5 ?Xa6 ?Xa7 ?Xa8 ?Xa9 ?Xa10 ?Xa11 ?Xa12 ?Xa13 ?Xa14 ?Xn4 ?Xs4 ?Xl4 ?Xd4 ?Xk4 ?Xn5 ?Xs5 ?Xl5 ?Xd5 ?Xk5 ?Xn6 ?Xs6 ?Xl6 ?Xd6 ?Xk6 ?Xn7 ?Xs7 ?Xl7 ?Xd7 ?Xk7 ?Xn8 ?Xs8 ?Xl8 ?Xd8 ?Xk8 ?Xn11 ?Xs11 ?Xl11 ?Xd11 ?Xk11 ?Xn14 ?Xs14 ?Xl14 ?Xd14 ?Xk14 ?Xchk
      (case XaW => k_is); (case Xa0 => k_is); (case Xa1 => k_is); (case Xa2 => k_is); (case Xa3 => k_is); (case Xa4 => k_is); (case Xa5 => k_is); (case Xa6 => k_is); (case Xa7 => k_is); (case Xa8 => k_is); (case Xa9 => k_is); (case Xa10 => k_is); (case Xa11 => k_is); (case Xa12 => k_is); (case Xa13 => k_is); (case Xa14 => k_is); (case Xn4 => k_is); (case Xs4 => k_is); (case Xl4 => k_is); (case Xd4 => k_is); (case Xk4 => k_is); (case Xn5 => k_is); (case Xs5 => k_is); (case Xl5 => k_is); (case Xd5 => k_is); (case Xk5 => k_is); (case Xn6 => k_is); (case Xs6 => k_is); (case Xl6 => k_is); (case Xd6 => k_is); (case Xk6 => k_is); (case Xn7 => k_is); (case Xs7 => k_is); (case Xl7 => k_is); (case Xd7 => k_is); (case Xk7 => k_is); (case Xn8 => k_is); (case Xs8 => k_is); (case Xl8 => k_is); (case Xd8 => k_is); (case Xk8 => k_is); (case Xn11 => k_is); (case Xs11 => k_is); (case Xl11 => k_is); (case Xd11 => k_is); (case Xk11 => k_is); (case Xn14 => k_is); (case Xs14 => k_is); (case Xl14 => k_is); (case Xd14 => k_is); (case Xk14 => k_is)
      (case Xchk => kernel_rfl!)
    have e_law : ∃ f fd, (∀ (s : Shared) (v : Value), BindsTo s fd ⟨[v], []⟩ [("_law_script", v)]) ∧ L2.Lk (L2.KOf KX) mg "law" K19.s_law ["_law_script"] f fd := by
      dsimp only [L2.KOf]
      refine' K19.lk_law KX G ?a21 ?l21 ?c21 ?k21
      (case a21 => k_is); (case l21 => k_is); (case c21 => k_is); (case k21 => k_is)
    obtain ⟨f0, fd0, bd, L0⟩ := e_law
    have e0 := hmg.symm.trans L0.m
    cases e0
    exact ⟨fd0, bd, fun base _ _ => K19.all_ok ⟨m_len, m_abs, m_range, m_isinstance, m_int, m_str, m_bool, m_max, m_min, m_ValueError⟩  e_open e_draw e_far e_letters e_raised e_kinds e_at e_wanted e_name e_is x_X L0⟩

end
