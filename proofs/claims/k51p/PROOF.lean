import PyProof.Rows.All
import Wide.All
import OpenK.AllK
import Wide.FinOn
import Lean
import PyProof.EqAt
import PyProof.EqKinds
import PyProof.TupleCall
import KE.KRevSl
import KE.KSortTup
import PyProof.Rows.SortShell
import PySem.Challenge.RW_weirmark_k51_stretches
set_option Elab.async false
set_option linter.all false
set_option maxRecDepth 100000
section
set_option Elab.async false
set_option linter.all false
set_option maxRecDepth 100000
namespace L2
open PySem PySem.Spec PyProof.Rows
abbrev Key := Sum Int Str
def keyIs : Key → Value → Bool
  | .inl k, v => Value.isInt k v
  | .inr x, v => Value.isStrOf x v
def keyH (w : World) : Key → Int
  | .inl k => hashInt k
  | .inr x => hashStr w x
theorem keyIs_shape : ∀ {k : Key} {v : Value}, keyIs k v = true → (∃ i t, k = Sum.inl i ∧ v = Value.int i t) ∨ (∃ x t, k = Sum.inr x ∧ v = Value.str x t)
  | .inl i, v, h => by
    obtain ⟨t, e⟩ := Value.isInt_shape (k := i) (v := v) h
    exact .inl ⟨i, t, rfl, e⟩
  | .inr x, v, h => by
    obtain ⟨t, e⟩ := Value.isStrOf_shape (x := x) (v := v) h
    exact .inr ⟨x, t, rfl, e⟩
theorem keyIs_int (i : Int) (t : Tok) : keyIs (.inl i) (.int i t) = true := by simp [keyIs, Value.isInt]
theorem keyIs_str (x : Str) (t : Tok) : keyIs (.inr x) (.str x t) = true := by simp [keyIs, Value.isStrOf]
theorem key_ll (a b : Int) : decide ((Sum.inl a : Key) = Sum.inl b) = (a == b) := by
  by_cases e : a = b
  · subst e; simp
  · have h : ¬ (Sum.inl a : Key) = Sum.inl b := fun q => e (Sum.inl.inj q)
    rw [decide_eq_false h]
    exact (beq_eq_false_iff_ne.mpr e).symm
theorem key_rr (a b : Str) : decide ((Sum.inr a : Key) = Sum.inr b) = decide (a = b) := by
  by_cases e : a = b
  · subst e; simp
  · have h : ¬ (Sum.inr a : Key) = Sum.inr b := fun q => e (Sum.inr.inj q)
    rw [decide_eq_false h, decide_eq_false e]
theorem key_lr (a : Int) (b : Str) : decide ((Sum.inl a : Key) = Sum.inr b) = false := decide_eq_false (fun q => nomatch q)
theorem key_rl (a : Str) (b : Int) : decide ((Sum.inr a : Key) = Sum.inl b) = false := decide_eq_false (fun q => nomatch q)
def mixKind (prog : Program) (w : World) : PySem.KeyKind prog w Key where
  is := keyIs
  hash := keyH w
  inj := fun v a b ha hb => by
    rcases keyIs_shape ha with ⟨i, t, rfl, rfl⟩ | ⟨x, t, rfl, rfl⟩
    · rcases keyIs_shape hb with ⟨j, u, rfl, e⟩ | ⟨y, u, rfl, e⟩
      · injection e with e1 _; rw [e1]
      · exact nomatch e
    · rcases keyIs_shape hb with ⟨j, u, rfl, e⟩ | ⟨y, u, rfl, e⟩
      · exact nomatch e
      · injection e with e1 _; rw [e1]
  byValue := fun k v h => by
    rcases keyIs_shape h with ⟨i, t, rfl, rfl⟩ | ⟨x, t, rfl, rfl⟩ <;> rfl
  pyHash := fun hv h => by
    rcases keyIs_shape hv with ⟨i, t, rfl, rfl⟩ | ⟨x, t, rfl, rfl⟩
    · exact wpAny_pyHash_int h
    · exact wpAny_pyHash_str h
  eqBool := fun hu hv h => by
    rcases keyIs_shape hu with ⟨i, t, rfl, rfl⟩ | ⟨x, t, rfl, rfl⟩
    · rcases keyIs_shape hv with ⟨j, u, rfl, rfl⟩ | ⟨y, u, rfl, rfl⟩
      · rw [key_ll] at h; exact wpAny_eqBool_int h
      · rw [key_lr] at h; exact SeqAt.EqAt.int_str i t y u _ _ _ _ h
    · rcases keyIs_shape hv with ⟨j, u, rfl, rfl⟩ | ⟨y, u, rfl, rfl⟩
      · rw [key_rl] at h; exact SeqAt.EqAt.str_int x t j u _ _ _ _ h
      · rw [key_rr] at h; exact wpAny_eqBool_str h
  «strs» := fun k x t v h => by
    rcases keyIs_shape h with ⟨i, u, rfl, e⟩ | ⟨y, u, rfl, e⟩
    · exact nomatch e
    · injection e with e1 _
      subst e1
      cases v <;> rfl
theorem mixKind_is (prog : Program) (w : World) (k : Key) (v : Value) : (mixKind prog w).is k v = keyIs k v := rfl
theorem mixKind_int (prog : Program) (w : World) (i : Int) (t : Tok) : (mixKind prog w).is (.inl i) (.int i t) = true := keyIs_int i t
theorem mixKind_str (prog : Program) (w : World) (x : Str) (t : Tok) : (mixKind prog w).is (.inr x) (.str x t) = true := keyIs_str x t
end L2
namespace L2
open PySem PySem.Spec PyProof.Rows
inductive V where
  | non | bl (b : Bool) | int (i : Int) | str (x : Str) | byt (b : Array UInt8) | flt (b : UInt64) | ref (a : Addr) | ty (n : String)
  deriving DecidableEq
def RelV : V → Value → Prop
  | .non, u => u = Value.none
  | .bl b, u => u = Value.bool b
  | .int i, u => ∃ t, u = Value.int i t
  | .str x, u => ∃ t, u = Value.str x t
  | .byt b, u => ∃ t, u = Value.bytes b t
  | .flt b, u => ∃ t, u = Value.float b t
  | .ref a, u => u = Value.ref a
  | .ty n, u => u = Value.type n
abbrev Vals : List V → List Value → Prop := Paired RelV
theorem Vals.length {xs : List V} {us : List Value} (r : Vals xs us) : xs.length = us.length := Paired.length r
theorem Vals.get : ∀ {xs : List V} {us : List Value} {i : Nat} {x : V}, Vals xs us → xs[i]? = some x → ∃ u, us[i]? = some u ∧ RelV x u
  | _, _, _, _, .nil, e => by simp at e
  | _, _, 0, _, .cons r _, e => by simp at e; subst e; exact ⟨_, rfl, r⟩
  | _, _, i + 1, x, .cons _ t, e => by
    obtain ⟨u, h1, h2⟩ := Vals.get (i := i) (x := x) t (by simpa using e)
    exact ⟨u, by simpa using h1, h2⟩
theorem Vals.set {x : V} {u : Value} (r : RelV x u) : ∀ {xs : List V} {us : List Value} (i : Nat), Vals xs us → Vals (xs.set i x) (us.set i u)
  | _, _, _, .nil => .nil
  | _, _, 0, .cons _ t => .cons r t
  | _, _, i + 1, .cons q t => .cons q (Vals.set r i t)
theorem Vals.append : ∀ {xs ys : List V} {us ws : List Value}, Vals xs us → Vals ys ws → Vals (xs ++ ys) (us ++ ws)
  | _, _, _, _, .nil, s => s
  | _, _, _, _, .cons r t, s => .cons r (Vals.append t s)
theorem Vals.take : ∀ {xs : List V} {us : List Value} (n : Nat), Vals xs us → Vals (xs.take n) (us.take n)
  | _, _, 0, _ => .nil
  | _, _, _ + 1, .nil => .nil
  | _, _, n + 1, .cons r t => .cons r (Vals.take n t)
theorem Vals.drop : ∀ {xs : List V} {us : List Value} (n : Nat), Vals xs us → Vals (xs.drop n) (us.drop n)
  | _, _, 0, r => r
  | _, _, _ + 1, .nil => .nil
  | _, _, n + 1, .cons _ t => Vals.drop n t
theorem Vals.none_of : ∀ {xs : List V} {us : List Value} {i : Nat}, Vals xs us → xs[i]? = none → us[i]? = none := fun {xs us i} r e => by
  have h1 := r.length
  have h2 : xs.length ≤ i := List.getElem?_eq_none_iff.mp e
  exact List.getElem?_eq_none_iff.mpr (by omega)
def RelO : Option V → Option Value → Prop
  | some v, some u => RelV v u
  | none, none => True
  | _, _ => False
def KV {κ : Type} : List (κ × V) → List (κ × Value) → Prop := Paired fun (p : κ × V) (q : κ × Value) => p.1 = q.1 ∧ RelV p.2 q.2
def kV : Key → V
  | .inl i => .int i
  | .inr x => .str x
inductive HO where
  | lst (xs : List V)
  | tup (xs : List V)
  | dK (kvs : List (Key × V)) | dT (kvs : List (List Key × V))
  | set (S : Int → Bool) (n : Nat)
  | ins (C dx : Addr) (fs : List (Str × V))
  | own (x : Addr)
  | xd (fs : List (Str × V))
  | met (f x : Addr)
  | rng (lo hi : Int)
  | frz (o : Obj) (u : HO)
  | tbl (ps : Array Value)
  | ext (φ : Heap → Prop)
abbrev Hp := Addr → Option HO
def upd (H : Hp) (a : Addr) (o : HO) : Hp := fun b => if b = a then some o else H b
theorem upd_same {H : Hp} {a : Addr} {o : HO} : upd H a o a = some o := by unfold upd; rw [if_pos rfl]
theorem upd_ne {H : Hp} {a b : Addr} {o : HO} (h : b ≠ a) : upd H a o b = H b := by unfold upd; rw [if_neg h]
theorem upd_upd {H : Hp} {a : Addr} {o u : HO} : upd (upd H a o) a u = upd H a u := by
  funext b; unfold upd; split <;> rfl
theorem ne_of {H : Hp} {a b : Addr} {o u : HO} (h : H a = some o) (h' : H b = some u) (d : o ≠ u) : a ≠ b := by
  intro e; subst e; rw [h] at h'; exact d (Option.some.inj h')
theorem ne_of_none {H : Hp} {a b : Addr} {o : HO} (h : H a = some o) (h' : H b = none) : a ≠ b := by
  intro e; subst e; rw [h] at h'; cases h'
section
variable (P : Program) (w : World)
def ObjOk (H : Hp) (h : Heap) (a : Addr) : HO → Prop
  | .lst xs => xs.length ≤ sizeLine ∧ ∃ (its : List Value) (n : Nat), Vals xs its ∧ h.get? a = some { cls := .type "list", data := .seq its.toArray n }
  | .tup xs => xs.length ≤ sizeLine ∧ ∃ its : List Value, Vals xs its ∧ IsTup h a its.toArray
  | .dK kvs => kvs.length ≤ sizeLine ∧ (a == sysModules) = false ∧ ∃ vs, KV kvs vs ∧ h.DictOf (mixKind P w) a vs
  | .dT kvs => kvs.length ≤ sizeLine ∧ (a == sysModules) = false ∧ ∃ xs : List (List Key × Addr × Value),
      Paired (fun (p : List Key × V) (q : List Key × Addr × Value) => p.1 = q.1 ∧ H q.2.1 = some (.tup (p.1.map kV)) ∧ RelV p.2 q.2.2) kvs xs ∧
      ∃ o es ep, h.get? a = some o ∧ o.ExactDict ∧ o.data = .dict es ep ∧ es.toList = xs.map (entryOfKey (tupleKind (mixKind P w))) ∧ (xs.map (·.1)).Nodup
  | .set S n => h.SetOf (intKind P w) a S n
  | .ins C dx fs => H dx = some (.own a) ∧ fs.length ≤ 1000 ∧ dx ≠ a ∧ h.get? a = some (PySem.W.instObj C dx) ∧
      ∃ mA, h.Ns1 dx mA ∧ (∀ f, RelO (fs.lookup f) (mA f)) ∧ PySem.Within mA (fs.map (·.1))
  | .own _ => ∃ o, h.get? a = some o
  | .xd fs => ∃ mA, h.Ns1 a mA ∧ ∀ f, RelO (fs.lookup f) (mA f)
  | .rng lo hi => ∃ t u v, h.get? a = some { cls := .type "range", data := .fields #[.int lo t, .int hi u, .int 1 v] }
  | .frz o u => h.get? a = some o ∧ ObjOk H h a u
  | .tbl ps => h.get? a = some { cls := .none, data := .fields ps }
  | .met f x => h.get? a = some (PySem.W.methodObj (.ref f) (.ref x))
  | .ext φ => φ h ∧ (∃ o, h.get? a = some o) ∧ ∀ h1 h2 : Heap, φ h1 → (∀ o, h1.get? a = some o → h2.get? a = some o) → φ h2
def HOk (H : Hp) (h : Heap) : Prop := ∀ a o, H a = some o → ObjOk P w H h a o
end
section
variable {P : Program} {w : World} {H H' : Hp} {h h' : Heap} {a : Addr} {o : HO}
theorem ObjOk.lt (x : ObjOk P w H h a o) : a < h.objs.size := by
  cases o with
  | lst xs => obtain ⟨_, _, _, _, e⟩ := x; exact Heap.lt_size e
  | tup xs => obtain ⟨_, _, _, p⟩ := x; exact p.lt
  | dK kvs => obtain ⟨_, _, _, _, o, _, _, e, _⟩ := x; exact Heap.lt_size e
  | dT kvs => obtain ⟨_, _, _, _, o, _, _, e, _⟩ := x; exact Heap.lt_size e
  | set S n => obtain ⟨o, _, _, _, e, _⟩ := x; exact Heap.lt_size e
  | ins C dx fs => obtain ⟨_, _, _, e, _⟩ := x; exact Heap.lt_size e
  | own y => obtain ⟨_, e⟩ := x; exact Heap.lt_size e
  | xd fs => obtain ⟨_, ⟨_, _, _, e, _⟩, _⟩ := x; exact Heap.lt_size e
  | rng lo hi => obtain ⟨_, _, _, e⟩ := x; exact Heap.lt_size e
  | frz ob u => obtain ⟨e, _⟩ := x; exact Heap.lt_size e
  | tbl ps => exact Heap.lt_size (show h.get? a = some _ from x)
  | met f y => exact Heap.lt_size (show h.get? a = some _ from x)
  | ext φ => obtain ⟨_, ⟨_, e⟩, _⟩ := x; exact Heap.lt_size e
theorem Paired.mapP {α β : Type} {F G : α → β → Prop} : ∀ {l₁ : List α} {l₂ : List β}, Paired F l₁ l₂ → (∀ a b, F a b → G a b) → Paired G l₁ l₂
  | _, _, .nil, _ => .nil
  | _, _, .cons r t, f => .cons (f _ _ r) (Paired.mapP t f)
theorem Paired.imp' {α β : Type} {F G : α → β → Prop} (f : ∀ a b, F a b → G a b) {l₁ : List α} {l₂ : List β} (r : Paired F l₁ l₂) : Paired G l₁ l₂ := Paired.mapP r f
theorem ObjOk.stay (x : ObjOk P w H h a o) (k : ∀ b u, (b = a ∨ H b = some (.own a)) → h.get? b = some u → h'.get? b = some u)
    (ho : ∀ b, H b = some (.own a) → H' b = some (.own a)) (ht : ∀ b xs, H b = some (.tup xs) → H' b = some (.tup xs)) : ObjOk P w H' h' a o := by
  induction o with
  | lst xs => obtain ⟨z, its, n, r, e⟩ := x; exact ⟨z, its, n, r, k _ _ (.inl rfl) e⟩
  | tup xs => obtain ⟨z, its, r, ob, e, c⟩ := x; exact ⟨z, its, r, ob, k _ _ (.inl rfl) e, c⟩
  | dK kvs => obtain ⟨z, y, vs, r, ob, es, ep, e, c⟩ := x; exact ⟨z, y, vs, r, ob, es, ep, k _ _ (.inl rfl) e, c⟩
  | dT kvs =>
    obtain ⟨z, y, xs, r, ob, es, ep, e, c⟩ := x
    exact ⟨z, y, xs, Paired.mapP r fun p q z => ⟨z.1, ht _ _ z.2.1, z.2.2⟩, ob, es, ep, k _ _ (.inl rfl) e, c⟩
  | set S n => obtain ⟨ob, es, ep, t, e, c⟩ := x; exact ⟨ob, es, ep, t, k _ _ (.inl rfl) e, c⟩
  | ins C dx fs =>
    obtain ⟨d, z, ne, e, mA, ⟨od, es, ep, e2, c⟩, r⟩ := x
    exact ⟨ho _ d, z, ne, k _ _ (.inl rfl) e, mA, ⟨od, es, ep, k _ _ (.inr d) e2, c⟩, r⟩
  | own y => obtain ⟨ob, e⟩ := x; exact ⟨ob, k _ _ (.inl rfl) e⟩
  | xd fs => obtain ⟨mA, ⟨od, es, ep, e, c⟩, r⟩ := x; exact ⟨mA, ⟨od, es, ep, k _ _ (.inl rfl) e, c⟩, r⟩
  | rng lo hi => obtain ⟨t, u, v, e⟩ := x; exact ⟨t, u, v, k _ _ (.inl rfl) e⟩
  | frz ob u ih => obtain ⟨e, q⟩ := x; exact ⟨k _ _ (.inl rfl) e, ih q⟩
  | tbl ps =>
    have e : h.get? a = some { cls := .none, data := .fields ps } := x
    show h'.get? a = some { cls := .none, data := .fields ps }
    exact k a _ (.inl rfl) e
  | met f y =>
    have e : h.get? a = some (PySem.W.methodObj (.ref f) (.ref y)) := x
    show h'.get? a = some (PySem.W.methodObj (.ref f) (.ref y))
    exact k a _ (.inl rfl) e
  | ext φ => obtain ⟨p, ⟨o, e⟩, st⟩ := x; exact ⟨st _ _ p fun o q => k _ _ (.inl rfl) q, ⟨o, k _ _ (.inl rfl) e⟩, st⟩
theorem HOk.lt (x : HOk P w H h) (e : H a = some o) : a < h.objs.size := (x a o e).lt
theorem HOk.fresh (x : HOk P w H h) (e : h.objs.size ≤ a) : H a = none := by
  cases q : H a with
  | none => rfl
  | some u => exact absurd (Nat.lt_of_lt_of_le (x.lt q) e) (Nat.lt_irrefl _)
theorem HOk.kept (x : HOk P w H h) (k : ∀ b u, h.get? b = some u → h'.get? b = some u) : HOk P w H h' := fun a o e =>
  (x a o e).stay (fun b u _ q => k b u q) (fun _ q => q) fun _ _ q => q
theorem HOk.laid (x : HOk P w H h) (k : ∀ b u, h.get? b = some u → h'.get? b = some u) (hp : h.objs.size ≤ a) (new : ObjOk P w (upd H a o) h' a o) : HOk P w (upd H a o) h' := fun b u e => by
  have hn := x.fresh hp
  by_cases hb : b = a
  · subst hb; rw [upd_same] at e; cases e; exact new
  · rw [upd_ne hb] at e
    exact (x b u e).stay (fun c v _ q => k c v q) (fun c q => by rw [upd_ne (ne_of_none q hn)]; exact q) fun c xs q => by rw [upd_ne (ne_of_none q hn)]; exact q
end
def Rd (H : Hp) (a : Addr) (u : HO) : Prop := H a = some u ∨ ∃ o, H a = some (.frz o u)
theorem Rd.of {H : Hp} {a : Addr} {u : HO} (h : H a = some u) : Rd H a u := .inl h
theorem Rd.ok {P : Program} {w : World} {H : Hp} {h : Heap} {a : Addr} {u : HO} (r : Rd H a u) (x : HOk P w H h) : ObjOk P w H h a u := by
  rcases r with r | ⟨o, r⟩
  · exact x a u r
  · obtain ⟨_, q⟩ := x a _ r
    exact q
def Mut : Option HO → Prop
  | some (.lst _) => True
  | some (.dK _) => True
  | some (.dT _) => True
  | some (.set _ _) => True
  | some (.ins _ _ _) => True
  | some (.ext _) => True
  | _ => False
section
variable {P : Program} {w : World} {H : Hp} {h h' : Heap} {x e : Addr} {o' : HO}
theorem HOk.write (ok : HOk P w H h) (mu : Mut (H x)) (he : e = x ∨ H e = some (.own x)) (k : ∀ b u, b ≠ e → h.get? b = some u → h'.get? b = some u) (heo : ∃ u, h'.get? e = some u)
    (new : ObjOk P w (upd H x o') h' x o') : HOk P w (upd H x o') h' := fun b u q => by
  have nown : ∀ c y, H c = some (.own y) → c ≠ x := fun c y r z => by subst z; rw [r] at mu; exact mu
  have ntup : ∀ c xs, H c = some (.tup xs) → c ≠ x := fun c xs r z => by subst z; rw [r] at mu; exact mu
  by_cases hb : b = x
  · subst hb; rw [upd_same] at q; cases q; exact new
  · rw [upd_ne hb] at q
    by_cases hbe : b = e
    · have q' : H b = some (.own x) := by
        rcases he with z | z
        · exact absurd (hbe.trans z) hb
        · rw [hbe]; exact z
      rw [q] at q'; cases q'
      obtain ⟨v, hv⟩ := heo
      exact ⟨v, by rw [hbe]; exact hv⟩
    · refine (ok b u q).stay (fun c v hc r => k c v ?_ r) (fun c r => by rw [upd_ne (nown c b r)]; exact r) fun c xs r => by rw [upd_ne (ntup c xs r)]; exact r
      rcases hc with rfl | hc
      · exact hbe
      · rintro rfl
        rcases he with z | z
        · exact nown c b hc z
        · rw [hc] at z; cases z; exact hb rfl
end
structure Un (fs ex : List Addr) (H H' : Hp) (h h' : Heap) : Prop where
  keep : ∀ b o, h.get? b = some o → H b = none → b ∉ fs → b ∉ ex → h'.get? b = some o
  slot : ∀ b o, h.get? b = some o → H b = none → b ∈ fs → b ∉ ex → ∃ sl, h'.get? b = some { o with slots := sl }
  free : ∀ b o, h.get? b = some o → H b = none → b ∉ ex → H' b = none
  there : ∀ b o, h.get? b = some o → b ∉ ex → ∃ o', h'.get? b = some o'
  tups : ∀ b xs, H b = some (.tup xs) → H' b = some (.tup xs)
  frzs : ∀ b o u, H b = some (.frz o u) → H' b = some (.frz o u)
  tbls : ∀ b ps, H b = some (.tbl ps) → ∃ more, H' b = some (.tbl (ps ++ more))
section
variable {fs fs' ex ex' : List Addr} {H H1 H2 : Hp} {h h1 h2 h' : Heap} {a x e : Addr} {o : HO}
theorem Un.any (u : Un fs ex H H1 h h1) {b : Addr} {ob : Obj} (q : h.get? b = some ob) (n : H b = none) (hx : b ∉ ex) : ∃ sl, h1.get? b = some { ob with slots := sl } := by
  by_cases hb : b ∈ fs
  · exact u.slot b ob q n hb hx
  · exact ⟨ob.slots, u.keep b ob q n hb hx⟩
theorem Un.trans (a : Un fs ex H H1 h h1) (b : Un fs ex H1 H2 h1 h2) : Un fs ex H H2 h h2 where
  keep := fun c ob q n hc hx => b.keep c ob (a.keep c ob q n hc hx) (a.free c ob q n hx) hc hx
  slot := fun c ob q n hc hx => by
    obtain ⟨sl, e1⟩ := a.slot c ob q n hc hx
    obtain ⟨sl', e2⟩ := b.slot c _ e1 (a.free c ob q n hx) hc hx
    exact ⟨sl', e2⟩
  free := fun c ob q n hx => by
    obtain ⟨o', e1⟩ := a.there c ob q hx
    exact b.free c o' e1 (a.free c ob q n hx) hx
  there := fun c ob q hx => by
    obtain ⟨o', e1⟩ := a.there c ob q hx
    exact b.there c o' e1 hx
  tups := fun c xs q => b.tups c xs (a.tups c xs q)
  frzs := fun c ob xs q => b.frzs c ob xs (a.frzs c ob xs q)
  tbls := fun c ps q => by
    obtain ⟨m1, e1⟩ := a.tbls c ps q
    obtain ⟨m2, e2⟩ := b.tbls c _ e1
    exact ⟨m1 ++ m2, by rw [e2, Array.append_assoc]⟩
theorem Un.kept (k : ∀ b u, h.get? b = some u → h'.get? b = some u) : Un fs ex H H h h' :=
  ⟨fun b ob q _ _ _ => k b ob q, fun b ob q _ _ _ => ⟨ob.slots, k b ob q⟩, fun _ _ _ n _ => n, fun b ob q _ => ⟨ob, k b ob q⟩, fun _ _ q => q, fun _ _ _ q => q, fun _ ps q => ⟨#[], by rw [q]; simp⟩⟩
theorem Un.refl : Un fs ex H H h h := Un.kept fun _ _ q => q
theorem Un.laid (k : ∀ b u, h.get? b = some u → h'.get? b = some u) (hp : h.objs.size ≤ a) (hn : H a = none) : Un fs ex H (upd H a o) h h' where
  keep := fun b u q _ _ _ => k b u q
  slot := fun b u q _ _ _ => ⟨u.slots, k b u q⟩
  free := fun b u q n _ => by rw [upd_ne (Nat.ne_of_lt (Nat.lt_of_lt_of_le (Heap.lt_size q) hp))]; exact n
  there := fun b u q _ => ⟨u, k b u q⟩
  tups := fun b xs q => by rw [upd_ne (ne_of_none q hn)]; exact q
  frzs := fun b u xs q => by rw [upd_ne (ne_of_none q hn)]; exact q
  tbls := fun b ps q => ⟨#[], by rw [upd_ne (ne_of_none q hn), q]; simp⟩
theorem Un.write (mu : Mut (H x)) (he : e = x ∨ H e = some (.own x)) (k : ∀ b u, b ≠ e → h.get? b = some u → h'.get? b = some u) (heo : ∃ u, h'.get? e = some u) : Un fs ex H (upd H x o) h h' := by
  have hx : ∀ b, H b = none → b ≠ x := fun b n z => by subst z; rw [n] at mu; exact mu
  have hb : ∀ b, H b = none → b ≠ e := fun b n z => by
    subst z
    rcases he with r | r
    · exact hx b n r
    · rw [n] at r; cases r
  have hm : ∀ b u, H b = some u → ¬ Mut (some u) → b ≠ x := fun b u q nm z => by subst z; rw [q] at mu; exact nm mu
  refine ⟨fun b u q n _ _ => k b u (hb b n) q, fun b u q n _ _ => ⟨u.slots, k b u (hb b n) q⟩, fun b u q n _ => by rw [upd_ne (hx b n)]; exact n, fun b u q _ => ?_,
    fun b xs q => by rw [upd_ne (hm b _ q fun z => z)]; exact q, fun b u xs q => by rw [upd_ne (hm b _ q fun z => z)]; exact q, fun b ps q => ⟨#[], by rw [upd_ne (hm b _ q fun z => z), q]; simp⟩⟩
  by_cases hbe : b = e
  · subst hbe; exact heo
  · exact ⟨u, k b u hbe q⟩
theorem Un.mono (u : Un fs ex H H1 h h1) (hs : ∀ b ∈ fs, b ∈ fs') (hx : ∀ b ∈ ex, b ∈ ex') : Un fs' ex' H H1 h h1 :=
  ⟨fun b ob q n hb he => u.keep b ob q n (fun z => hb (hs b z)) fun z => he (hx b z), fun _ _ q n _ he => u.any q n fun z => he (hx _ z), fun b ob q n he => u.free b ob q n fun z => he (hx b z), fun b ob q he => u.there b ob q fun z => he (hx b z), u.tups, u.frzs, u.tbls⟩
end
def trk (h : Heap) (H : Hp) : List Addr := (List.range h.objs.size).filter fun a => (H a).isSome
def hidT (h : Heap) (H : Hp) : Heap := PySem.W.hideAll h (trk h H)
theorem hidT_size (h : Heap) (H : Hp) : (hidT h H).objs.size = h.objs.size := PySem.W.hideAll_size _ _
theorem hidT_get {h : Heap} {H : Hp} {b : Addr} {o : Obj} (e : h.get? b = some o) (n : H b = none) : (hidT h H).get? b = some o :=
  PySem.W.hideAll_get _ e fun hm => by
    have q : (H b).isSome = true := (List.mem_filter.mp hm).2
    rw [n] at q; simp at q
theorem of_hidT {h : Heap} {H : Hp} {b : Addr} {o : Obj} (e : (hidT h H).get? b = some o) : h.get? b = some o ∧ H b = none := by
  have e' : h.get? b = some o := PySem.W.of_hideAll (trk h H) e
  refine ⟨e', ?_⟩
  cases q : H b with
  | none => rfl
  | some x =>
    have hm : b ∈ trk h H := List.mem_filter.mpr ⟨List.mem_range.mpr (Heap.lt_size e'), by simp [q]⟩
    have z : (hidT h H).get? b = none := PySem.W.hideAll_none (trk h H) hm
    rw [z] at e; cases e
def allNews (g h : Heap) (L : Addr) : List (Addr × Obj) := (List.range h.objs.size).filterMap fun a => if a = L ∨ (g.get? a).isSome = true then none else (h.get? a).map fun o => (a, o)
theorem mem_allNews {g h : Heap} {L a : Addr} {o : Obj} (h1 : a ≠ L) (h2 : g.get? a = none) (h3 : h.get? a = some o) : (a, o) ∈ allNews g h L :=
  List.mem_filterMap.mpr ⟨a, List.mem_range.mpr (Heap.lt_size h3), by simp [h1, h2, h3]⟩
theorem of_mem_allNews {g h : Heap} {L : Addr} {p : Addr × Obj} (hp : p ∈ allNews g h L) : p.1 ≠ L ∧ g.get? p.1 = none ∧ h.get? p.1 = some p.2 := by
  obtain ⟨b, _, e⟩ := List.mem_filterMap.mp hp
  split at e
  · cases e
  · rename_i hn
    cases q : h.get? b with
    | none => rw [q] at e; simp at e
    | some u =>
      rw [q] at e
      simp only [Option.map_some, Option.some.injEq] at e
      subst e
      refine ⟨fun z => hn (.inl z), ?_, q⟩
      show g.get? b = none
      cases r : g.get? b with
      | none => rfl
      | some v => exact (hn (.inr (by simp [r]))).elim
def rest (g h : Heap) (L d : Addr) : List (Addr × Obj) := (allNews g h L).filter fun p => decide (p.1 ≠ d)
theorem rest_ne {g h : Heap} {L d : Addr} : ∀ p ∈ rest g h L d, p.1 ≠ d := fun p hp => of_decide_eq_true (List.mem_filter.mp hp).2
theorem mem_rest {g h : Heap} {L d a : Addr} {o : Obj} (h1 : a ≠ L) (h2 : g.get? a = none) (h3 : h.get? a = some o) (h4 : a ≠ d) : (a, o) ∈ rest g h L d :=
  List.mem_filter.mpr ⟨mem_allNews h1 h2 h3, decide_eq_true h4⟩
theorem news_all {g h : Heap} {L : Addr} : News g L h (allNews g h L) := fun p hp => let ⟨a, b, c⟩ := of_mem_allNews hp; ⟨c, a, b⟩
theorem news_at {g h : Heap} {L d : Addr} {o : Obj} (h1 : d ≠ L) (h2 : g.get? d = none) (h3 : h.get? d = some o) : News g L h ((d, o) :: rest g h L d) := fun p hp => by
  rcases List.mem_cons.mp hp with rfl | hp
  · exact ⟨h3, h1, h2⟩
  · exact news_all p (List.mem_filter.mp hp).1
theorem kept_of_news {g h h' : Heap} {L d : Addr} {m : Str → Option Value} (k : ∀ b o, g.get? b = some o → h.get? b = some o) (F : Fr g L h' m) (N : News g L h' (rest g h L d)) :
    ∀ b o, b ≠ L → b ≠ d → h.get? b = some o → h'.get? b = some o := fun b o h1 h2 e => by
  cases q : g.get? b with
  | some u =>
    have := k b u q
    rw [e] at this; cases this
    exact F.keep b _ q
  | none => exact (N (b, o) (mem_rest h1 q e h2)).1
end L2
namespace L2
open PySem PySem.Spec PyProof.Rows
structure Mod (K : PySem.W.Frag) (mg : Str → Option Value) (base : Heap) : Prop where
  kin : K.In base
  glob : base.Ns mainGlobals mg
  blt : ∃ mb, base.Ns builtinsNs mb ∧ ∀ x : Str, x ≠ "__name__" → mb x = bootBuiltins x
  nolimit : base.NoLimit
structure Cx where
  prog : Program
  w : World
  K : PySem.W.Frag
  mg : Str → Option Value
  base : Heap
  A : Around
  N : List Str
  s₀ : Shared
  H₀ : Hp
  env : Env
  outer : List Env
  stack : List Env
  ex : List Addr
  fn : Str → Bool
  calm : Bool
  pn : List (Addr × Obj)
  xe : Value → Shared → Prop
def frs (l : List Env) : List Addr := l.filterMap (·.frame)
abbrev Cx.fs (X : Cx) : List Addr := frs X.outer
def Vis (sc : Scope) (x : Str) : Prop := sc.names.lookup x = some .local ∨ sc.names.lookup x = some .cell ∨ sc.names.lookup x = some .free
def Loc (sc : Scope) (x : Str) : Prop := sc.names.lookup x = some .local ∨ sc.names.lookup x = some .cell
def Look (env : Env) (h : Heap) (m : Str → Option Value) (x : Str) (u : Value) : Prop :=
  (env.kindOf x = some .local ∧ m x = some u) ∨ ((env.kindOf x = some .cell ∨ env.kindOf x = some .free) ∧ ∃ c, env.cells.lookup x = some c ∧ h.IsCell c (some u))
structure Cx.Ok (X : Cx) : Prop where
  mod : Mod X.K X.mg X.base
  kind : X.env.scope.kind = .function
  glob : X.env.globals = mainGlobals
  blt : X.env.builtins = builtinsNs
  above : X.s₀.heap.objs.size ≤ X.env.locals
  inj : ∀ x y c, X.env.cells.lookup x = some c → X.env.cells.lookup y = some c → x = y
  has : ∀ x, (X.env.kindOf x = some .cell ∨ X.env.kindOf x = some .free) → ∃ c, X.env.cells.lookup x = some c
  cab : ∀ x c, X.fn x = true → X.env.cells.lookup x = some c → X.s₀.heap.objs.size ≤ c
  hd : X.calm = true → X.A.handled = none
  frames : X.A.frames = some X.stack
  stk : X.stack = X.outer ∨ (X.stack = X.env :: X.outer ∧ X.env.frame = some X.env.locals)
  exf : ∀ b ∈ X.ex, b ≠ X.env.locals ∧ ∀ x c, X.env.cells.lookup x = some c → c ≠ b
  bs : ∀ b o, X.base.get? b = some o → X.s₀.heap.get? b = some o ∧ X.H₀ b = none
  bsz : X.base.objs.size ≤ X.s₀.heap.objs.size
  noex : ∀ b o, X.base.get? b = some o → b ∉ X.ex
  exfs : ∀ b ∈ X.ex, b ∉ X.fs
  funs : X.s₀.heap.FunFrames X.base X.outer
  frf : ∀ b ∈ X.fs, X.H₀ b = none
structure Inv (X : Cx) (pins : List (Addr × Obj)) (σ : List (Option V)) (H : Hp) (s : Shared) : Prop where
  ok : X.Ok
  os : s.os = X.s₀.os
  bare : AllBare s.gens
  base : Un X.fs X.ex X.H₀ H X.s₀.heap s.heap
  loc : ∃ m, s.heap.Ns X.env.locals m ∧ ∀ (i : Nat) (x : Str) (v : V), X.N[i]? = some x → σ[i]? = some (some v) → Vis X.env.scope x → ∃ u, RelV v u ∧ Look X.env s.heap m x u
  cell : ∀ x c, X.env.cells.lookup x = some c → ∃ v, s.heap.IsCell c v
  free : H X.env.locals = none
  freeC : ∀ x c, X.env.cells.lookup x = some c → H c = none
  pin : ∀ p ∈ X.pn ++ pins, s.heap.get? p.1 = some p.2 ∧ H p.1 = none ∧ p.1 ≠ X.env.locals ∧ p.1 ∉ X.fs ∧ ∀ v, p.2.data ≠ .cell v
  hok : HOk X.prog X.w H s.heap
  len : σ.length = X.N.length
section
variable {X : Cx} {pins : List (Addr × Obj)} {σ : List (Option V)} {H H' : Hp} {s : Shared} {h' : Heap}
theorem Cx.Ok.nofr (ok : X.Ok) {b : Addr} {o : Obj} (e : X.base.get? b = some o) : b ∉ X.fs := fun hb => by
  have := (ok.funs.mem hb).1
  rw [e] at this; cases this
theorem Inv.bs (I : Inv X pins σ H s) : ∀ b o, X.base.get? b = some o → s.heap.get? b = some o ∧ H b = none := fun b o e =>
  ⟨I.base.keep b o (I.ok.bs b o e).1 (I.ok.bs b o e).2 (I.ok.nofr e) (I.ok.noex b o e), I.base.free b o (I.ok.bs b o e).1 (I.ok.bs b o e).2 (I.ok.noex b o e)⟩
theorem Inv.bk (I : Inv X pins σ H s) : ∀ b o, X.base.get? b = some o → s.heap.get? b = some o := fun b o e => (I.bs b o e).1
theorem Inv.mod (I : Inv X pins σ H s) : Mod X.K X.mg X.base := I.ok.mod
theorem Inv.kIn (I : Inv X pins σ H s) : X.K.In s.heap := I.ok.mod.kin.keeps I.bk
theorem Inv.nolimit (I : Inv X pins σ H s) : s.heap.NoLimit := I.ok.mod.nolimit.keeps I.bk
theorem Inv.fr (I : Inv X pins σ H s) : ∃ m, Fr X.base X.env.locals s.heap m :=
  let ⟨m, hn, _⟩ := I.loc
  ⟨m, hn, I.bk, Nat.le_trans I.ok.bsz I.ok.above⟩
theorem Inv.lt (I : Inv X pins σ H s) : X.env.locals < s.heap.objs.size := let ⟨_, hn, _⟩ := I.loc; hn.lt
theorem Inv.sz (I : Inv X pins σ H s) : X.s₀.heap.objs.size ≤ s.heap.objs.size := Nat.le_trans I.ok.above (Nat.le_of_lt I.lt)
theorem Inv.nofs (I : Inv X pins σ H s) {a : Addr} (h : s.heap.objs.size ≤ a) : a ∉ X.fs := fun hb => by
  obtain ⟨_, o, ho, _⟩ := I.ok.funs.mem hb
  exact absurd (Nat.lt_of_lt_of_le (Heap.lt_size ho) (Nat.le_trans I.sz h)) (Nat.lt_irrefl _)
theorem Inv.cne (I : Inv X pins σ H s) : ∀ x c, X.env.cells.lookup x = some c → c ≠ X.env.locals := fun x c e z => by
  obtain ⟨v, o, ho, hd⟩ := I.cell x c e
  obtain ⟨m, ⟨o', es, ep, ho', hd', _⟩, _⟩ := I.loc
  rw [z, ho'] at ho; cases ho; rw [hd'] at hd; cases hd
theorem Inv.funs (I : Inv X pins σ H s) : s.heap.FunFrames X.base X.outer := by
  have all : ∀ (l : List Env), (∀ b ∈ frs l, b ∈ X.fs) → X.s₀.heap.FunFrames X.base l → s.heap.FunFrames X.base l := by
    intro l
    induction l with
    | nil => intro _ _; trivial
    | cons env r ih =>
      intro hs hl
      obtain ⟨hk, ⟨L, o, hf, hn, ho, hd⟩, hr⟩ := hl
      have hL : L ∈ X.fs := hs L (by unfold frs; rw [List.filterMap_cons, hf]; exact List.mem_cons_self)
      obtain ⟨sl, e⟩ := I.base.slot L o ho (I.ok.frf L hL) hL fun z => I.ok.exfs L z hL
      exact ⟨hk, ⟨L, _, hf, hn, e, hd⟩, ih (fun b hb => hs b (by unfold frs; rw [List.filterMap_cons, hf]; exact List.mem_cons_of_mem _ hb)) hr⟩
  exact all X.outer (fun _ hb => hb) I.ok.funs
theorem Inv.stack (I : Inv X pins σ H s) : s.heap.FunFrames X.base X.stack := by
  rcases I.ok.stk with e | ⟨e, hf⟩
  · rw [e]; exact I.funs
  · rw [e]
    obtain ⟨m, hn, _⟩ := I.loc
    refine .cons (by rw [I.ok.kind]; decide) hf hn ?_ I.funs
    exact Heap.get?_none_of_le (Nat.le_trans I.ok.bsz I.ok.above)
theorem Inv.stkSub (I : Inv X pins σ H s) : ∀ b ∈ frs X.stack, b ∈ X.env.locals :: X.fs := fun b hb => by
  rcases I.ok.stk with e | ⟨e, hf⟩
  · rw [e] at hb; exact List.mem_cons_of_mem _ hb
  · rw [e] at hb
    unfold frs at hb
    rw [List.filterMap_cons, hf] at hb
    exact hb
theorem Inv.stkFree (I : Inv X pins σ H s) : ∀ b ∈ frs X.stack, H b = none := fun b hb => by
  rcases List.mem_cons.mp (I.stkSub b hb) with e | hb
  · rw [e]; exact I.free
  · obtain ⟨_, o, ho, _⟩ := I.ok.funs.mem hb
    exact I.base.free b o ho (I.ok.frf b hb) fun z => I.ok.exfs b z hb
theorem Inv.step {g' : Array GenState} {t' : Nat} {d' : Drawn} {ch : List Addr} (I : Inv X pins σ H s)
    (hch : ∀ b ∈ ch, (b ∈ X.ex ∨ X.s₀.heap.objs.size ≤ b) ∧ b ≠ X.env.locals ∧ (∀ x c, X.env.cells.lookup x = some c → c ≠ b) ∧ ∀ p ∈ X.pn ++ pins, p.1 ≠ b)
    (keep : ∀ b o, b ≠ X.env.locals → b ∉ X.fs → b ∉ ch → s.heap.get? b = some o → H b = none → h'.get? b = some o)
    (slot : ∀ b o, b ≠ X.env.locals → b ∈ X.fs → b ∉ ch → s.heap.get? b = some o → H b = none → ∃ sl, h'.get? b = some { o with slots := sl }) (free : ∀ b o, b ∉ ch → s.heap.get? b = some o → H b = none → H' b = none)
    (there : ∀ b o, b ∉ ch → s.heap.get? b = some o → ∃ o', h'.get? b = some o')
    (tups : ∀ b xs, H b = some (.tup xs) → H' b = some (.tup xs)) (frzs : ∀ b o u, H b = some (.frz o u) → H' b = some (.frz o u)) (tbls : ∀ b ps, H b = some (.tbl ps) → ∃ more, H' b = some (.tbl (ps ++ more)))
    (ns : ∀ m, s.heap.Ns X.env.locals m → h'.Ns X.env.locals m) (hok : HOk X.prog X.w H' h') (hg : AllBare g') :
    Inv X pins σ H' { s with heap := h', gens := g', drawn := d', toks := t' } := by
  have neL : ∀ b o, X.s₀.heap.get? b = some o → b ≠ X.env.locals := fun b o e => Nat.ne_of_lt (Nat.lt_of_lt_of_le (Heap.lt_size e) I.ok.above)
  have neC : ∀ b o, X.s₀.heap.get? b = some o → b ∉ X.ex → b ∉ ch := fun b o e hx hb => by
    rcases (hch b hb).1 with z | z
    · exact hx z
    · exact absurd (Nat.lt_of_lt_of_le (Heap.lt_size e) z) (Nat.lt_irrefl _)
  have cellK : ∀ x c, X.env.cells.lookup x = some c → ∀ v, s.heap.IsCell c v → h'.IsCell c v := fun x c e v ⟨o, ho, hd⟩ => by
    have nch : c ∉ ch := fun z => (hch c z).2.2.1 x c e rfl
    by_cases hc : c ∈ X.fs
    · obtain ⟨sl, q⟩ := slot c o (I.cne x c e) hc nch ho (I.freeC x c e)
      exact ⟨_, q, hd⟩
    · exact ⟨o, keep c o (I.cne x c e) hc nch ho (I.freeC x c e), hd⟩
  refine ⟨I.ok, I.os, hg, ⟨fun b o e n hb hx => ?_, fun b o e n hb hx => ?_, fun b o e n hx => ?_, fun b o e hx => ?_, fun b xs e => tups b xs (I.base.tups b xs e), fun b o xs e => frzs b o xs (I.base.frzs b o xs e), fun b ps e => ?_⟩, ?_, fun x c e => ?_, ?_, fun x c e => ?_, fun p hp => ?_, hok, I.len⟩
  · exact keep b o (neL b o e) hb (neC b o e hx) (I.base.keep b o e n hb hx) (I.base.free b o e n hx)
  · obtain ⟨sl, e1⟩ := I.base.slot b o e n hb hx
    obtain ⟨sl', e2⟩ := slot b _ (neL b o e) hb (neC b o e hx) e1 (I.base.free b o e n hx)
    exact ⟨sl', e2⟩
  · obtain ⟨o', e1⟩ := I.base.there b o e hx
    exact free b o' (neC b o e hx) e1 (I.base.free b o e n hx)
  · obtain ⟨o', e1⟩ := I.base.there b o e hx
    exact there b o' (neC b o e hx) e1
  · obtain ⟨m1, e1⟩ := I.base.tbls b ps e
    obtain ⟨m2, e2⟩ := tbls b _ e1
    exact ⟨m1 ++ m2, by rw [e2, Array.append_assoc]⟩
  · obtain ⟨m, hn, hl⟩ := I.loc
    refine ⟨m, ns m hn, fun i x v e1 e2 e3 => ?_⟩
    obtain ⟨u, r, l⟩ := hl i x v e1 e2 e3
    refine ⟨u, r, ?_⟩
    rcases l with l | ⟨k, c, e, z⟩
    · exact .inl l
    · exact .inr ⟨k, c, e, cellK x c e _ z⟩
  · obtain ⟨v, z⟩ := I.cell x c e
    exact ⟨v, cellK x c e v z⟩
  · obtain ⟨m, ⟨o, _, _, ho, _⟩, _⟩ := I.loc
    exact free _ o (fun z => (hch _ z).2.1 rfl) ho I.free
  · obtain ⟨v, o, ho, hd⟩ := I.cell x c e
    exact free c o (fun z => (hch c z).2.2.1 x c e rfl) ho (I.freeC x c e)
  · obtain ⟨e, n, ne, nf, d⟩ := I.pin p hp
    have nch : p.1 ∉ ch := fun z => (hch p.1 z).2.2.2 p hp rfl
    exact ⟨keep p.1 p.2 ne nf nch e n, free p.1 p.2 nch e n, ne, nf, d⟩
theorem Inv.un {t' : Nat} (I : Inv X pins σ H s) (u : Un X.fs [] H H' s.heap h') (hok : HOk X.prog X.w H' h') : Inv X pins σ H' { s with heap := h', toks := t' } := by
  obtain ⟨m, ⟨o, es, ep, ho, r⟩, _⟩ := id I.loc
  obtain ⟨sl, hL⟩ := u.any ho I.free (by simp)
  exact I.step (g' := s.gens) (d' := s.drawn) (ch := []) (fun _ z => nomatch z) (fun b o _ hb _ e n => u.keep b o e n hb (by simp)) (fun b o _ hb _ e n => u.slot b o e n hb (by simp)) (fun b o _ e n => u.free b o e n (by simp)) (fun b o _ e => u.there b o e (by simp)) u.tups u.frzs u.tbls (fun m' hm => by
    obtain ⟨o', es', ep', ho', r'⟩ := hm
    rw [ho] at ho'; cases ho'
    exact ⟨_, es', ep', hL, r'⟩) hok I.bare
theorem Inv.call {g' : Array GenState} {t' : Nat} {d' : Drawn} {ch : List Addr} (I : Inv X pins σ H s) (u : Un (frs X.stack) ch H H' s.heap h') (hok : HOk X.prog X.w H' h') (hg : AllBare g')
    (hch : ∀ b ∈ ch, (b ∈ X.ex ∨ X.s₀.heap.objs.size ≤ b) ∧ b ≠ X.env.locals ∧ (∀ x c, X.env.cells.lookup x = some c → c ≠ b) ∧ ∀ p ∈ X.pn ++ pins, p.1 ≠ b) :
    Inv X pins σ H' { s with heap := h', gens := g', drawn := d', toks := t' } := by
  obtain ⟨m, ⟨o, es, ep, ho, r⟩, _⟩ := id I.loc
  obtain ⟨sl, hL⟩ := u.any ho I.free fun z => (hch _ z).2.1 rfl
  exact I.step (ch := ch) hch (fun b o hL hb hc e n => u.keep b o e n (fun z => (List.mem_cons.mp (I.stkSub b z)).elim hL hb) hc) (fun b o _ _ hc e n => u.any e n hc) (fun b o hc e n => u.free b o e n hc) (fun b o hc e => u.there b o e hc) u.tups u.frzs u.tbls (fun m' hm => by
    obtain ⟨o', es', ep', ho', r'⟩ := hm
    rw [ho] at ho'; cases ho'
    exact ⟨_, es', ep', hL, r'⟩) hok hg
theorem Inv.turned {t' : Nat} {it : Addr} (I : Inv X pins σ H s) (k : ∀ b o, b ≠ it → s.heap.get? b = some o → h'.get? b = some o) (hn : H it = none) (hL : it ≠ X.env.locals)
    (h1 : it ∈ X.ex ∨ X.s₀.heap.objs.size ≤ it) (h2 : ∀ x c, X.env.cells.lookup x = some c → c ≠ it) (h3 : ∀ p ∈ X.pn ++ pins, p.1 ≠ it) : Inv X pins σ H { s with heap := h', toks := t' } := by
  have nit : ∀ b u, H b = some u → b ≠ it := fun b u e z => by rw [z, hn] at e; cases e
  refine I.step (g' := s.gens) (d' := s.drawn) (ch := [it]) (fun b hb => ?_) (fun b o _ _ hc e _ => k b o (fun z => hc (by simp [z])) e) (fun b o _ _ hc e _ => ⟨o.slots, k b o (fun z => hc (by simp [z])) e⟩) (fun _ _ _ _ n => n)
    (fun b o hc e => ⟨o, k b o (fun z => hc (by simp [z])) e⟩) (fun _ _ e => e) (fun _ _ _ e => e) (fun b ps e => ⟨#[], by rw [e]; simp⟩) (fun m hm => ?_) (fun b u e => ?_) I.bare
  · have e : b = it := by simpa using hb
    subst e
    exact ⟨h1, hL, h2, h3⟩
  · obtain ⟨o, es, ep, ho, r⟩ := hm
    exact ⟨o, es, ep, k _ o (Ne.symm hL) ho, r⟩
  · refine (I.hok b u e).stay (fun c v hc q => k c v ?_ q) (fun _ q => q) fun _ _ q => q
    rcases hc with z | z
    · rw [z]; exact nit b u e
    · exact nit c _ z
theorem Inv.tok (I : Inv X pins σ H s) (t : Nat) : Inv X pins σ H { s with toks := t } := I.un (h' := s.heap) (t' := t) Un.refl I.hok
theorem Inv.kept {t' : Nat} (I : Inv X pins σ H s) (k : ∀ b u, s.heap.get? b = some u → h'.get? b = some u) : Inv X pins σ H { s with heap := h', toks := t' } := I.un (Un.kept k) (I.hok.kept k)
theorem Inv.laid {a : Addr} {o : HO} {t' : Nat} (I : Inv X pins σ H s) (k : ∀ b u, s.heap.get? b = some u → h'.get? b = some u) (hp : s.heap.objs.size ≤ a) (new : ObjOk X.prog X.w (upd H a o) h' a o) :
    Inv X pins σ (upd H a o) { s with heap := h', toks := t' } := I.un (Un.laid k hp (I.hok.fresh hp)) (I.hok.laid k hp new)
theorem Inv.write {x e : Addr} {o : HO} {t' : Nat} (I : Inv X pins σ H s) (mu : Mut (H x)) (he : e = x ∨ H e = some (.own x)) (k : ∀ b u, b ≠ e → s.heap.get? b = some u → h'.get? b = some u) (heo : ∃ u, h'.get? e = some u)
    (new : ObjOk X.prog X.w (upd H x o) h' x o) : Inv X pins σ (upd H x o) { s with heap := h', toks := t' } := I.un (Un.write mu he k heo) (I.hok.write mu he k heo new)
theorem Inv.weak {σ' : List (Option V)} (I : Inv X pins σ H s) (hl : σ'.length = σ.length) (w : ∀ (i : Nat) v, σ'[i]? = some (some v) → σ[i]? = some (some v)) : Inv X pins σ' H s :=
  ⟨I.ok, I.os, I.bare, I.base, let ⟨m, hn, hl'⟩ := I.loc; ⟨m, hn, fun i x v e1 e2 e3 => hl' i x v e1 (w i v e2) e3⟩, I.cell, I.free, I.freeC, I.pin, I.hok, hl.trans I.len⟩
theorem Inv.pins_of {pins' : List (Addr × Obj)} (I : Inv X pins σ H s) (h : ∀ p ∈ pins', s.heap.get? p.1 = some p.2 ∧ H p.1 = none ∧ p.1 ≠ X.env.locals ∧ p.1 ∉ X.fs ∧ ∀ v, p.2.data ≠ .cell v) : Inv X pins' σ H s :=
  ⟨I.ok, I.os, I.bare, I.base, I.loc, I.cell, I.free, I.freeC, fun p hp => (List.mem_append.mp hp).elim (fun z => I.pin p (List.mem_append_left _ z)) (h p), I.hok, I.len⟩
theorem nodup_ix {N : List Str} (hN : N.Nodup) {i j : Nat} {x : Str} (a : N[i]? = some x) (b : N[j]? = some x) : i = j := by
  obtain ⟨h1, e1⟩ := List.getElem?_eq_some_iff.mp a
  obtain ⟨h2, e2⟩ := List.getElem?_eq_some_iff.mp b
  exact (List.getElem_inj hN).mp (e1.trans e2.symm)
theorem store_ok2 {M : Model} {A : Around} {E : Value → Shared → Prop} {i : Nat} {x : Str} {v : V} {u : Value} {Q : Unit → Shared → Prop} (I : Inv X pins σ H s) (hN : X.N.Nodup) (hi : X.N[i]? = some x) (hx : Loc X.env.scope x) (r : RelV v u)
    (h : ∀ s', Inv X pins (σ.set i (some v)) H s' → (∃ a, Heap.SameBut a s.heap s'.heap ∧ (a = X.env.locals ∨ X.env.cells.lookup x = some a)) → Q () s') (hf : X.fn x = true ∨ X.env.scope.names.lookup x = some .local := by first | exact .inl rfl | exact .inr rfl | assumption) : wpAny M A (storeName X.env x u) Q E s := by
  obtain ⟨m, hn, hl⟩ := id I.loc
  have hcls : (X.env.scope.kind == .class || (X.env.scope.kind == .module && X.env.locals != X.env.globals)) = false := by rw [I.ok.kind]; rfl
  have hiσ : i < σ.length := by rw [I.len]; exact (List.getElem?_eq_some_iff.mp hi).1
  have cne := I.cne
  have tracked : ∀ {a : Addr} {h' : Heap}, (∃ o, s.heap.get? a = some o ∧ H a = none) → Heap.SameBut a s.heap h' → HOk X.prog X.w H h' := fun {a h'} ha hs b ob e => by
    obtain ⟨_, _, hfree⟩ := ha
    refine (I.hok b ob e).stay (fun c w' hc q => (hs.2 c ?_).trans q) (fun _ q => q) fun _ _ q => q
    rintro rfl
    rcases hc with rfl | hc
    · rw [hfree] at e; cases e
    · rw [hfree] at hc; cases hc
  rcases hx with hk | hk
  · refine wpAny_storeName_local hk hn (fun h' hn' hs => ?_) hcls
    obtain ⟨oL, _, _, hoL, _⟩ := id hn
    refine h _ ⟨I.ok, I.os, I.bare, ⟨fun b o e n hb hx => ?_, fun b o e n hb hx => ?_, I.base.free, fun b o e hx => ?_, I.base.tups, I.base.frzs, I.base.tbls⟩, ⟨_, hn', fun j y v' e1 e2 e3 => ?_⟩, fun y c e => ?_, I.free, I.freeC, fun p hp => ?_, tracked ⟨oL, hoL, I.free⟩ hs, by simpa using I.len⟩ ⟨_, hs, .inl rfl⟩
    · exact (hs.2 b (Nat.ne_of_lt (Nat.lt_of_lt_of_le (Heap.lt_size e) I.ok.above))).trans (I.base.keep b o e n hb hx)
    · obtain ⟨sl, e1⟩ := I.base.slot b o e n hb hx
      exact ⟨sl, (hs.2 b (Nat.ne_of_lt (Nat.lt_of_lt_of_le (Heap.lt_size e) I.ok.above))).trans e1⟩
    · obtain ⟨o', e1⟩ := I.base.there b o e hx
      exact ⟨o', (hs.2 b (Nat.ne_of_lt (Nat.lt_of_lt_of_le (Heap.lt_size e) I.ok.above))).trans e1⟩
    · by_cases hj : j = i
      · subst hj
        rw [hi] at e1; cases e1
        rw [List.getElem?_set_self hiσ] at e2
        cases e2
        exact ⟨u, r, .inl ⟨hk, by simp⟩⟩
      · rw [List.getElem?_set_ne (Ne.symm hj)] at e2
        obtain ⟨u', r', q⟩ := hl j y v' e1 e2 e3
        refine ⟨u', r', ?_⟩
        rcases q with ⟨k, e⟩ | ⟨k, c, e, z⟩
        · refine .inl ⟨k, ?_⟩
          have : y ≠ x := fun e => hj (nodup_ix hN e1 (e ▸ hi))
          simp [this, e]
        · exact .inr ⟨k, c, e, z.sameBut hs (cne y c e)⟩
    · obtain ⟨w', z⟩ := I.cell y c e
      exact ⟨w', z.sameBut hs (cne y c e)⟩
    · obtain ⟨e, n, ne, nf, d⟩ := I.pin p hp
      exact ⟨(hs.2 p.1 ne).trans e, n, ne, nf, d⟩
  · have hfn : X.fn x = true := by
      rcases hf with z | z
      · exact z
      · rw [z] at hk; cases hk
    obtain ⟨c, hc⟩ := I.ok.has x (.inl hk)
    obtain ⟨w', z⟩ := I.cell x c hc
    refine wpAny_storeName_cell I.ok.kind hk hc z (fun h' hc' hs => ?_)
    obtain ⟨oc, hoc, hocd⟩ := id z
    refine h { s with heap := h' } ⟨I.ok, I.os, I.bare, ⟨fun b o e n hb hx => ?_, fun b o e n hb hx => ?_, I.base.free, fun b o e hx => ?_, I.base.tups, I.base.frzs, I.base.tbls⟩, ⟨m, hn.sameBut hs (Ne.symm (cne x c hc)), fun j y v' e1 e2 e3 => ?_⟩, fun y c' e => ?_, I.free, I.freeC, fun p hp => ?_, tracked ⟨oc, hoc, I.freeC x c hc⟩ hs, by simpa using I.len⟩ ⟨c, hs, .inr hc⟩
    · exact (hs.2 b (Nat.ne_of_lt (Nat.lt_of_lt_of_le (Heap.lt_size e) (I.ok.cab x c hfn hc)))).trans (I.base.keep b o e n hb hx)
    · obtain ⟨sl, e1⟩ := I.base.slot b o e n hb hx
      exact ⟨sl, (hs.2 b (Nat.ne_of_lt (Nat.lt_of_lt_of_le (Heap.lt_size e) (I.ok.cab x c hfn hc)))).trans e1⟩
    · obtain ⟨o', e1⟩ := I.base.there b o e hx
      exact ⟨o', (hs.2 b (Nat.ne_of_lt (Nat.lt_of_lt_of_le (Heap.lt_size e) (I.ok.cab x c hfn hc)))).trans e1⟩
    · by_cases hj : j = i
      · subst hj
        rw [hi] at e1; cases e1
        rw [List.getElem?_set_self hiσ] at e2
        cases e2
        exact ⟨u, r, .inr ⟨.inl hk, c, hc, hc'⟩⟩
      · rw [List.getElem?_set_ne (Ne.symm hj)] at e2
        obtain ⟨u', r', q⟩ := hl j y v' e1 e2 e3
        refine ⟨u', r', ?_⟩
        rcases q with q | ⟨k, c', e, z'⟩
        · exact .inl q
        · refine .inr ⟨k, c', e, z'.sameBut hs ?_⟩
          rintro rfl
          exact hj (nodup_ix hN e1 (I.ok.inj _ _ _ e hc ▸ hi))
    · by_cases hcc : c' = c
      · subst hcc; exact ⟨_, hc'⟩
      · obtain ⟨w2, z2⟩ := I.cell y c' e
        exact ⟨w2, z2.sameBut hs hcc⟩
    · obtain ⟨e, n, ne, nf, d⟩ := I.pin p hp
      refine ⟨(hs.2 p.1 ?_).trans e, n, ne, nf, d⟩
      intro q
      rw [q, hoc] at e
      have q' : oc = p.2 := Option.some.inj e
      exact d w' (by rw [← q']; exact hocd)
theorem store_ok {M : Model} {A : Around} {E : Value → Shared → Prop} {i : Nat} {x : Str} {v : V} {u : Value} {Q : Unit → Shared → Prop} (I : Inv X pins σ H s) (hN : X.N.Nodup) (hi : X.N[i]? = some x) (hx : Loc X.env.scope x) (r : RelV v u)
    (h : ∀ s', Inv X pins (σ.set i (some v)) H s' → Q () s') (hf : X.fn x = true ∨ X.env.scope.names.lookup x = some .local := by first | exact .inl rfl | exact .inr rfl | assumption) : wpAny M A (storeName X.env x u) Q E s :=
  store_ok2 I hN hi hx r (fun s' I' _ => h s' I') hf
theorem Inv.call' {s' : Shared} {ch : List Addr} (I : Inv X pins σ H s) (ho : s'.os = s.os) (u : Un (frs X.stack) ch H H' s.heap s'.heap) (hok : HOk X.prog X.w H' s'.heap) (hg : AllBare s'.gens)
    (hch : ∀ b ∈ ch, (b ∈ X.ex ∨ X.s₀.heap.objs.size ≤ b) ∧ b ≠ X.env.locals ∧ (∀ x c, X.env.cells.lookup x = some c → c ≠ b) ∧ ∀ p ∈ X.pn ++ pins, p.1 ≠ b) : Inv X pins σ H' s' := by
  obtain ⟨h', g', d', t', o'⟩ := s'
  have e : o' = s.os := ho
  subst e
  exact I.call (g' := g') (t' := t') (d' := d') u hok hg hch
end
abbrev XK := Value → Option Addr → Hp → Prop
abbrev St := List (Option V)
abbrev VK := V → Hp → Prop
abbrev TE := St → Hp → VK → Prop
abbrev TT := St → Hp → (Bool → Hp → Prop) → Prop
abbrev TA := St → Hp → (List V → Hp → Prop) → Prop
structure Ends where
  nx : St → Hp → Prop
  rt : VK
  bk : St → Hp → Prop := fun _ _ => False
  ct : St → Hp → Prop := fun _ _ => False
abbrev TS := Ends → St → Hp → Prop
def EP (X : Cx) (pins : List (Addr × Obj)) (σ : St) (Q : VK) (u : Value) (s' : Shared) : Prop := ∃ v H', Inv X pins σ H' s' ∧ RelV v u ∧ Q v H'
def TP (X : Cx) (pins : List (Addr × Obj)) (σ : St) (Q : Bool → Hp → Prop) (b : Bool) (s' : Shared) : Prop := ∃ H', Inv X pins σ H' s' ∧ Q b H'
def AP (X : Cx) (pins : List (Addr × Obj)) (σ : St) (Q : List V → Hp → Prop) (us : List Value) (s' : Shared) : Prop := ∃ vs H', Inv X pins σ H' s' ∧ Vals vs us ∧ Q vs H'
def SP (X : Cx) (pins : List (Addr × Obj)) (D : Ends) (f : Flow) (s' : Shared) : Prop :=
  match f with
  | .next => ∃ σ' H', Inv X pins σ' H' s' ∧ D.nx σ' H'
  | .brk => ∃ σ' H', Inv X pins σ' H' s' ∧ D.bk σ' H'
  | .cont => ∃ σ' H', Inv X pins σ' H' s' ∧ D.ct σ' H'
  | .ret u => ∃ v σ' H', Inv X pins σ' H' s' ∧ RelV v u ∧ D.rt v H'
def PE (X : Cx) (e : Expr) (t : TE) : Prop :=
  ∀ (pins : List (Addr × Obj)) (s : Shared) (σ : St) (H : Hp) (Q : VK), Inv X pins σ H s → t σ H Q → wpAny (model X.prog X.w) X.A (eval e X.env) (EP X pins σ Q) X.xe s
def PT (X : Cx) (e : Expr) (t : TT) : Prop :=
  ∀ (pins : List (Addr × Obj)) (s : Shared) (σ : St) (H : Hp) (Q : Bool → Hp → Prop), Inv X pins σ H s → t σ H Q → wpAny (model X.prog X.w) X.A (isTrue e X.env (eval e X.env)) (TP X pins σ Q) X.xe s
def PW (X : Cx) (e : Expr) (t : TT) : Prop :=
  ∀ (whole : Sem Value) (pins : List (Addr × Obj)) (s : Shared) (σ : St) (H : Hp) (Q : Bool → Hp → Prop), Inv X pins σ H s → t σ H Q → wpAny (model X.prog X.w) X.A (isTrue e X.env whole) (TP X pins σ Q) X.xe s
theorem PW.pt {X : Cx} {e : Expr} {t : TT} (h : PW X e t) : PT X e t := h _
def PA (X : Cx) (es : List Expr) (t : TA) : Prop :=
  ∀ (pos : Pos) (pins : List (Addr × Obj)) (s : Shared) (σ : St) (H : Hp) (Q : List V → Hp → Prop), Inv X pins σ H s → t σ H Q → wpAny (model X.prog X.w) X.A (spliced (backTo pos (starEach es X.env))) (AP X pins σ Q) X.xe s
def PS (X : Cx) (st : Stmt) (t : TS) : Prop :=
  ∀ (pins : List (Addr × Obj)) (s : Shared) (σ : St) (H : Hp) (D : Ends), Inv X pins σ H s → t D σ H → wpAny (model X.prog X.w) X.A (exec st X.env) (SP X pins D) X.xe s
def PSs (X : Cx) (st : List Stmt) (t : TS) : Prop :=
  ∀ (pins : List (Addr × Obj)) (s : Shared) (σ : St) (H : Hp) (D : Ends), Inv X pins σ H s → t D σ H → wpAny (model X.prog X.w) X.A (execs st X.env) (SP X pins D) X.xe s
theorem thn {α : Type} {t : Sem α} {Q Q' : α → Shared → Prop} {M : Model} {A : Around} {E : Value → Shared → Prop} {s : Shared} (h : wpAny M A t Q E s) (hQ : ∀ a s, Q a s → Q' a s) : wpAny M A t Q' E s := wpAny_mono h hQ fun _ _ x => x
end L2
namespace L2
open PySem PySem.Spec PyProof.Rows
section
variable {X : Cx}
theorem bin {a b : Expr} {ta tb : TE} (ha : PE X a ta) (hb : PE X b tb) {pins : List (Addr × Obj)} {s : Shared} {σ : St} {H : Hp} {R : V → V → Hp → Prop} (I : Inv X pins σ H s) (h : ta σ H fun x H1 => tb σ H1 fun y H2 => R x y H2)
    {α : Type} {Q : α → Shared → Prop} {f : Value → Value → Sem α}
    (hf : ∀ v u s2 x y H2, Inv X pins σ H2 s2 → RelV x v → RelV y u → R x y H2 → wpAny (model X.prog X.w) X.A (f v u) Q X.xe s2) :
    wpAny (model X.prog X.w) X.A (eval a X.env) (fun v s₁ => wpAny (model X.prog X.w) X.A (eval b X.env) (fun u s₂ => wpAny (model X.prog X.w) X.A (f v u) Q X.xe s₂) X.xe s₁) X.xe s := by
  refine thn (ha pins s σ H _ I h) fun v s1 ⟨x, H1, I1, r1, q1⟩ => ?_
  refine thn (hb pins s1 σ H1 _ I1 q1) fun u s2 ⟨y, H2, I2, r2, q2⟩ => ?_
  exact hf v u s2 x y H2 I2 r1 r2 q2
def tVar (i : Nat) : TE := fun σ H Q => ∃ v, σ[i]? = some (some v) ∧ Q v H
def tC (v : V) : TE := fun _ H Q => Q v H
theorem pe_var {i : Nat} {x : Str} {pos : Pos} (hN : X.N[i]? = some x) (hv : Vis X.env.scope x) (hd : (x == ("__debug__" : Str)) = false := by decide) (hcd : (x == ("__classdict__" : Str)) = false := by decide) : PE X (.Name x pos) (tVar i) := by
  intro pins s σ H Q I h
  obtain ⟨v, e, h⟩ := h
  obtain ⟨m, hn, hl⟩ := I.loc
  obtain ⟨u, r, l⟩ := hl i x v hN e hv
  have fin : EP X pins σ Q u s := ⟨v, H, I, r, h⟩
  rcases l with ⟨hk, hm⟩ | ⟨hk, c, hc, hcell⟩
  · exact wpAny_Name (wpAny_loadName_local I.ok.kind hk hn hm fin) hd
  · rcases hk with hk | hk
    · exact wpAny_Name (wpAny_loadName_cell I.ok.kind hk hc hcell fin) hd
    · exact wpAny_Name (wpAny_loadName_free I.ok.kind hk hc hcell fin hcd) hd
theorem pe_int {i j pos} : PE X (.Constant (.int i) j pos) (tC (.int i)) := fun _ _ _ H _ I h => wpAny_Constant_int ⟨.int i, H, I.tok _, ⟨_, rfl⟩, h⟩
theorem pe_bl {b j pos} : PE X (.Constant (.bool b) j pos) (tC (.bl b)) := fun _ _ _ H _ I h => Constant_bool ⟨.bl b, H, I, rfl, h⟩
theorem pe_non {j pos} : PE X (.Constant .none j pos) (tC .non) := fun _ _ _ H _ I h => Constant_none ⟨.non, H, I, rfl, h⟩
theorem pe_str {x j pos} : PE X (.Constant (.str x) j pos) (tC (.str x)) := fun _ _ _ H _ I h => Calls.Constant_str ⟨.str x, H, I.tok _, ⟨_, rfl⟩, h⟩
def Gl (X : Cx) (x : Str) : Prop := X.env.kindOf x = some .globalImplicit
theorem ld_glob {E : Value → Shared → Prop} {pins : List (Addr × Obj)} {s : Shared} {σ : St} {H : Hp} {x : Str} {u : Value} {pos : Pos} {Q : Value → Shared → Prop} (I : Inv X pins σ H s) (hg : Gl X x) (hm : X.mg x = some u) (h : Q u s)
    (hd : (x == ("__debug__" : Str)) = false := by decide) : wpAny (model X.prog X.w) X.A (eval (.Name x pos) X.env) Q E s :=
  Calls.Name_function_global I.ok.kind hg (Calls.loadGlobal_global (by rw [I.ok.glob]; exact I.mod.glob.keeps I.bk) hm h) hd
theorem ld_blt {E : Value → Shared → Prop} {pins : List (Addr × Obj)} {s : Shared} {σ : St} {H : Hp} {x : Str} {u : Value} {pos : Pos} {Q : Value → Shared → Prop} (I : Inv X pins σ H s) (hg : Gl X x) (hm : X.mg x = none) (hv : bootBuiltins x = some u) (h : Q u s)
    (hn : x ≠ "__name__" := by decide) (hd : (x == ("__debug__" : Str)) = false := by decide) : wpAny (model X.prog X.w) X.A (eval (.Name x pos) X.env) Q E s := by
  obtain ⟨mb, h1, h2⟩ := I.mod.blt
  exact Calls.Name_function_global I.ok.kind hg (Calls.loadGlobal_builtin (by rw [I.ok.glob]; exact I.mod.glob.keeps I.bk) hm (by rw [I.ok.blt]; exact h1.keeps I.bk) ((h2 x hn).trans hv) h) hd
theorem pe_glob {x : Str} {v : V} {u : Value} {pos : Pos} (hg : Gl X x) (hm : X.mg x = some u) (r : RelV v u) (hd : (x == ("__debug__" : Str)) = false := by decide) : PE X (.Name x pos) (tC v) :=
  fun _ _ _ H _ I h => ld_glob I hg hm ⟨v, H, I, r, h⟩ hd
theorem pe_bltn {x : Str} {v : V} {u : Value} {pos : Pos} (hg : Gl X x) (hm : X.mg x = none) (hv : bootBuiltins x = some u) (r : RelV v u) (hn : x ≠ "__name__" := by decide) (hd : (x == ("__debug__" : Str)) = false := by decide) : PE X (.Name x pos) (tC v) :=
  fun _ _ _ H _ I h => ld_blt I hg hm hv ⟨v, H, I, r, h⟩ hn hd
def t2I (ta tb : TE) (k : Int → Int → Hp → Prop) : St → Hp → Prop := fun σ H => ta σ H fun x H1 => tb σ H1 fun y H2 => ∃ i j, x = .int i ∧ y = .int j ∧ k i j H2
def tAdd (ta tb : TE) : TE := fun σ H Q => t2I ta tb (fun i j H2 => Q (.int (i + j)) H2) σ H
def tSub (ta tb : TE) : TE := fun σ H Q => t2I ta tb (fun i j H2 => Q (.int (i - j)) H2) σ H
def tMul (ta tb : TE) : TE := fun σ H Q => t2I ta tb (fun i j H2 => (-(2 ^ 64) < i ∧ i < 2 ^ 64) ∧ Q (.int (i * j)) H2) σ H
variable {a b : Expr} {ta tb : TE} {pos : Pos}
theorem pe_add (ha : PE X a ta) (hb : PE X b tb) : PE X (.BinOp a .Add b pos) (tAdd ta tb) := by
  intro pins s σ H Q I h
  refine wpAny_BinOp (bin ha hb I h fun v u s2 x y H2 I2 rx ry q => ?_)
  obtain ⟨i, j, rfl, rfl, q⟩ := q
  obtain ⟨t, rfl⟩ := rx
  obtain ⟨t', rfl⟩ := ry
  exact add_int ⟨.int _, H2, I2.tok _, ⟨_, rfl⟩, q⟩
theorem pe_sub (ha : PE X a ta) (hb : PE X b tb) : PE X (.BinOp a .Sub b pos) (tSub ta tb) := by
  intro pins s σ H Q I h
  refine wpAny_BinOp (bin ha hb I h fun v u s2 x y H2 I2 rx ry q => ?_)
  obtain ⟨i, j, rfl, rfl, q⟩ := q
  obtain ⟨t, rfl⟩ := rx
  obtain ⟨t', rfl⟩ := ry
  exact sub_int ⟨.int _, H2, I2.tok _, ⟨_, rfl⟩, q⟩
theorem pe_mul (ha : PE X a ta) (hb : PE X b tb) : PE X (.BinOp a .Mult b pos) (tMul ta tb) := by
  intro pins s σ H Q I h
  refine wpAny_BinOp (bin ha hb I h fun v u s2 x y H2 I2 rx ry q => ?_)
  obtain ⟨i, j, rfl, rfl, ⟨q1, q2⟩, q⟩ := q
  obtain ⟨t, rfl⟩ := rx
  obtain ⟨t', rfl⟩ := ry
  exact mul_int ⟨.int _, H2, I2.tok _, ⟨_, rfl⟩, q⟩ (.of_left (intBits_le_64 q1 q2))
def PC (X : Cx) (op : CmpOp) (a b : Expr) (t : TE) : Prop :=
  ∀ (pins : List (Addr × Obj)) (s : Shared) (σ : St) (H : Hp) (Q : VK), Inv X pins σ H s → t σ H Q →
    wpAny (model X.prog X.w) X.A (eval a X.env) (fun v s₁ => wpAny (model X.prog X.w) X.A (eval b X.env) (fun u s₂ => wpAny (model X.prog X.w) X.A (compareOp op v u) (EP X pins σ Q) X.xe s₂) X.xe s₁) X.xe s
theorem nobehind (b : Expr) {op : CmpOp} (h : op ≠ .In) (h2 : op ≠ .NotIn) : behindInMarks op b = false := by
  have e1 : (op == CmpOp.In) = false := by cases op <;> first | rfl | exact absurd rfl h
  have e2 : (op == CmpOp.NotIn) = false := by cases op <;> first | rfl | exact absurd rfl h2
  cases b <;> simp [behindInMarks, e1, e2]
def tCmp (p : Int → Int → Bool) (ta tb : TE) : TE := fun σ H Q => t2I ta tb (fun i j H2 => Q (.bl (p i j)) H2) σ H
abbrev tLt : TE → TE → TE := tCmp fun i j => decide (i < j)
abbrev tLe : TE → TE → TE := tCmp fun i j => decide (i ≤ j)
abbrev tGt : TE → TE → TE := tCmp fun i j => decide (j < i)
abbrev tGe : TE → TE → TE := tCmp fun i j => decide (j ≤ i)
abbrev tEqI : TE → TE → TE := tCmp fun i j => decide (i = j)
abbrev tNeI : TE → TE → TE := tCmp fun i j => !decide (i = j)
theorem pc_int {op : CmpOp} {p : Int → Int → Bool} (ha : PE X a ta) (hb : PE X b tb)
    (rule : ∀ (i j : Int) (t u : Tok) (Q : Value → Shared → Prop) (s : Shared), Q (.bool (p i j)) s → wpAny (model X.prog X.w) X.A (compareOp op (.int i t) (.int j u)) Q X.xe s) : PC X op a b (tCmp p ta tb) := by
  intro pins s σ H Q I h
  refine bin ha hb I h fun v u s2 x y H2 I2 rx ry q => ?_
  obtain ⟨i, j, rfl, rfl, q⟩ := q
  obtain ⟨t, rfl⟩ := rx
  obtain ⟨t', rfl⟩ := ry
  exact rule i j t t' _ s2 ⟨.bl _, H2, I2, rfl, q⟩
theorem pc_lt (ha : PE X a ta) (hb : PE X b tb) : PC X .Lt a b (tLt ta tb) := pc_int ha hb fun _ _ _ _ _ _ h => lt_int h
theorem pc_le (ha : PE X a ta) (hb : PE X b tb) : PC X .LtE a b (tLe ta tb) := pc_int ha hb fun _ _ _ _ _ _ h => le_int h
theorem pc_gt (ha : PE X a ta) (hb : PE X b tb) : PC X .Gt a b (tGt ta tb) := pc_int ha hb fun _ _ _ _ _ _ h => gt_int h
theorem pc_ge (ha : PE X a ta) (hb : PE X b tb) : PC X .GtE a b (tGe ta tb) := pc_int ha hb fun _ _ _ _ _ _ h => ge_int h
theorem pc_eqI (ha : PE X a ta) (hb : PE X b tb) : PC X .Eq a b (tEqI ta tb) := pc_int ha hb fun _ _ _ _ _ _ h => eq_int (by rw [Bool.beq_eq_decide_eq]; exact h)
theorem pc_neI (ha : PE X a ta) (hb : PE X b tb) : PC X .NotEq a b (tNeI ta tb) := pc_int ha hb fun _ _ _ _ _ _ h => ne_int (by rw [bne, Bool.beq_eq_decide_eq]; exact h)
def tIsN (ta : TE) : TE := fun σ H Q => ta σ H fun x H1 => Q (.bl (decide (x = .non))) H1
def tNotN (ta : TE) : TE := fun σ H Q => ta σ H fun x H1 => Q (.bl (!decide (x = .non))) H1
theorem RelV.none_iff {x : V} {v : Value} (r : RelV x v) : (v == Value.none) = decide (x = .non) := by
  cases x with
  | non => cases r; rfl
  | bl _ => cases r; rfl
  | int _ => obtain ⟨t, rfl⟩ := r; rfl
  | str _ => obtain ⟨t, rfl⟩ := r; rfl
  | byt _ => obtain ⟨t, rfl⟩ := r; rfl
  | flt _ => obtain ⟨t, rfl⟩ := r; rfl
  | ref _ => cases r; rfl
  | ty _ => cases r; rfl
theorem pc_isN {j pos'} (ha : PE X a ta) : PC X .Is a (.Constant .none j pos') (tIsN ta) := by
  intro pins s σ H Q I h
  refine thn (ha pins s σ H _ I h) fun v s1 ⟨x, H1, I1, r1, q1⟩ => ?_
  exact Constant_none (is_none_gen ⟨.bl _, H1, I1, by rw [r1.none_iff]; rfl, q1⟩)
theorem pc_notN {j pos'} (ha : PE X a ta) : PC X .IsNot a (.Constant .none j pos') (tNotN ta) := by
  intro pins s σ H Q I h
  refine thn (ha pins s σ H _ I h) fun v s1 ⟨x, H1, I1, r1, q1⟩ => ?_
  exact Constant_none (isnot_none_gen ⟨.bl _, H1, I1, by rw [r1.none_iff]; rfl, q1⟩)
def tB (t : TE) : TT := fun σ H Q => t σ H fun x H1 => ∃ c, x = .bl c ∧ Q c H1
theorem pe_cmp {op : CmpOp} {t : TE} (h : PC X op a b t) (h1 : behindInMarks op b = false := by first | exact nobehind _ (by decide) (by decide) | rfl) : PE X (.Compare a [op] [b] pos) t := fun pins s σ H Q I hw => wpAny_Compare1 (h pins s σ H Q I hw) h1
theorem pt_cmp {op : CmpOp} {t : TE} (h : PC X op a b t) (h1 : behindInMarks op b = false := by first | exact nobehind _ (by decide) (by decide) | rfl) : PT X (.Compare a [op] [b] pos) (tB t) := by
  intro pins s σ H Q I hw
  refine wpAny_isTrue_Compare1 (thn (h pins s σ H _ I hw) fun v s1 h1 => thn h1 fun u s2 h2 => thn h2 fun c s3 ⟨x, H1, I1, r1, q1⟩ => ?_) h1
  obtain ⟨d, rfl, q⟩ := q1
  cases r1
  exact wpAny_truthy_bool ⟨H1, I1, q⟩
theorem pt_val {e : Expr} {t : TE} (h : PE X e t) (he : ∀ whole, isTrue e X.env whole = (do let v ← whole; standAt e.pos; holding [v] (truthy v)) := by intro _; rfl) : PT X e (tB t) := by
  intro pins s σ H Q I hw
  refine isTrue_plain (thn (h pins s σ H _ I hw) fun v s1 ⟨x, H1, I1, r1, q1⟩ => ?_) (he _)
  obtain ⟨d, rfl, q⟩ := q1
  cases r1
  exact wpAny_truthy_bool ⟨H1, I1, q⟩
variable {tA tB' : TT} {rest : List Expr}
def tAnd (t u : TT) : TT := fun σ H Q => t σ H fun c H1 => if c = true then u σ H1 Q else Q false H1
def tOr (t u : TT) : TT := fun σ H Q => t σ H fun c H1 => if c = true then Q true H1 else u σ H1 Q
def tNot (t : TT) : TT := fun σ H Q => t σ H fun c H1 => Q (!c) H1
theorem pw_and1 (ha : PT X a tA) : PW X (.BoolOp .And [a] pos) tA := by
  intro wh pins s σ H Q I h
  refine isTrue_and (thn (ha pins s σ H Q I h) fun c s1 e => ?_)
  cases c with
  | true => exact isTrue_and_nil e
  | false => exact e
theorem pw_or1 (ha : PT X a tA) : PW X (.BoolOp .Or [a] pos) tA := by
  intro wh pins s σ H Q I h
  refine isTrue_or (thn (ha pins s σ H Q I h) fun c s1 e => ?_)
  cases c with
  | false => exact isTrue_or_nil e
  | true => exact e
theorem pw_and (ha : PT X a tA) (hb : PW X (.BoolOp .And (b :: rest) pos) tB') : PW X (.BoolOp .And (a :: b :: rest) pos) (tAnd tA tB') := by
  intro wh pins s σ H Q I h
  refine isTrue_and (thn (ha pins s σ H _ I h) fun c s1 ⟨H1, I1, q1⟩ => ?_)
  cases c with
  | true => exact hb wh pins s1 σ H1 Q I1 q1
  | false => exact ⟨H1, I1, q1⟩
theorem pw_or (ha : PT X a tA) (hb : PW X (.BoolOp .Or (b :: rest) pos) tB') : PW X (.BoolOp .Or (a :: b :: rest) pos) (tOr tA tB') := by
  intro wh pins s σ H Q I h
  refine isTrue_or (thn (ha pins s σ H _ I h) fun c s1 ⟨H1, I1, q1⟩ => ?_)
  cases c with
  | true => exact ⟨H1, I1, q1⟩
  | false => exact hb wh pins s1 σ H1 Q I1 q1
theorem pt_not (ha : PT X a tA) : PT X (.UnaryOp .Not a pos) (tNot tA) := by
  intro pins s σ H Q I h
  exact isTrue_not (ha pins s σ H (fun c H1 => Q (!c) H1) I h)
def tAndV (ta tb : TE) : TE := fun σ H Q => ta σ H fun x H1 => ∃ c, x = .bl c ∧ if c = true then tb σ H1 Q else Q (.bl false) H1
def tOrV (ta tb : TE) : TE := fun σ H Q => ta σ H fun x H1 => ∃ c, x = .bl c ∧ if c = true then Q (.bl true) H1 else tb σ H1 Q
def tNotV (ta : TE) : TE := fun σ H Q => ta σ H fun x H1 => ∃ c, x = .bl c ∧ Q (.bl (!c)) H1
theorem pe_one {op} {t : TE} (h : PE X a t) : PE X (.BoolOp op [a] pos) t := fun pins s σ H Q I hw => BoolOp_one (h pins s σ H Q I hw)
theorem pe_and (ha : PE X a ta) (hb : PE X (.BoolOp .And (b :: rest) pos) tb) : PE X (.BoolOp .And (a :: b :: rest) pos) (tAndV ta tb) := by
  intro pins s σ H Q I h
  refine BoolOp_and (thn (ha pins s σ H _ I h) fun v s1 ⟨x, H1, I1, r1, q1⟩ => ?_)
  obtain ⟨c, rfl, q1⟩ := q1
  cases r1
  refine wpAny_truthy_bool ?_
  cases c with
  | true => exact hb pins s1 σ H1 Q I1 q1
  | false => exact ⟨.bl false, H1, I1, rfl, q1⟩
theorem pe_or (ha : PE X a ta) (hb : PE X (.BoolOp .Or (b :: rest) pos) tb) : PE X (.BoolOp .Or (a :: b :: rest) pos) (tOrV ta tb) := by
  intro pins s σ H Q I h
  refine BoolOp_or (thn (ha pins s σ H _ I h) fun v s1 ⟨x, H1, I1, r1, q1⟩ => ?_)
  obtain ⟨c, rfl, q1⟩ := q1
  cases r1
  refine wpAny_truthy_bool ?_
  cases c with
  | false => exact hb pins s1 σ H1 Q I1 q1
  | true => exact ⟨.bl true, H1, I1, rfl, q1⟩
theorem pe_not (ha : PE X a ta) : PE X (.UnaryOp .Not a pos) (tNotV ta) := by
  intro pins s σ H Q I h
  refine UnaryOp_ (thn (ha pins s σ H _ I h) fun v s1 ⟨x, H1, I1, r1, q1⟩ => ?_)
  obtain ⟨c, rfl, q1⟩ := q1
  cases r1
  exact not_of (wpAny_truthy_bool ⟨.bl (!c), H1, I1, rfl, q1⟩)
def tIf (t : TT) (ta tb : TE) : TE := fun σ H Q => t σ H fun c H1 => if c = true then ta σ H1 Q else tb σ H1 Q
theorem pe_ifExp {c : Expr} (hc : PT X c tA) (ha : PE X a ta) (hb : PE X b tb) : PE X (.IfExp c a b pos) (tIf tA ta tb) := by
  intro pins s σ H Q I h
  refine wpAny_IfExp (thn (hc pins s σ H _ I h) fun d s1 ⟨H1, I1, q1⟩ => ?_)
  cases d with
  | true => exact ha pins s1 σ H1 Q I1 q1
  | false => exact hb pins s1 σ H1 Q I1 q1
end
end L2
namespace L2
open PySem PySem.Spec PyProof.Rows
def SqL (K : PySem.W.Frag) (H : Hp) (a : Addr) (xs : List V) : Prop :=
  Rd H a (.lst xs) ∨
    ∃ (o : Obj) (its : Array Value) (n : Nat), K.lookup a = some o ∧ o.cls = .type "list" ∧ o.dict = none ∧ o.data = .seq its n ∧ its.size ≤ sizeLine ∧ Vals xs its.toList
def SqT (K : PySem.W.Frag) (H : Hp) (a : Addr) (xs : List V) : Prop :=
  Rd H a (.tup xs) ∨
    ∃ (o : Obj) (its : Array Value) (n : Nat), K.lookup a = some o ∧ o.cls = .type "tuple" ∧ o.data = .seq its n ∧ its.size ≤ sizeLine ∧ Vals xs its.toList
def absV : Value → Option V
  | .none => some .non
  | .bool b => some (.bl b)
  | .int i _ => some (.int i)
  | .str x _ => some (.str x)
  | .bytes b _ => some (.byt b)
  | .float b _ => some (.flt b)
  | .ref a => some (.ref a)
  | .type n => some (.ty n)
  | _ => none
theorem RelV.abs {x : V} {u : Value} (r : RelV x u) : absV u = some x := by
  cases x with
  | non => cases r; rfl
  | bl _ => cases r; rfl
  | int _ => obtain ⟨t, rfl⟩ := r; rfl
  | str _ => obtain ⟨t, rfl⟩ := r; rfl
  | byt _ => obtain ⟨t, rfl⟩ := r; rfl
  | flt _ => obtain ⟨t, rfl⟩ := r; rfl
  | ref _ => cases r; rfl
  | ty _ => cases r; rfl
theorem RelV.inj {x y : V} {u : Value} (r : RelV x u) (q : RelV y u) : x = y := Option.some.inj (r.abs.symm.trans q.abs)
theorem Vals.inj : ∀ {xs ys : List V} {us : List Value}, Vals xs us → Vals ys us → xs = ys
  | _, _, _, .nil, .nil => rfl
  | _, _, _, .cons r t, .cons r' t' => by rw [r.inj r', Vals.inj t t']
section
variable {X : Cx} {pins : List (Addr × Obj)} {σ : St} {H : Hp} {s : Shared} {a : Addr} {xs ys : List V}
theorem SqL.of {K : PySem.W.Frag} (h : H a = some (.lst xs)) : SqL K H a xs := .inl (.inl h)
theorem SqT.of {K : PySem.W.Frag} (h : H a = some (.tup xs)) : SqT K H a xs := .inl (.inl h)
theorem Inv.list (I : Inv X pins σ H s) (h : SqL X.K H a xs) : ∃ its : List Value, Vals xs its ∧ PlainL s.heap a its.toArray ∧ xs.length ≤ sizeLine := by
  rcases h with h | ⟨o, its, n, hk, hc, hd, hs, hz, r⟩
  · obtain ⟨z, its, n, r, e⟩ := h.ok I.hok
    exact ⟨its, r, ⟨_, n, e, rfl, rfl, rfl⟩, z⟩
  · refine ⟨its.toList, r, ⟨o, n, I.kIn a o hk, hc, hd, by simpa using hs⟩, ?_⟩
    have e := r.length
    simp only [Array.length_toList] at e
    omega
theorem Inv.tuple (I : Inv X pins σ H s) (h : SqT X.K H a xs) : ∃ its : List Value, Vals xs its ∧ IsTup s.heap a its.toArray ∧ xs.length ≤ sizeLine := by
  rcases h with h | ⟨o, its, n, hk, hc, hs, hz, r⟩
  · obtain ⟨z, its, r, p⟩ := h.ok I.hok
    exact ⟨its, r, p, z⟩
  · refine ⟨its.toList, r, ⟨o, I.kIn a o hk, hc, n, by simpa using hs⟩, ?_⟩
    have e := r.length
    simp only [Array.length_toList] at e
    omega
theorem Inv.list_inj (I : Inv X pins σ H s) (h : SqL X.K H a xs) (h' : SqL X.K H a ys) : xs = ys := by
  obtain ⟨its, r, ⟨o, n, e, _, _, d⟩, _⟩ := I.list h
  obtain ⟨its', r', ⟨o', n', e', _, _, d'⟩, _⟩ := I.list h'
  rw [e] at e'; cases e'
  rw [d] at d'
  injection d' with d1 _
  have : its = its' := by simpa using congrArg Array.toList d1
  subst this
  exact r.inj r'
theorem Inv.tuple_inj (I : Inv X pins σ H s) (h : SqT X.K H a xs) (h' : SqT X.K H a ys) : xs = ys := by
  obtain ⟨its, r, ⟨o, e, _, n, d⟩, _⟩ := I.tuple h
  obtain ⟨its', r', ⟨o', e', _, n', d'⟩, _⟩ := I.tuple h'
  rw [e] at e'; cases e'
  rw [d] at d'
  injection d' with d1 _
  have : its = its' := by simpa using congrArg Array.toList d1
  subst this
  exact r.inj r'
end
abbrev Cx.wish (X : Cx) (E : Value → Shared → Prop) : Cx := { X with xe := E }
abbrev Cx.nox (X : Cx) : Cx := X.wish fun _ _ => False
theorem Cx.Ok.wish {X : Cx} (ok : X.Ok) (E : Value → Shared → Prop) : (X.wish E).Ok :=
  ⟨ok.mod, ok.kind, ok.glob, ok.blt, ok.above, ok.inj, ok.has, ok.cab, ok.hd, ok.frames, ok.stk, ok.exf, ok.bs, ok.bsz, ok.noex, ok.exfs, ok.funs, ok.frf⟩
theorem Cx.Ok.unwish {X : Cx} {E : Value → Shared → Prop} (ok : (X.wish E).Ok) : X.Ok :=
  ⟨ok.mod, ok.kind, ok.glob, ok.blt, ok.above, ok.inj, ok.has, ok.cab, ok.hd, ok.frames, ok.stk, ok.exf, ok.bs, ok.bsz, ok.noex, ok.exfs, ok.funs, ok.frf⟩
section
variable {X : Cx} {pins : List (Addr × Obj)} {σ : St} {H : Hp} {s : Shared} {E : Value → Shared → Prop}
theorem Inv.wish (I : Inv X pins σ H s) (E : Value → Shared → Prop) : Inv (X.wish E) pins σ H s := ⟨I.ok.wish E, I.os, I.bare, I.base, I.loc, I.cell, I.free, I.freeC, I.pin, I.hok, I.len⟩
theorem Inv.unwish (I : Inv (X.wish E) pins σ H s) : Inv X pins σ H s := ⟨I.ok.unwish, I.os, I.bare, I.base, I.loc, I.cell, I.free, I.freeC, I.pin, I.hok, I.len⟩
theorem SP.unwish {D : Ends} {f : Flow} {s' : Shared} (h : SP (X.wish E) pins D f s') : SP X pins D f s' := by
  cases f with
  | next => obtain ⟨σ', H', I, q⟩ := h; exact ⟨σ', H', I.unwish, q⟩
  | brk => obtain ⟨σ', H', I, q⟩ := h; exact ⟨σ', H', I.unwish, q⟩
  | cont => obtain ⟨σ', H', I, q⟩ := h; exact ⟨σ', H', I.unwish, q⟩
  | ret u => obtain ⟨v, σ', H', I, r, q⟩ := h; exact ⟨v, σ', H', I.unwish, r, q⟩
theorem PE.nox {e : Expr} {t : TE} (h : PE X.nox e t) : PE X e t := fun pins s σ H Q I hw =>
  wpAny_mono (h pins s σ H Q (I.wish _) hw) (fun _ _ ⟨v, H', I', r, q⟩ => ⟨v, H', I'.unwish, r, q⟩) fun _ _ z => False.elim z
theorem PT.nox {e : Expr} {t : TT} (h : PT X.nox e t) : PT X e t := fun pins s σ H Q I hw =>
  wpAny_mono (h pins s σ H Q (I.wish _) hw) (fun _ _ ⟨H', I', q⟩ => ⟨H', I'.unwish, q⟩) fun _ _ z => False.elim z
theorem PSs.nox {st : List Stmt} {t : TS} (h : PSs X.nox st t) : PSs X st t := fun pins s σ H D I hw =>
  wpAny_mono (h pins s σ H D (I.wish _) hw) (fun _ _ q => q.unwish) fun _ _ z => False.elim z
end
section
variable {X : Cx} {st : Stmt} {rest : List Stmt} {t u : TS} {e : Expr} {te : TE} {pos : Pos}
def tNext : TS := fun D σ H => D.nx σ H
def tSeq (t u : TS) : TS := fun D σ H => t { D with nx := u D } σ H
theorem pss_nil : PSs X [] tNext := fun _ _ σ H _ I h => wpAny_execs_nil ⟨σ, H, I, h⟩
theorem pss_cons (h1 : PS X st t) (h2 : PSs X rest u) : PSs X (st :: rest) (tSeq t u) := by
  intro pins s σ H D I h
  refine wpAny_execs_cons (thn (h1 pins s σ H { D with nx := u D } I h) fun f s1 q => ?_)
  cases f with
  | next =>
    obtain ⟨σ', H', I', q⟩ := q
    exact h2 pins s1 σ' H' D I' q
  | ret v => exact q
  | brk => exact q
  | cont => exact q
theorem pss_one (h1 : PS X st t) : PSs X [st] t := by
  intro pins s σ H D I h
  refine wpAny_execs_cons (thn (h1 pins s σ H D I h) fun f s1 q => ?_)
  cases f with
  | next => exact wpAny_execs_nil q
  | ret v => exact q
  | brk => exact q
  | cont => exact q
def tBreak : TS := fun D σ H => D.bk σ H
def tCont : TS := fun D σ H => D.ct σ H
theorem ps_pass : PS X (.Pass pos) tNext := fun _ _ σ H _ I h => wpAny_Pass ⟨σ, H, I, h⟩
theorem ps_break : PS X (.Break pos) tBreak := fun _ _ σ H _ I h => wpAny_Break ⟨σ, H, I, h⟩
theorem ps_continue : PS X (.Continue pos) tCont := fun _ _ σ H _ I h => wpAny_Continue ⟨σ, H, I, h⟩
theorem Inv.quiet {pins : List (Addr × Obj)} {σ : St} {H : Hp} {s : Shared} (I : Inv X pins σ H s) : interactive X.env = false := by simp [interactive, I.ok.kind]
theorem ps_doc {x j pos pos'} : PS X (.Expr (.Constant (.str x) j pos) pos') tNext := fun _ s σ H _ I h => wpAny_Expr (Calls.Constant_str (show SP X _ _ .next { s with toks := s.toks + 1 } from ⟨σ, H, I.tok _, h⟩)) I.quiet
def tDrop (te : TE) : TS := fun D σ H => te σ H fun _ H1 => D.nx σ H1
theorem ps_expr (he : PE X e te) (hs : swapsWith e none pos.line X.env = pure false := by rfl) : PS X (.Expr e pos) (tDrop te) := by
  intro pins s σ H D I h
  exact wpAny_Expr_any (thn (he pins s σ H _ I h) fun v s1 ⟨x, H1, I1, r1, q1⟩ => ⟨σ, H1, I1, q1⟩) I.quiet hs
def tRet (te : TE) : TS := fun D σ H => te σ H D.rt
theorem ps_ret (he : PE X e te) : PS X (.Return (some e) pos) (tRet te) := by
  intro pins s σ H D I h
  exact wpAny_Return_some (thn (he pins s σ H _ I h) fun v s1 ⟨x, H1, I1, r1, q1⟩ => ⟨x, σ, H1, I1, r1, q1⟩)
def tRetN : TS := fun D _ H => D.rt .non H
theorem ps_retN : PS X (.Return none pos) tRetN := fun _ _ σ H _ I h => wpAny_Return_none ⟨.non, σ, H, I, rfl, h⟩
def tIfS (c : TT) (t u : TS) : TS := fun D σ H => c σ H fun b H1 => if b = true then t D σ H1 else u D σ H1
theorem ps_if {c : Expr} {a b : List Stmt} {tc : TT} (hc : PT X c tc) (ha : PSs X a t) (hb : PSs X b u) : PS X (.If c a b pos) (tIfS tc t u) := by
  intro pins s σ H D I h
  refine wpAny_If (thn (hc pins s σ H _ I h) fun d s1 ⟨H1, I1, q1⟩ => ?_)
  cases d with
  | true => exact ha pins s1 σ H1 D I1 q1
  | false => exact hb pins s1 σ H1 D I1 q1
def tNever : TS := fun _ _ _ => False
theorem ps_never : PS X st tNever := fun _ _ _ _ _ _ h => h.elim
theorem pss_never {sts : List Stmt} : PSs X sts tNever := fun _ _ _ _ _ _ h => h.elim
end
abbrev TG := V → St → Hp → (St → Hp → Prop) → Prop
abbrev TGs := List V → St → Hp → (St → Hp → Prop) → Prop
def PG (X : Cx) (target : Expr) (t : TG) : Prop :=
  ∀ (pins : List (Addr × Obj)) (s : Shared) (σ : St) (H : Hp) (v : V) (u : Value) (Q : St → Hp → Prop), Inv X pins σ H s → RelV v u → t v σ H Q →
    wpAny (model X.prog X.w) X.A (assign target X.env u) (fun _ s' => ∃ σ' H', Inv X pins σ' H' s' ∧ Q σ' H') X.xe s
def PGs (X : Cx) (ts : List Expr) (t : TGs) : Prop :=
  ∀ (pins : List (Addr × Obj)) (s : Shared) (σ : St) (H : Hp) (vs : List V) (us : List Value) (Q : St → Hp → Prop), Inv X pins σ H s → Vals vs us → t vs σ H Q →
    wpAny (model X.prog X.w) X.A (assignInOrder ((assignEach ts X.env).map (·.2)) us) (fun _ s' => ∃ σ' H', Inv X pins σ' H' s' ∧ Q σ' H') X.xe s
abbrev TSet := V → V → V → Hp → (Hp → Prop) → Prop
def PSet (X : Cx) (t : TSet) : Prop :=
  ∀ (pins : List (Addr × Obj)) (s : Shared) (σ : St) (H : Hp) (o i v : V) (ov iv u : Value) (Q : Hp → Prop), Inv X pins σ H s → RelV o ov → RelV i iv → RelV v u → t o i v H Q →
    wpAny (model X.prog X.w) X.A (setItem ov iv u) (fun _ s' => ∃ H', Inv X pins σ H' s' ∧ Q H') X.xe s
abbrev TIp := V → V → Hp → VK → Prop
def PIp (X : Cx) (op : Operator) (t : TIp) : Prop :=
  ∀ (pins : List (Addr × Obj)) (s : Shared) (σ : St) (H : Hp) (x y : V) (v u : Value) (Q : VK), Inv X pins σ H s → RelV x v → RelV y u → t x y H Q →
    wpAny (model X.prog X.w) X.A (inplaceOp op v u) (EP X pins σ Q) X.xe s
section
variable {X : Cx} {pos : Pos}
def gName (i : Nat) : TG := fun v σ H Q => Q (σ.set i (some v)) H
theorem pg_name {i : Nat} {x : Str} (hN : X.N.Nodup) (hi : X.N[i]? = some x) (hx : Loc X.env.scope x) (hf : X.fn x = true ∨ X.env.scope.names.lookup x = some .local := by first | exact .inl rfl | exact .inr rfl | assumption) : PG X (.Name x pos) (gName i) := by
  intro pins s σ H v u Q I r h
  exact wpAny_assign_Name (store_ok I hN hi hx r (fun s' I' => ⟨_, H, I', h⟩) hf)
def gNil : TGs := fun vs σ H Q => vs = [] ∧ Q σ H
def gCons (t : TG) (u : TGs) : TGs := fun vs σ H Q => ∃ v r, vs = v :: r ∧ t v σ H fun σ' H' => u r σ' H' Q
theorem pgs_nil : PGs X [] gNil := by
  intro pins s σ H vs us Q I r h
  obtain ⟨e, h⟩ := h
  subst e
  cases r
  exact assignInOrder_nil ⟨σ, H, I, h⟩
theorem pgs_cons {e : Expr} {es : List Expr} {t : TG} {u : TGs} (h1 : PG X e t) (h2 : PGs X es u)
    (hs : (assignEach (e :: es) X.env).map (·.2) = assign e X.env :: (assignEach es X.env).map (·.2) := by rfl) : PGs X (e :: es) (gCons t u) := by
  intro pins s σ H vs us Q I r h
  obtain ⟨v, vr, e1, h⟩ := h
  subst e1
  cases r with
  | cons r rr =>
    rw [hs]
    refine assignInOrder_cons (thn (h1 pins s σ H _ _ _ I r h) fun _ s1 ⟨σ1, H1, I1, q1⟩ => ?_)
    exact h2 pins s1 σ1 H1 _ _ Q I1 rr q1
def gTup (K : PySem.W.Frag) (n : Nat) (t : TGs) : TG := fun v σ H Q => ∃ a xs, v = .ref a ∧ SqT K H a xs ∧ xs.length = n ∧ t xs σ H Q
theorem pg_tup {es : List Expr} {k : Nat} {t : TGs} {n : Nat} (hc : X.calm = true) (h : PGs X es t)
    (hn : (assignEach es X.env).length = n := by rfl) (hst : (assignEach es X.env).findIdx? (·.1) = none := by rfl) : PG X (.Tuple es k pos) (gTup X.K n t) := by
  intro pins s σ H v u Q I r hw
  obtain ⟨a, xs, e1, hq, hl, hw⟩ := hw
  subst e1
  cases r
  obtain ⟨its, rv, ht, hz⟩ := I.tuple hq
  refine assign_Tuple_tuple (I.ok.hd hc) ht (by simp [hn, ← hl, rv.length]) hst fun h' hx => ?_
  have I1 : Inv X pins σ H { s with heap := h' } := I.kept (t' := s.toks) fun b o e => hx b o (Nat.ne_of_lt (Heap.lt_size e)) e
  exact h pins _ σ H xs _ Q I1 (by simpa using rv) hw
def gSub (to ti : TE) (t : TSet) : TG := fun v σ H Q => to σ H fun o H1 => ti σ H1 fun i H2 => t o i v H2 fun H3 => Q σ H3
theorem pg_sub {o i : Expr} {to ti : TE} {t : TSet} (ho : PE X o to) (hi : PE X i ti) (hs : PSet X t)
    (ha : ∀ v, assign (.Subscript o i pos) X.env v = (do
      let ov ← holding [v] (eval o X.env)
      let iv ← holding [v, ov] (eval i X.env)
      standAt pos
      holding [v, ov, iv] (setItem ov iv v)
      release [v, ov, iv] []) := by intro _; rfl) : PG X (.Subscript o i pos) (gSub to ti t) := by
  intro pins s σ H v u Q I r h
  rw [ha]
  refine wpAny_bind (wpAny_holding (thn (ho pins s σ H _ I h) fun ov s1 ⟨x, H1, I1, r1, q1⟩ => ?_))
  refine wpAny_bind (wpAny_holding (thn (hi pins s1 σ H1 _ I1 q1) fun iv s2 ⟨y, H2, I2, r2, q2⟩ => ?_))
  refine wpAny_bind (wpAny_standAt (wpAny_bind (wpAny_holding (thn (hs pins s2 σ H2 x y v ov iv u _ I2 r1 r2 r q2) fun _ s3 ⟨H3, I3, q3⟩ => ?_))))
  exact wpAny_release ⟨σ, H3, I3, q3⟩
def tAsg (te : TE) (g : TG) : TS := fun D σ H => te σ H fun x H1 => g x σ H1 D.nx
theorem ps_asg {tg e : Expr} {te : TE} {g : TG} (he : PE X e te) (hg : PG X tg g) (hs : swapsWithSole [tg] e pos.line X.env = pure false := by rfl) (hw : swappedStores [tg] e X.env = pure none := by rfl)
    (h1 : (assignEach [tg] X.env).map (·.2) = [assign tg X.env] := by rfl) : PS X (.Assign [tg] e pos) (tAsg te g) := by
  intro pins s σ H D I h
  refine wpAny_Assign_stores (thn (he pins s σ H _ I h) fun v s1 ⟨x, H1, I1, r1, q1⟩ => ?_) hs hw
  rw [h1]
  exact thn (hg pins s1 σ H1 x v _ I1 r1 q1) fun _ s2 q => q
theorem ps_set {i : Nat} {x : Str} {e : Expr} {te : TE} {pos' : Pos} (hN : X.N.Nodup) (hi : X.N[i]? = some x) (hx : Loc X.env.scope x) (he : PE X e te) (hs : swapsWith e (some (.Name x pos')) pos.line X.env = pure false := by rfl) (hf : X.fn x = true ∨ X.env.scope.names.lookup x = some .local := by first | exact .inl rfl | exact .inr rfl | assumption) :
    PS X (.Assign [.Name x pos'] e pos) (tAsg te (gName i)) := by
  intro pins s σ H D I h
  refine wpAny_Assign_Name (thn (he pins s σ H _ I h) fun v s1 ⟨y, H1, I1, r1, q1⟩ => ?_) hs
  exact store_ok I1 hN hi hx r1 (fun s2 I2 => ⟨_, H1, I2, q1⟩) hf
def tPar (i j : Nat) (ta : TA) : TS := fun D σ H => ta σ H fun vs H1 => ∃ v w, vs = [v, w] ∧ D.nx ((σ.set i (some v)).set j (some w)) H1
theorem ps_par {i j : Nat} {x y : Str} {a b : Expr} {ta : TA} {px py pt : Pos} {kt k2 pt2} (hc : X.calm = true) (hN : X.N.Nodup) (hi : X.N[i]? = some x) (hj : X.N[j]? = some y) (hij : i ≠ j)
    (hx : X.env.scope.names.lookup x = some .local) (hy : X.env.scope.names.lookup y = some .local) (ha : PA X [a, b] ta)
    (hw : swappedStores [.Tuple [.Name x px, .Name y py] kt pt] (.Tuple [a, b] k2 pt2) X.env = pure (some [x, y]))
    (hs : swapsWithSole [.Tuple [.Name x px, .Name y py] kt pt] (.Tuple [a, b] k2 pt2) pos.line X.env = pure false := by rfl) :
    PS X (.Assign [.Tuple [.Name x px, .Name y py] kt pt] (.Tuple [a, b] k2 pt2) pos) (tPar i j ta) := by
  intro pins s σ H D I h
  rw [exec_Assign_arm]
  refine wpAny_bind (wpAny_standAt ?_)
  rw [hs]
  refine wpAny_bind (wpAny_pure ?_)
  rw [if_neg (by decide)]
  refine wpAny_bind (Tuple_ (thn (ha _ pins s σ H _ I h) fun us s1 ⟨vs, H1, I1, r1, q1⟩ => ?_))
  obtain ⟨v, w, e1, q1⟩ := q1
  subst e1
  obtain ⟨u1, u2, rfl, rv, rw'⟩ : ∃ u1 u2, us = [u1, u2] ∧ RelV v u1 ∧ RelV w u2 := by
    cases r1 with
    | cons p q =>
      cases q with
      | cons p' q' =>
        cases q'
        exact ⟨_, _, rfl, p, p'⟩
  refine wpAny_newObj_type ?_ (by show 2 ≤ sizeLine; decide)
  have I2 : Inv X pins σ H1 { s1 with heap := s1.heap.push { cls := .type "tuple", data := .seq [u1, u2].toArray } } := I1.kept (t' := s1.toks) fun b o e => Heap.get?_push_of_some _ e
  rw [hw]
  refine wpAny_bind (wpAny_pure ?_)
  show wpAny (model X.prog X.w) X.A (do rule "assign.swapped-stores"; let items ← unpackItems (.ref s1.heap.objs.size) 2 none; assignInOrder [fun v => bindName X.env y v, fun v => bindName X.env x v] items.reverse; pure Flow.next) _ _ _
  refine wpAny_bind (wpAny_rule (wpAny_bind (unpackItems_tuple (items := #[u1, u2]) (I.ok.hd hc) (IsTup.new s1.heap _) fun h' hx' => ?_)))
  have I3 := I2.kept (h' := h') (t' := s1.toks) fun b o e => hx' b o (Nat.ne_of_lt (Heap.lt_size e)) e
  show wpAny _ _ (assignInOrder [fun v => bindName X.env y v, fun v => bindName X.env x v] [u2, u1] >>= fun _ => pure Flow.next) _ _ _
  refine wpAny_bind (assignInOrder_cons (wpAny_bindName (store_ok I3 hN hj (.inl hy) rw' (fun s2 I4 => ?_) (.inr hy))))
  refine assignInOrder_cons (wpAny_bindName (store_ok I4 hN hi (.inl hx) rv (fun s3 I5 => assignInOrder_nil (wpAny_pure ?_)) (.inr hx)))
  rw [List.set_comm _ _ (Ne.symm hij)] at I5
  exact ⟨_, H1, I5, q1⟩
def tAug (i : Nat) (te : TE) (ti : TIp) : TS := fun D σ H => ∃ x, σ[i]? = some (some x) ∧ te σ H fun y H1 => ti x y H1 fun z H2 => D.nx (σ.set i (some z)) H2
theorem ps_aug {i : Nat} {x : Str} {e : Expr} {te : TE} {op : Operator} {ti : TIp} {pos' : Pos} (hN : X.N.Nodup) (hi : X.N[i]? = some x) (hx : Loc X.env.scope x) (he : PE X e te) (ho : PIp X op ti) (hf : X.fn x = true ∨ X.env.scope.names.lookup x = some .local := by first | exact .inl rfl | exact .inr rfl | assumption) :
    PS X (.AugAssign (.Name x pos') op e pos) (tAug i te ti) := by
  intro pins s σ H D I h
  obtain ⟨v, e1, h⟩ := h
  obtain ⟨m, hn, hl⟩ := I.loc
  have vis : Vis X.env.scope x := by rcases hx with k | k; exact .inl k; exact .inr (.inl k)
  obtain ⟨u, r, l⟩ := hl i x v hi e1 vis
  refine wpAny_AugAssign_Name ?_
  have go : wpAny (model X.prog X.w) X.A (eval e X.env) (fun w s₂ => wpAny (model X.prog X.w) X.A (inplaceOp op u w) (fun r s₃ => wpAny (model X.prog X.w) X.A (storeName X.env x r) (fun _ => SP X pins D .next) X.xe s₃) X.xe s₂) X.xe s := by
    refine thn (he pins s σ H _ I h) fun w s1 ⟨y, H1, I1, r1, q1⟩ => ?_
    refine thn (ho pins s1 σ H1 v y u w _ I1 r r1 q1) fun z s2 ⟨zv, H2, I2, r2, q2⟩ => ?_
    exact store_ok I2 hN hi hx r2 (fun s3 I3 => ⟨_, H2, I3, q2⟩) hf
  rcases l with ⟨hk, hm⟩ | ⟨hk, c, hc, hcell⟩
  · exact wpAny_loadName_local I.ok.kind hk hn hm go
  · rcases hk with hk | hk
    · exact wpAny_loadName_cell I.ok.kind hk hc hcell go
    · rcases hx with k | k
      · have : X.env.scope.names.lookup x = some .free := hk
        rw [k] at this; cases this
      · have : X.env.scope.names.lookup x = some .free := hk
        rw [k] at this; cases this
def tAugS (to ti te : TE) (tget : V → V → Hp → VK → Prop) (tip : TIp) (tset : TSet) : TS := fun D σ H => to σ H fun o H1 => ti σ H1 fun i H2 => tget o i H2 fun x H3 => te σ H3 fun y H4 => tip x y H4 fun z H5 => tset o i z H5 fun H6 => D.nx σ H6
def PGet (X : Cx) (t : V → V → Hp → VK → Prop) : Prop :=
  ∀ (pins : List (Addr × Obj)) (s : Shared) (σ : St) (H : Hp) (o i : V) (ov iv : Value) (Q : VK), Inv X pins σ H s → RelV o ov → RelV i iv → t o i H Q →
    wpAny (model X.prog X.w) X.A (getItem ov iv) (EP X pins σ Q) X.xe s
theorem ps_augS {o i e : Expr} {to ti te : TE} {tget : V → V → Hp → VK → Prop} {tip : TIp} {tset : TSet} {op : Operator} {tpos : Pos} (ho : PE X o to) (hi : PE X i ti) (hg : PGet X tget) (he : PE X e te) (hp : PIp X op tip) (hs : PSet X tset)
    (ha : ∀ ov iv new, augStore i ov iv new = (do holding [new, ov, iv] (setItem ov iv new); release [new, ov, iv] []; pure .next) := by intros; rfl) : PS X (.AugAssign (.Subscript o i tpos) op e pos) (tAugS to ti te tget tip tset) := by
  intro pins s σ H D I h
  refine wpAny_AugAssign_SubscriptAny (thn (ho pins s σ H _ I h) fun ov s1 ⟨x1, H1, I1, r1, q1⟩ => ?_) ha
  refine thn (hi pins s1 σ H1 _ I1 q1) fun iv s2 ⟨x2, H2, I2, r2, q2⟩ => ?_
  refine thn (hg pins s2 σ H2 x1 x2 ov iv _ I2 r1 r2 q2) fun old s3 ⟨x3, H3, I3, r3, q3⟩ => ?_
  refine thn (he pins s3 σ H3 _ I3 q3) fun v s4 ⟨x4, H4, I4, r4, q4⟩ => ?_
  refine thn (hp pins s4 σ H4 x3 x4 old v _ I4 r3 r4 q4) fun new s5 ⟨x5, H5, I5, r5, q5⟩ => ?_
  exact thn (hs pins s5 σ H5 x1 x2 x5 ov iv new _ I5 r1 r2 r5 q5) fun _ s6 ⟨H6, I6, q6⟩ => ⟨σ, H6, I6, q6⟩
def ipI (f : Int → Int → Int) : TIp := fun x y H Q => ∃ i j, x = .int i ∧ y = .int j ∧ Q (.int (f i j)) H
theorem ip_add : PIp X .Add (ipI fun i j => i + j) := by
  intro pins s σ H x y v u Q I r1 r2 h
  obtain ⟨i, j, e1, e2, q⟩ := h
  subst e1; subst e2
  obtain ⟨t, rfl⟩ := r1
  obtain ⟨t', rfl⟩ := r2
  exact iadd_int ⟨.int _, H, I.tok _, ⟨_, rfl⟩, q⟩
theorem ip_sub : PIp X .Sub (ipI fun i j => i - j) := by
  intro pins s σ H x y v u Q I r1 r2 h
  obtain ⟨i, j, e1, e2, q⟩ := h
  subst e1; subst e2
  obtain ⟨t, rfl⟩ := r1
  obtain ⟨t', rfl⟩ := r2
  exact isub_int ⟨.int _, H, I.tok _, ⟨_, rfl⟩, q⟩
end
section
variable {X : Cx} {pos : Pos}
def tWhile (c : TT) (tb : TS) : TS := fun D σ H => ∃ W : Nat → St → Hp → Prop, (∃ m, W m σ H) ∧ ∀ m σ H, W m σ H →
  c σ H fun b H1 => if b = true then ∃ N : St → Hp → Prop, (∀ σ' H', N σ' H' → ∃ m', m' < m ∧ W m' σ' H') ∧ tb { D with nx := N, ct := N, bk := D.nx } σ H1 else D.nx σ H1
theorem ps_while {c : Expr} {body : List Stmt} {tc : TT} {tb : TS} (hp : PassesOwn (model X.prog X.w) X.A X.env X.xe) (hc : PT X c tc) (hb : PSs X body tb) : PS X (.While c body [] pos) (tWhile tc tb) := by
  intro pins s σ H D I h
  obtain ⟨W, ⟨m0, w0⟩, turn⟩ := h
  refine wpAny_While (codeAny_whileLoop (fun n s' => ∃ σ' H', Inv X pins σ' H' s' ∧ W n σ' H') ?_ m0 ⟨σ, H, I, w0⟩)
  rintro n s1 ⟨σ1, H1, I1, w1⟩
  refine wpAny_passesOwn hp (thn (hc pins s1 σ1 H1 _ I1 (turn n σ1 H1 w1)) fun b s2 ⟨H2, I2, q2⟩ => ?_)
  cases b with
  | true =>
    obtain ⟨N, hN, q2⟩ := q2
    rw [if_pos rfl]
    refine wpAny_passesOwn hp (thn (hb pins s2 σ1 H2 _ I2 q2) fun f s3 q3 => ?_)
    cases f with
    | next =>
      obtain ⟨σ3, H3, I3, n3⟩ := q3
      obtain ⟨m', hm, w3⟩ := hN σ3 H3 n3
      exact ⟨m', hm, σ3, H3, I3, w3⟩
    | cont =>
      obtain ⟨σ3, H3, I3, n3⟩ := q3
      obtain ⟨m', hm, w3⟩ := hN σ3 H3 n3
      exact ⟨m', hm, σ3, H3, I3, w3⟩
    | brk => exact q3
    | ret v => exact q3
  | false =>
    rw [if_neg Bool.false_ne_true]
    exact wpAny_execs_nil ⟨σ1, H2, I2, q2⟩
end
structure It where
  go : Nat → Hp → Prop
  yld : Nat → Hp → V → Hp → Prop
  stop : Nat → Hp → Prop
def FpOk (X : Cx) (pins : List (Addr × Obj)) (H : Hp) (b : Addr) : Prop :=
  H b = none ∧ b ≠ X.env.locals ∧ b ∉ X.fs ∧ (b ∈ X.ex ∨ X.s₀.heap.objs.size ≤ b) ∧ (∀ x c, X.env.cells.lookup x = some c → c ≠ b) ∧ ∀ p ∈ X.pn ++ pins, p.1 ≠ b
theorem Inv.fpOk {X : Cx} {pins : List (Addr × Obj)} {σ : St} {H H' : Hp} {s : Shared} {b : Addr} (I : Inv X pins σ H s) (hb : s.heap.objs.size ≤ b) (hn : H' b = none) : FpOk X pins H' b := by
  refine ⟨hn, Nat.ne_of_gt (Nat.lt_of_lt_of_le I.lt hb), I.nofs hb, .inr (Nat.le_trans I.sz hb), fun x c e z => ?_, fun p hp z => ?_⟩
  · obtain ⟨v, q⟩ := I.cell x c e
    exact absurd (Nat.lt_of_lt_of_le q.lt (by rw [z]; exact hb)) (Nat.lt_irrefl _)
  · exact absurd (Nat.lt_of_lt_of_le (Heap.lt_size (I.pin p hp).1) (by rw [z]; exact hb)) (Nat.lt_irrefl _)
structure Turn (P : Program) (w : World) (K : PySem.W.Frag) (tg : Expr) (J : It) (fp : List Addr) (it : Addr) (tn : Nat → Heap → Prop) : Prop where
  mem : it ∈ fp
  obj : ∀ i h, tn i h → ∀ b ∈ fp, ∃ o, h.get? b = some o ∧ ∀ v, o.data ≠ .cell v
  keep : ∀ i h h', tn i h → (∀ b ∈ fp, ∀ o, h.get? b = some o → h'.get? b = some o) → tn i h'
  item : ∀ (X : Cx), X.prog = P → X.w = w → X.K = K → X.calm = true → ∀ (i : Nat) (pins : List (Addr × Obj)) (s : Shared) (σ : St) (H : Hp) (E : Value → Shared → Prop), Inv X pins σ H s → (∀ b ∈ fp, FpOk X pins H b) → tn i s.heap → J.go i H →
    wpAny (model P w) X.A (pyNext (.ref it)) (fun r s1 => ∃ u, r = some u ∧
      wpAny (model P w) X.A (letOwnedTupleGo tg (.ref it) u) (fun _ s2 => ∃ x H', Inv X pins σ H' s2 ∧ RelV x u ∧ J.yld i H x H' ∧ tn (i + 1) s2.heap ∧ ∀ b ∈ fp, H' b = none) E s1) E s
  done : ∀ (X : Cx), X.prog = P → X.w = w → X.K = K → X.calm = true → ∀ (i : Nat) (pins : List (Addr × Obj)) (s : Shared) (σ : St) (H : Hp) (E : Value → Shared → Prop), Inv X pins σ H s → (∀ b ∈ fp, FpOk X pins H b) → tn i s.heap → J.stop i H →
    wpAny (model P w) X.A (pyNext (.ref it)) (fun r s1 => r = none ∧ Inv X pins σ H s1) E s
  self : ∀ (A : Around) (i : Nat) (s : Shared) (Q : Value → Shared → Prop) (E : Value → Shared → Prop), tn i s.heap → Q (.ref it) s → wpAny (model P w) A (pyIter (.ref it)) Q E s
abbrev TI := St → Hp → (It → Hp → Prop) → Prop
def PIE (X : Cx) (pins : List (Addr × Obj)) (σ : St) (tg : Expr) (R : It → Hp → Prop) (itv : Value) (s2 : Shared) : Prop :=
  ∃ (it : Addr) (fp : List Addr) (tn : Nat → Heap → Prop) (J : It) (H' : Hp), itv = .ref it ∧ Inv X pins σ H' s2 ∧ Turn X.prog X.w X.K tg J fp it tn ∧ tn 0 s2.heap ∧ (∀ b ∈ fp, FpOk X pins H' b) ∧ R J H'
def PI (X : Cx) (tg iter : Expr) (wi : TI) : Prop :=
  ∀ (pins : List (Addr × Obj)) (s : Shared) (σ : St) (H : Hp) (R : It → Hp → Prop), Inv X pins σ H s → wi σ H R →
    wpAny (model X.prog X.w) X.A (eval iter X.env) (fun v s1 => wpAny (model X.prog X.w) X.A (pyIter v) (PIE X pins σ tg R) X.xe s1) X.xe s
theorem go_of {M : Model} {A : Around} {E : Value → Shared → Prop} {s : Shared} {tg : Expr} {it : Addr} {u : Value} {o : Obj} {n : String} {vs : Array Value} {Q : Unit → Shared → Prop} (ho : s.heap.get? it = some o) (hc : o.cls = .type n) (hd : o.data = .fields vs)
    (hn : ["enumerate", "zip", "dict_itemiterator", "dict_reverseitemiterator", "odict_iterator", "itertools.zip_longest", "itertools.pairwise"].contains n = false) (hQ : Q () s) : wpAny M A (letOwnedTupleGo tg (.ref it) u) Q E s := by
  unfold letOwnedTupleGo
  cases tg <;> first
    | exact wpAny_pure hQ
    | (cases u <;> first
        | exact wpAny_pure hQ
        | (refine wpAny_bind (wpAny_load ho ?_)
           rw [hc, hd]
           show wpAny M A (if (["enumerate", "zip", "dict_itemiterator", "dict_reverseitemiterator", "odict_iterator", "itertools.zip_longest", "itertools.pairwise"].contains n && vs[0]? == some (rawInt _)) = true then _ else _) Q E s
           rw [if_neg (by intro h; rw [hn, Bool.false_and] at h; cases h)]
           exact wpAny_pure hQ))
def Itl (K : PySem.W.Frag) (a : Addr) : It :=
  ⟨fun i H => ∃ xs x, SqL K H a xs ∧ xs[i]? = some x, fun i H x H' => H' = H ∧ ∀ xs, SqL K H a xs → xs[i]? = some x, fun i H => ∃ xs, SqL K H a xs ∧ xs.length ≤ i⟩
def Itt (K : PySem.W.Frag) (a : Addr) : It :=
  ⟨fun i H => ∃ xs x, SqT K H a xs ∧ xs[i]? = some x, fun i H x H' => H' = H ∧ ∀ xs, SqT K H a xs → xs[i]? = some x, fun i H => ∃ xs, SqT K H a xs ∧ xs.length ≤ i⟩
def Itr (lo : Int) (n : Nat) : It := ⟨fun i _ => i < n, fun i H x H' => H' = H ∧ x = .int (lo + i), fun i _ => n ≤ i⟩
theorem turn_list {P : Program} {w : World} {K : PySem.W.Frag} {tg : Expr} (a it : Addr) : Turn P w K tg (Itl K a) [it] it (fun i h => h.IsListIter it a i) where
  mem := by simp
  obj := fun i h st b hb => by
    have e : b = it := by simpa using hb
    subst e
    obtain ⟨o, e, c, d⟩ := st
    exact ⟨o, e, fun v z => by rw [d] at z; cases z⟩
  keep := fun i h h' st k => st.at fun o e => k it (by simp) o e
  item := by
    intro X hP hw hK hc i pins s σ H E I hf st hg
    subst hP hw hK
    obtain ⟨xs, x, hq, hx⟩ := hg
    obtain ⟨its, rv, p, hz⟩ := I.list hq
    obtain ⟨u, hu, ru⟩ := rv.get hx
    obtain ⟨f0, f1, f2, f3, f4, f5⟩ := hf it (by simp)
    refine wpAny_pyNext_list_item st p.isList (x := u) (by simpa using hu) fun h' st' sb => ?_
    have I1 : Inv X pins σ H { s with heap := h' } := I.turned (t' := s.toks) (fun b o hb e => (sb.2 b hb).trans e) f0 f1 f3 f4 f5
    obtain ⟨o, e, c, d⟩ := id st'
    exact ⟨u, rfl, go_of (s := { s with heap := h' }) e c d (by decide) ⟨x, H, I1, ru, ⟨rfl, fun ys hy => by rw [I.list_inj hy hq]; exact hx⟩, st', fun b hb => (hf b hb).1⟩⟩
  done := by
    intro X hP hw hK hc i pins s σ H E I hf st hg
    subst hP hw hK
    obtain ⟨xs, hq, hx⟩ := hg
    obtain ⟨its, rv, p, hz⟩ := I.list hq
    obtain ⟨f0, f1, f2, f3, f4, f5⟩ := hf it (by simp)
    have hl := rv.length
    exact wpAny_pyNext_list_end (I.ok.hd hc) st p.isList (by simp; omega) fun h' eb => ⟨rfl, I.turned (t' := s.toks) (fun b o hb e => eb b o hb e) f0 f1 f3 f4 f5⟩
  self := fun _ _ _ _ _ st h => wpAny_pyIter_listiter st h
theorem turn_tuple {P : Program} {w : World} {K : PySem.W.Frag} {tg : Expr} (a it : Addr) : Turn P w K tg (Itt K a) [it] it (fun i h => h.IsTupleIter it a i) where
  mem := by simp
  obj := fun i h st b hb => by
    have e : b = it := by simpa using hb
    subst e
    obtain ⟨o, e, c, d⟩ := st
    exact ⟨o, e, fun v z => by rw [d] at z; cases z⟩
  keep := fun i h h' st k => st.at fun o e => k it (by simp) o e
  item := by
    intro X hP hw hK hc i pins s σ H E I hf st hg
    subst hP hw hK
    obtain ⟨xs, x, hq, hx⟩ := hg
    obtain ⟨its, rv, p, hz⟩ := I.tuple hq
    obtain ⟨u, hu, ru⟩ := rv.get hx
    obtain ⟨f0, f1, f2, f3, f4, f5⟩ := hf it (by simp)
    refine wpAny_pyNext_tuple_item st (show s.heap.IsTuple a its.toArray from p) (x := u) (by simpa using hu) fun h' st' sb => ?_
    have I1 : Inv X pins σ H { s with heap := h' } := I.turned (t' := s.toks) (fun b o hb e => (sb.2 b hb).trans e) f0 f1 f3 f4 f5
    obtain ⟨o, e, c, d⟩ := id st'
    exact ⟨u, rfl, go_of (s := { s with heap := h' }) e c d (by decide) ⟨x, H, I1, ru, ⟨rfl, fun ys hy => by rw [I.tuple_inj hy hq]; exact hx⟩, st', fun b hb => (hf b hb).1⟩⟩
  done := by
    intro X hP hw hK hc i pins s σ H E I hf st hg
    subst hP hw hK
    obtain ⟨xs, hq, hx⟩ := hg
    obtain ⟨its, rv, p, hz⟩ := I.tuple hq
    obtain ⟨f0, f1, f2, f3, f4, f5⟩ := hf it (by simp)
    have hl := rv.length
    exact wpAny_pyNext_tuple_end (I.ok.hd hc) st (show s.heap.IsTuple a its.toArray from p) (by simp; omega) fun h' eb => ⟨rfl, I.turned (t' := s.toks) (fun b o hb e => eb b o hb e) f0 f1 f3 f4 f5⟩
  self := fun _ _ _ _ _ st h => wpAny_pyIter_tupleiter st h
theorem turn_range {P : Program} {w : World} {K : PySem.W.Frag} {tg : Expr} (it : Addr) (lo : Int) (n : Nat) : Turn P w K tg (Itr lo n) [it] it (fun i h => IsRangeIter h it (lo + (i : Nat) * 1) ((n : Int) - (i : Nat)) 1) where
  mem := by simp
  obj := fun i h st b hb => by
    have e : b = it := by simpa using hb
    subst e
    exact ⟨_, st, fun v z => by
      have z' : Data.fields _ = Data.cell v := z
      cases z'⟩
  keep := fun i h h' st k => k it (by simp) _ st
  item := by
    intro X hP hw hK hc i pins s σ H E I hf st hg
    subst hP hw hK
    obtain ⟨f0, f1, f2, f3, f4, f5⟩ := hf it (by simp)
    have W := Walks.range (prog := X.prog) (w := X.w) (I.ok.hd hc) it lo 1 n
    refine W.item i s _ _ hg st fun v h' tk hv st' kk => ?_
    obtain ⟨t, rfl⟩ := hv
    have I1 : Inv X pins σ H { s with heap := h', toks := tk } := I.turned (fun b o hb e => kk b o (by simpa using hb) e) f0 f1 f3 f4 f5
    refine ⟨_, rfl, go_of (s := { s with heap := h', toks := tk }) (n := "range_iterator") st' rfl rfl (by decide) ⟨.int (lo + i), H, I1, ⟨t, ?_⟩, ⟨rfl, rfl⟩, st', fun b hb => (hf b hb).1⟩⟩
    rw [Int.mul_one]
  done := by
    intro X hP hw hK hc i pins s σ H E I hf st hg
    subst hP hw hK
    obtain ⟨f0, f1, f2, f3, f4, f5⟩ := hf it (by simp)
    exact wpAny_pyNext_range_end (I.ok.hd hc) st (by have : n ≤ i := hg; omega) fun h' eb => ⟨rfl, I.turned (t' := s.toks) (fun b o hb e => eb b o hb e) f0 f1 f3 f4 f5⟩
  self := fun _ _ _ _ _ st h => wpAny_pyIter_rangeiter st h
end L2
namespace L2
open PySem PySem.Spec PyProof.Rows
section
variable {X : Cx} {tg : Expr}
def iList (K : PySem.W.Frag) (tl : TE) : TI := fun σ H R => tl σ H fun x H1 => ∃ a, x = .ref a ∧ (∃ xs, SqL K H1 a xs) ∧ R (Itl K a) H1
def iTup (K : PySem.W.Frag) (tl : TE) : TI := fun σ H R => tl σ H fun x H1 => ∃ a, x = .ref a ∧ (∃ xs, SqT K H1 a xs) ∧ R (Itt K a) H1
theorem pi_list {l : Expr} {tl : TE} (hl : PE X l tl) : PI X tg l (iList X.K tl) := by
  intro pins s σ H R I h
  refine thn (hl pins s σ H _ I h) fun v s1 ⟨x, H1, I1, r1, q1⟩ => ?_
  obtain ⟨a, e, ⟨xs, hq⟩, q⟩ := q1
  subst e
  cases r1
  obtain ⟨its, rv, p, hz⟩ := I1.list hq
  refine wpAny_pyIter_list p.isList ?_
  refine ⟨s1.heap.objs.size, [s1.heap.objs.size], _, _, H1, rfl, I1.kept (t' := s1.toks) fun b o e => Heap.get?_push_of_some _ e, turn_list a _, ⟨_, Heap.get?_push_size _ rfl, rfl, rfl⟩, fun b hb => ?_, q⟩
  have e : b = s1.heap.objs.size := by simpa using hb
  subst e
  exact I1.fpOk (Nat.le_refl _) (I1.hok.fresh (Nat.le_refl _))
theorem pi_tup {l : Expr} {tl : TE} (hl : PE X l tl) : PI X tg l (iTup X.K tl) := by
  intro pins s σ H R I h
  refine thn (hl pins s σ H _ I h) fun v s1 ⟨x, H1, I1, r1, q1⟩ => ?_
  obtain ⟨a, e, ⟨xs, hq⟩, q⟩ := q1
  subst e
  cases r1
  obtain ⟨its, rv, p, hz⟩ := I1.tuple hq
  refine wpAny_pyIter_tuple (show s1.heap.IsTuple a its.toArray from p) ?_
  refine ⟨s1.heap.objs.size, [s1.heap.objs.size], _, _, H1, rfl, I1.kept (t' := s1.toks) fun b o e => Heap.get?_push_of_some _ e, turn_tuple a _, ⟨_, Heap.get?_push_size _ rfl, rfl, rfl⟩, fun b hb => ?_, q⟩
  have e : b = s1.heap.objs.size := by simpa using hb
  subst e
  exact I1.fpOk (Nat.le_refl _) (I1.hok.fresh (Nat.le_refl _))
theorem range_it {pins : List (Addr × Obj)} {σ : St} {H : Hp} {s : Shared} {R : It → Hp → Prop} {E : Value → Shared → Prop} {lo hi : Int} {t u v : Tok} {tk : Nat} (I : Inv X pins σ H s) (h1 : -(2 ^ 62) ≤ lo) (h2 : lo < 2 ^ 62) (h3 : -(2 ^ 62) ≤ hi) (h4 : hi < 2 ^ 62)
    (q : R (Itr lo (hi - lo).toNat) H) : wpAny (model X.prog X.w) X.A (pyIter (.ref s.heap.objs.size)) (PIE X pins σ tg R) E { s with heap := s.heap.push { cls := .type "range", data := .fields #[.int lo t, .int hi u, .int 1 v] }, toks := tk } := by
  refine wpAny_pyIter_range (IsRange.new ..) (small_one h1 h2 h3 h4) ?_
  have I1 : Inv X pins σ H { s with heap := s.heap.push { cls := .type "range", data := .fields #[.int lo t, .int hi u, .int 1 v] }, toks := tk } := I.kept fun b o e => Heap.get?_push_of_some _ e
  refine ⟨(s.heap.push { cls := .type "range", data := .fields #[.int lo t, .int hi u, .int 1 v] }).objs.size, [(s.heap.push { cls := .type "range", data := .fields #[.int lo t, .int hi u, .int 1 v] }).objs.size], _, _, H, rfl,
    I1.kept (t' := tk) fun b o e => Heap.get?_push_of_some _ e, turn_range _ lo (hi - lo).toNat, ?_, fun b hb => ?_, q⟩
  · have e1 : lo + ((0 : Nat) : Int) * 1 = lo := by simp
    have e2 : (((hi - lo).toNat : Nat) : Int) - ((0 : Nat) : Int) = Builtin.Range.rangeSize lo hi 1 := by rw [rangeSize_one]; split <;> omega
    show IsRangeIter _ _ (lo + ((0 : Nat) : Int) * 1) ((((hi - lo).toNat : Nat) : Int) - ((0 : Nat) : Int)) 1
    rw [e1, e2]
    exact Heap.get?_push_size _ rfl
  · have e : b = (s.heap.push { cls := .type "range", data := .fields #[.int lo t, .int hi u, .int 1 v] }).objs.size := by simpa using hb
    subst e
    exact I1.fpOk (Nat.le_refl _) (I1.hok.fresh (Nat.le_refl _))
def iRng1 (ta : TA) : TI := fun σ H R => ta σ H fun vs H1 => ∃ j : Int, vs = [.int j] ∧ -(2 ^ 62) ≤ j ∧ j < 2 ^ 62 ∧ R (Itr 0 j.toNat) H1
def iRng2 (ta : TA) : TI := fun σ H R => ta σ H fun vs H1 => ∃ i j : Int, vs = [.int i, .int j] ∧ (-(2 ^ 62) ≤ i ∧ i < 2 ^ 62 ∧ -(2 ^ 62) ≤ j ∧ j < 2 ^ 62) ∧ R (Itr i (j - i).toNat) H1
theorem pi_range1 {a : Expr} {ta : TA} {p pos : Pos} (hg : Gl X "range") (hm : X.mg "range" = none) (ha : PA X [a] ta) (hs : starEach [a] X.env = [(false, eval a X.env)] := by rfl) : PI X tg (.Call (.Name "range" p) [a] [] pos) (iRng1 ta) := by
  intro pins s σ H R I h
  refine Call_ (ld_blt I hg hm boot_range (PyProof.Rows.callWith_type1 (thn (ha pos pins s σ H _ I h) fun us s1 ⟨vs, H1, I1, r1, q1⟩ => ?_) hs rfl))
  obtain ⟨j, e, q1, q2, q⟩ := q1
  subst e
  cases r1 with
  | cons r rr =>
    cases rr
    obtain ⟨t, rfl⟩ := r
    exact call_range_1 (range_it I1 (by omega) (by omega) q1 q2 (by simpa using q))
theorem pi_range2 {a b : Expr} {ta : TA} {p pos : Pos} (hg : Gl X "range") (hm : X.mg "range" = none) (ha : PA X [a, b] ta) (hs : starEach [a, b] X.env = [(false, eval a X.env), (false, eval b X.env)] := by rfl) (hs2 : starEach [b] X.env = [(false, eval b X.env)] := by rfl) :
    PI X tg (.Call (.Name "range" p) [a, b] [] pos) (iRng2 ta) := by
  intro pins s σ H R I h
  refine Call_ (ld_blt I hg hm boot_range (PyProof.Rows.callWith_type1 (thn (ha pos pins s σ H _ I h) fun us s1 ⟨vs, H1, I1, r1, q1⟩ => ?_) (by rw [hs, hs2]) (by rw [hs2]; rfl)))
  obtain ⟨i, j, e, ⟨q1, q2, q3, q4⟩, q⟩ := q1
  subst e
  cases r1 with
  | cons r rr =>
    cases rr with
    | cons r' rr =>
      cases rr
      obtain ⟨t, rfl⟩ := r
      obtain ⟨t', rfl⟩ := r'
      exact call_range_2 (range_it I1 q1 q2 q3 q4 q)
def tFor (wi : TI) (g : TG) (tb : TS) : TS := fun D σ H => wi σ H fun J H1 => ∃ W : Nat → Nat → St → Hp → Prop, (∃ m, W 0 m σ H1) ∧ ∀ i m σ H, W i m σ H →
  (J.stop i H ∧ D.nx σ H) ∨ (J.go i H ∧ ∃ N : St → Hp → Prop, (∀ σ' H', N σ' H' → ∃ m', m' < m ∧ W (i + 1) m' σ' H') ∧ ∀ x H', J.yld i H x H' → g x σ H' fun σ2 H2 => tb { D with nx := N, ct := N, bk := D.nx } σ2 H2)
def pinsAt (fp : List Addr) (h : Heap) : List (Addr × Obj) := fp.filterMap fun b => (h.get? b).map fun o => (b, o)
theorem mem_pinsAt {fp : List Addr} {h : Heap} {b : Addr} {o : Obj} (hb : b ∈ fp) (e : h.get? b = some o) : (b, o) ∈ pinsAt fp h := List.mem_filterMap.mpr ⟨b, hb, by rw [e]; rfl⟩
theorem of_pinsAt {fp : List Addr} {h : Heap} {p : Addr × Obj} (hp : p ∈ pinsAt fp h) : p.1 ∈ fp ∧ h.get? p.1 = some p.2 := by
  obtain ⟨b, hb, e⟩ := List.mem_filterMap.mp hp
  cases q : h.get? b with
  | none => rw [q] at e; cases e
  | some o =>
    rw [q] at e
    have e' : (b, o) = p := Option.some.inj e
    subst e'
    exact ⟨hb, q⟩
theorem Inv.pinned {pins : List (Addr × Obj)} {σ : St} {H : Hp} {s : Shared} {fp : List Addr} (I : Inv X pins σ H s) (hf : ∀ b ∈ fp, FpOk X pins H b) (ho : ∀ b ∈ fp, ∃ o, s.heap.get? b = some o ∧ ∀ v, o.data ≠ .cell v) : Inv X (pins ++ pinsAt fp s.heap) σ H s :=
  I.pins_of fun p hp => (List.mem_append.mp hp).elim (fun z => I.pin p (List.mem_append_right _ z)) fun z => by
    obtain ⟨hb, e⟩ := of_pinsAt z
    obtain ⟨f0, f1, f2, _⟩ := hf p.1 hb
    obtain ⟨o, e', d⟩ := ho p.1 hb
    rw [e] at e'; cases e'
    exact ⟨e, f0, f1, f2, d⟩
theorem Inv.unpinned {pins pl : List (Addr × Obj)} {σ : St} {H : Hp} {s : Shared} (I : Inv X (pins ++ pl) σ H s) : Inv X pins σ H s := I.pins_of fun p hp => I.pin p (List.mem_append_right _ (List.mem_append_left _ hp))
theorem ps_for {iter : Expr} {body : List Stmt} {wi : TI} {g : TG} {tb : TS} {pos : Pos} (hp : PassesOwn (model X.prog X.w) X.A X.env X.xe) (hc : X.calm = true) (hi : PI X tg iter wi) (hg : PG X tg g) (hb : PSs X body tb)
    (hs : ∀ x, foldedSetIterable iter X.env x = pure x := by intro _; rfl) : PS X (.For tg iter body [] pos) (tFor wi g tb) := by
  intro pins s σ H D I h
  refine wpAny_For (thn (hi pins s σ H _ I h) fun v s1 h1 => thn h1 fun itv s2 h2 => ?_) hs
  obtain ⟨it, fp, tn, J, H2, e, I2, T, st2, f2, W, ⟨m0, w0⟩, turn⟩ := h2
  subst e
  have stat : ∀ {H' : Hp}, (∀ b ∈ fp, H' b = none) → ∀ b ∈ fp, FpOk X pins H' b := fun hn b hb => ⟨hn b hb, (f2 b hb).2⟩
  refine codeAny_forLoop_any (fun n s' => ∃ i σ' H', Inv X pins σ' H' s' ∧ tn i s'.heap ∧ (∀ b ∈ fp, H' b = none) ∧ W i n σ' H') ?_ m0 ⟨0, σ, H2, I2, st2, fun b hb => (f2 b hb).1, w0⟩
  rintro n s3 ⟨i, σ3, H3, I3, st3, fr3, w3⟩
  rcases turn i n σ3 H3 w3 with ⟨stop, qn⟩ | ⟨go, N, hN, step⟩
  · refine wpAny_passesOwn hp (thn (T.done X rfl rfl rfl hc i pins s3 σ3 H3 X.xe I3 (stat fr3) st3 stop) fun r s4 ⟨hr, I4⟩ => ?_)
    subst hr
    exact wpAny_execs_nil ⟨σ3, H3, I4, qn⟩
  · refine wpAny_passesOwn hp (thn (T.item X rfl rfl rfl hc i pins s3 σ3 H3 X.xe I3 (stat fr3) st3 go) fun r s4 ⟨u, hr, h4⟩ => ?_)
    subst hr
    refine wpAny_passesOwn hp (thn h4 fun _ s5 ⟨x, H5, I5, r5, y5, st5, fr5⟩ => ?_)
    have I5' := I5.pinned (stat fr5) (T.obj _ _ st5)
    refine wpAny_passesOwn hp (thn (hg _ s5 σ3 H5 x u _ I5' r5 (step x H5 y5)) fun _ s6 ⟨σ6, H6, I6, q6⟩ => ?_)
    refine wpAny_passesOwn hp (thn (hb _ s6 σ6 H6 _ I6 q6) fun f s7 q7 => ?_)
    have again : ∀ {σ7 : St} {H7 : Hp}, Inv X (pins ++ pinsAt fp s5.heap) σ7 H7 s7 → N σ7 H7 → ∃ m, m < n ∧ ∃ i σ' H', Inv X pins σ' H' s7 ∧ tn i s7.heap ∧ (∀ b ∈ fp, H' b = none) ∧ W i m σ' H' := fun {σ7 H7} I7 n7 => by
      obtain ⟨m', hm, w7⟩ := hN σ7 H7 n7
      refine ⟨m', hm, i + 1, σ7, H7, I7.unpinned, T.keep _ _ _ st5 fun b hb o e => (I7.pin (b, o) (List.mem_append_right _ (List.mem_append_right _ (mem_pinsAt hb e)))).1, fun b hb => ?_, w7⟩
      obtain ⟨o, e, d⟩ := T.obj _ _ st5 b hb
      exact (I7.pin (b, o) (List.mem_append_right _ (List.mem_append_right _ (mem_pinsAt hb e)))).2.1
    cases f with
    | next => obtain ⟨σ7, H7, I7, n7⟩ := q7; exact again I7 n7
    | cont => obtain ⟨σ7, H7, I7, n7⟩ := q7; exact again I7 n7
    | brk => obtain ⟨σ7, H7, I7, q7⟩ := q7; exact ⟨σ7, H7, I7.unpinned, q7⟩
    | ret v => obtain ⟨x7, σ7, H7, I7, r7, q7⟩ := q7; exact ⟨x7, σ7, H7, I7.unpinned, r7, q7⟩
end
theorem for_list {K : PySem.W.Frag} {a : Addr} {xs : List V} {g : TG} {tb : TS} {D : Ends} {σ : St} {H : Hp} (Pv : Nat → St → Hp → Prop) (h0 : Pv 0 σ H) (hl : ∀ i σ H, i ≤ xs.length → Pv i σ H → SqL K H a xs)
    (hs : ∀ i x σ H, xs[i]? = some x → Pv i σ H → g x σ H fun σ2 H2 => tb { D with nx := Pv (i + 1), ct := Pv (i + 1), bk := D.nx } σ2 H2) (hd : ∀ σ H, Pv xs.length σ H → D.nx σ H) :
    ∃ W : Nat → Nat → St → Hp → Prop, (∃ m, W 0 m σ H) ∧ ∀ i m σ H, W i m σ H →
      ((Itl K a).stop i H ∧ D.nx σ H) ∨ ((Itl K a).go i H ∧ ∃ N : St → Hp → Prop, (∀ σ' H', N σ' H' → ∃ m', m' < m ∧ W (i + 1) m' σ' H') ∧ ∀ x H', (Itl K a).yld i H x H' → g x σ H' fun σ2 H2 => tb { D with nx := N, ct := N, bk := D.nx } σ2 H2) := by
  refine ⟨fun i m σ H => m = xs.length - i ∧ i ≤ xs.length ∧ Pv i σ H, ⟨xs.length, by simp, Nat.zero_le _, h0⟩, ?_⟩
  rintro i m σ H ⟨rfl, hi, p⟩
  have q := hl i σ H hi p
  by_cases hlt : i < xs.length
  · refine .inr ⟨⟨xs, xs[i], q, by simp [hlt]⟩, Pv (i + 1), fun σ' H' p' => ⟨xs.length - (i + 1), by omega, rfl, hlt, p'⟩, fun x H' y => ?_⟩
    obtain ⟨e, y⟩ := y
    subst e
    exact hs i x σ _ (y xs q) p
  · have e : i = xs.length := by omega
    subst e
    exact .inl ⟨⟨xs, q, Nat.le_refl _⟩, hd σ H p⟩
theorem for_tup {K : PySem.W.Frag} {a : Addr} {xs : List V} {g : TG} {tb : TS} {D : Ends} {σ : St} {H : Hp} (Pv : Nat → St → Hp → Prop) (h0 : Pv 0 σ H) (hl : ∀ i σ H, i ≤ xs.length → Pv i σ H → SqT K H a xs)
    (hs : ∀ i x σ H, xs[i]? = some x → Pv i σ H → g x σ H fun σ2 H2 => tb { D with nx := Pv (i + 1), ct := Pv (i + 1), bk := D.nx } σ2 H2) (hd : ∀ σ H, Pv xs.length σ H → D.nx σ H) :
    ∃ W : Nat → Nat → St → Hp → Prop, (∃ m, W 0 m σ H) ∧ ∀ i m σ H, W i m σ H →
      ((Itt K a).stop i H ∧ D.nx σ H) ∨ ((Itt K a).go i H ∧ ∃ N : St → Hp → Prop, (∀ σ' H', N σ' H' → ∃ m', m' < m ∧ W (i + 1) m' σ' H') ∧ ∀ x H', (Itt K a).yld i H x H' → g x σ H' fun σ2 H2 => tb { D with nx := N, ct := N, bk := D.nx } σ2 H2) := by
  refine ⟨fun i m σ H => m = xs.length - i ∧ i ≤ xs.length ∧ Pv i σ H, ⟨xs.length, by simp, Nat.zero_le _, h0⟩, ?_⟩
  rintro i m σ H ⟨rfl, hi, p⟩
  have q := hl i σ H hi p
  by_cases hlt : i < xs.length
  · refine .inr ⟨⟨xs, xs[i], q, by simp [hlt]⟩, Pv (i + 1), fun σ' H' p' => ⟨xs.length - (i + 1), by omega, rfl, hlt, p'⟩, fun x H' y => ?_⟩
    obtain ⟨e, y⟩ := y
    subst e
    exact hs i x σ _ (y xs q) p
  · have e : i = xs.length := by omega
    subst e
    exact .inl ⟨⟨xs, q, Nat.le_refl _⟩, hd σ H p⟩
theorem for_range {lo : Int} {n : Nat} {g : TG} {tb : TS} {D : Ends} {σ : St} {H : Hp} (Pv : Nat → St → Hp → Prop) (h0 : Pv 0 σ H)
    (hs : ∀ i σ H, i < n → Pv i σ H → g (.int (lo + i)) σ H fun σ2 H2 => tb { D with nx := Pv (i + 1), ct := Pv (i + 1), bk := D.nx } σ2 H2) (hd : ∀ σ H, Pv n σ H → D.nx σ H) :
    ∃ W : Nat → Nat → St → Hp → Prop, (∃ m, W 0 m σ H) ∧ ∀ i m σ H, W i m σ H →
      ((Itr lo n).stop i H ∧ D.nx σ H) ∨ ((Itr lo n).go i H ∧ ∃ N : St → Hp → Prop, (∀ σ' H', N σ' H' → ∃ m', m' < m ∧ W (i + 1) m' σ' H') ∧ ∀ x H', (Itr lo n).yld i H x H' → g x σ H' fun σ2 H2 => tb { D with nx := N, ct := N, bk := D.nx } σ2 H2) := by
  refine ⟨fun i m σ H => m = n - i ∧ i ≤ n ∧ Pv i σ H, ⟨n, by simp, Nat.zero_le _, h0⟩, ?_⟩
  rintro i m σ H ⟨rfl, hi, p⟩
  by_cases hlt : i < n
  · refine .inr ⟨hlt, Pv (i + 1), fun σ' H' p' => ⟨n - (i + 1), by omega, rfl, hlt, p'⟩, fun x H' y => ?_⟩
    obtain ⟨e, y⟩ := y
    subst e y
    exact hs i σ _ hlt p
  · have e : i = n := by omega
    subst e
    exact .inl ⟨Nat.le_refl _, hd σ H p⟩
theorem while_by {c : TT} {tb : TS} {D : Ends} {σ : St} {H : Hp} (Pv : St → Hp → Prop) (μ : St → Hp → Nat) (h0 : Pv σ H)
    (hs : ∀ σ H, Pv σ H → c σ H fun b H1 => if b = true then tb { D with nx := fun σ' H' => Pv σ' H' ∧ μ σ' H' < μ σ H, ct := fun σ' H' => Pv σ' H' ∧ μ σ' H' < μ σ H, bk := D.nx } σ H1 else D.nx σ H1)
    (mono : ∀ σ H Q Q', (∀ b H1, Q b H1 → Q' b H1) → c σ H Q → c σ H Q') : tWhile c tb D σ H := by
  refine ⟨fun m σ H => m = μ σ H ∧ Pv σ H, ⟨_, rfl, h0⟩, ?_⟩
  rintro m σ H ⟨rfl, p⟩
  refine mono σ H _ _ (fun b H1 q => ?_) (hs σ H p)
  cases b with
  | true => exact ⟨_, fun σ' H' ⟨p', l⟩ => ⟨_, l, rfl, p'⟩, q⟩
  | false => exact q
end L2
namespace L2
open PySem PySem.Spec PyProof.Rows
abbrev R2 := V → V → Hp → VK → Prop
def OpR (X : Cx) (f : Value → Value → Sem Value) (r : R2) : Prop :=
  ∀ (pins : List (Addr × Obj)) (s : Shared) (σ : St) (H : Hp) (x y : V) (v u : Value) (Q : VK), Inv X pins σ H s → RelV x v → RelV y u → r x y H Q →
    wpAny (model X.prog X.w) X.A (f v u) (EP X pins σ Q) X.xe s
def UnR (X : Cx) (f : Value → Sem Value) (r : V → Hp → VK → Prop) : Prop :=
  ∀ (pins : List (Addr × Obj)) (s : Shared) (σ : St) (H : Hp) (x : V) (v : Value) (Q : VK), Inv X pins σ H s → RelV x v → r x H Q →
    wpAny (model X.prog X.w) X.A (f v) (EP X pins σ Q) X.xe s
def CallR (X : Cx) (f : Value) (r : List V → Hp → VK → Prop) : Prop :=
  ∀ (pins : List (Addr × Obj)) (s : Shared) (σ : St) (H : Hp) (xs : List V) (us : List Value) (Q : VK), Inv X pins σ H s → Vals xs us → r xs H Q →
    wpAny (model X.prog X.w) X.A (call f us) (EP X pins σ Q) X.xe s
def TruR (X : Cx) (r : V → Hp → (Bool → Hp → Prop) → Prop) : Prop :=
  ∀ (pins : List (Addr × Obj)) (s : Shared) (σ : St) (H : Hp) (x : V) (v : Value) (Q : Bool → Hp → Prop), Inv X pins σ H s → RelV x v → r x H Q →
    wpAny (model X.prog X.w) X.A (truthy v) (TP X pins σ Q) X.xe s
def tOp (r : R2) (ta tb : TE) : TE := fun σ H Q => ta σ H fun x H1 => tb σ H1 fun y H2 => r x y H2 Q
def tUn (r : V → Hp → VK → Prop) (ta : TE) : TE := fun σ H Q => ta σ H fun x H1 => r x H1 Q
def rI (C : Int → Int → Prop) (g : Int → Int → V) : R2 := fun x y H Q => ∃ i j, x = .int i ∧ y = .int j ∧ C i j ∧ Q (g i j) H
def rI0 (g : Int → Int → V) : R2 := fun x y H Q => ∃ i j, x = .int i ∧ y = .int j ∧ Q (g i j) H
def rU (g : Int → V) : V → Hp → VK → Prop := fun x H Q => ∃ i, x = .int i ∧ Q (g i) H
section
variable {X : Cx} {a b c : Expr} {ta tb tc : TE} {pos : Pos}
theorem binT (ha : PE X a ta) (hb : PE X b tb) {pins : List (Addr × Obj)} {s : Shared} {σ : St} {H : Hp} {R : V → V → Hp → Prop} (I : Inv X pins σ H s)
    (h : ta σ H fun x H1 => tb σ H1 fun y H2 => R x y H2) {Q : Value → Shared → Prop} {f : Value → Value → Sem Value}
    (hf : ∀ v u s2 x y H2, Inv X pins σ H2 s2 → RelV x v → RelV y u → R x y H2 → wpAny (model X.prog X.w) X.A (f v u) Q X.xe s2) :
    wpAny (model X.prog X.w) X.A (eval a X.env) (fun v s₁ => wpAny (model X.prog X.w) X.A (eval b X.env) (fun u s₂ => wpAny (model X.prog X.w) X.A (f v u) Q X.xe s₂) X.xe s₁) X.xe s := by
  refine thn (ha pins s σ H _ I h) fun v s1 ⟨x, H1, I1, r1, q1⟩ => ?_
  refine thn (hb pins s1 σ H1 _ I1 q1) fun u s2 ⟨y, H2, I2, r2, q2⟩ => ?_
  exact hf v u s2 x y H2 I2 r1 r2 q2
theorem pe_op {op : Operator} {r : R2} (ho : OpR X (binaryOp op) r) (ha : PE X a ta) (hb : PE X b tb) : PE X (.BinOp a op b pos) (tOp r ta tb) := by
  intro pins s σ H Q I h
  exact wpAny_BinOp (binT ha hb I h fun v u s2 x y H2 I2 rx ry q => ho pins s2 σ H2 x y v u Q I2 rx ry q)
theorem pe_un {op : UnaryOp} {r : V → Hp → VK → Prop} (ho : UnR X (unaryOp op) r) (ha : PE X a ta) : PE X (.UnaryOp op a pos) (tUn r ta) := by
  intro pins s σ H Q I h
  exact UnaryOp_ (thn (ha pins s σ H _ I h) fun v s1 ⟨x, H1, I1, r1, q1⟩ => ho pins s1 σ H1 x v Q I1 r1 q1)
theorem augR {op : Operator} {r : R2} (ho : OpR X (inplaceOp op) r) {pins : List (Addr × Obj)} {s : Shared} {σ : St} {H : Hp} {x y : V} {v u : Value} {Q : VK} (I : Inv X pins σ H s)
    (rx : RelV x v) (ry : RelV y u) (q : r x y H Q) : wpAny (model X.prog X.w) X.A (inplaceOp op v u) (EP X pins σ Q) X.xe s := ho pins s σ H x y v u Q I rx ry q
theorem opI {f : Value → Value → Sem Value} {C : Int → Int → Prop} {g : Int → Int → Int}
    (rule : ∀ (i j : Int) (t u : Tok) (s : Shared) (Q : Value → Shared → Prop) (E : Value → Shared → Prop), C i j → Q (.int (g i j) s.toks) { s with toks := s.toks + 1 } → wpAny (model X.prog X.w) X.A (f (.int i t) (.int j u)) Q E s) :
    OpR X f (rI C fun i j => .int (g i j)) := by
  intro pins s σ H x y v u Q I rx ry h
  obtain ⟨i, j, rfl, rfl, hc, q⟩ := h
  obtain ⟨t, rfl⟩ := rx
  obtain ⟨t', rfl⟩ := ry
  exact rule i j t t' s _ _ hc ⟨.int (g i j), H, I.tok _, ⟨_, rfl⟩, q⟩
theorem opI0 {f : Value → Value → Sem Value} {g : Int → Int → Int}
    (rule : ∀ (i j : Int) (t u : Tok) (s : Shared) (Q : Value → Shared → Prop) (E : Value → Shared → Prop), Q (.int (g i j) s.toks) { s with toks := s.toks + 1 } → wpAny (model X.prog X.w) X.A (f (.int i t) (.int j u)) Q E s) :
    OpR X f (rI0 fun i j => .int (g i j)) := by
  intro pins s σ H x y v u Q I rx ry h
  obtain ⟨i, j, rfl, rfl, q⟩ := h
  obtain ⟨t, rfl⟩ := rx
  obtain ⟨t', rfl⟩ := ry
  exact rule i j t t' s _ _ ⟨.int (g i j), H, I.tok _, ⟨_, rfl⟩, q⟩
theorem opB0 {f : Value → Value → Sem Value} {g : Int → Int → Bool}
    (rule : ∀ (i j : Int) (t u : Tok) (s : Shared) (Q : Value → Shared → Prop) (E : Value → Shared → Prop), Q (.bool (g i j)) s → wpAny (model X.prog X.w) X.A (f (.int i t) (.int j u)) Q E s) :
    OpR X f (rI0 fun i j => .bl (g i j)) := by
  intro pins s σ H x y v u Q I rx ry h
  obtain ⟨i, j, rfl, rfl, q⟩ := h
  obtain ⟨t, rfl⟩ := rx
  obtain ⟨t', rfl⟩ := ry
  exact rule i j t t' s _ _ ⟨.bl (g i j), H, I, rfl, q⟩
def CDiv (i j : Int) : Prop := 0 < j ∧ j < 1073741824
def CDivN (i j : Int) : Prop := j ≠ 0 ∧ j.natAbs < 1073741824
def CPow (i j : Int) : Prop := 0 ≤ j ∧ j ≤ 1000000 ∧ i.natAbs < 2 ^ 64
def CMul (i j : Int) : Prop := (-(2 ^ 64) < i ∧ i < 2 ^ 64) ∨ (-(2 ^ 64) < j ∧ j < 2 ^ 64)
theorem CMul.ok {i j : Int} (h : CMul i j) : IntMulOk i j := by
  rcases h with ⟨h1, h2⟩ | ⟨h1, h2⟩
  · exact .of_left (intBits_le_64 h1 h2)
  · exact .of_right (intBits_le_64 h1 h2)
theorem two_pow_nn (k : Nat) : (0 : Int) ≤ 2 ^ k := by
  rw [two_pow_cast]
  exact Int.natCast_nonneg _
theorem op_add : OpR X (binaryOp .Add) (rI0 fun i j => .int (i + j)) := opI0 fun _ _ _ _ _ _ _ q => add_int q
theorem op_sub : OpR X (binaryOp .Sub) (rI0 fun i j => .int (i - j)) := opI0 fun _ _ _ _ _ _ _ q => sub_int q
theorem op_mul : OpR X (binaryOp .Mult) (rI CMul fun i j => .int (i * j)) := opI fun _ _ _ _ _ _ _ hc q => mul_int q hc.ok
theorem op_fdiv : OpR X (binaryOp .FloorDiv) (rI CDiv fun i j => .int (i / j)) := opI fun i j _ _ _ _ _ hc q => by
  have h1 : (0 : Int) < j := hc.1
  have h2 : j < 1073741824 := hc.2
  exact floordiv_int (by omega) (by rw [Int.fdiv_eq_ediv_of_nonneg i (by omega)]; exact q) (.inl (PyProof.noPylong_small (by omega)))
theorem op_fdivN : OpR X (binaryOp .FloorDiv) (rI CDivN fun i j => .int (i.fdiv j)) := opI fun _ _ _ _ _ _ _ hc q => floordiv_int hc.1 q (.inl (PyProof.noPylong_small hc.2))
theorem op_mod : OpR X (binaryOp .Mod) (rI (fun _ j => 0 < j) fun i j => .int (i % j)) := opI fun i j _ _ _ _ _ hc q => by
  have h1 : (0 : Int) < j := hc
  exact mod_int' (by omega) (by rw [Int.fmod_eq_emod_of_nonneg i (by omega)]; exact q)
theorem op_modN : OpR X (binaryOp .Mod) (rI (fun _ j => j ≠ 0) fun i j => .int (i.fmod j)) := opI fun _ _ _ _ _ _ _ hc q => mod_int' hc q
theorem op_pow : OpR X (binaryOp .Pow) (rI CPow fun i j => .int (i ^ j.toNat)) := opI fun _ _ _ _ _ _ _ hc q => pow_int_small hc.1 hc.2.1 hc.2.2 q
theorem op_shl : OpR X (binaryOp .LShift) (rI CPow fun i j => .int (i * 2 ^ j.toNat)) := opI fun _ _ _ _ _ _ _ hc q => lshift_int_small hc.1 hc.2.1 hc.2.2 q
theorem op_shr : OpR X (binaryOp .RShift) (rI (fun _ j => 0 ≤ j) fun i j => .int (i / 2 ^ j.toNat)) := opI fun i j _ _ _ _ _ hc q =>
  rshift_int hc (by rw [Int.fdiv_eq_ediv_of_nonneg i (two_pow_nn _)]; exact q)
theorem op_and : OpR X (binaryOp .BitAnd) (rI0 fun i j => .int (Builtin.bitAnd i j)) := opI0 fun _ _ _ _ _ _ _ q => and_int q
theorem op_or : OpR X (binaryOp .BitOr) (rI0 fun i j => .int (Builtin.bitOr i j)) := opI0 fun _ _ _ _ _ _ _ q => or_int q
theorem op_xor : OpR X (binaryOp .BitXor) (rI0 fun i j => .int (Builtin.bitXor i j)) := opI0 fun _ _ _ _ _ _ _ q => xor_int q
theorem iop_add : OpR X (inplaceOp .Add) (rI0 fun i j => .int (i + j)) := opI0 fun _ _ _ _ _ _ _ q => iadd_int q
theorem iop_sub : OpR X (inplaceOp .Sub) (rI0 fun i j => .int (i - j)) := opI0 fun _ _ _ _ _ _ _ q => isub_int q
theorem iop_mul : OpR X (inplaceOp .Mult) (rI CMul fun i j => .int (i * j)) := opI fun _ _ _ _ _ _ _ hc q => imul_int q hc.ok
theorem iop_fdiv : OpR X (inplaceOp .FloorDiv) (rI CDiv fun i j => .int (i / j)) := opI fun i j _ _ _ _ _ hc q => by
  have h1 : (0 : Int) < j := hc.1
  have h2 : j < 1073741824 := hc.2
  exact ifloordiv_int (by omega) (by rw [Int.fdiv_eq_ediv_of_nonneg i (by omega)]; exact q) (.inl (PyProof.noPylong_small (by omega)))
theorem iop_mod : OpR X (inplaceOp .Mod) (rI (fun _ j => 0 < j) fun i j => .int (i % j)) := opI fun i j _ _ _ _ _ hc q => by
  have h1 : (0 : Int) < j := hc
  exact imod_int (by omega) (by rw [Int.fmod_eq_emod_of_nonneg i (by omega)]; exact q)
theorem iop_shl : OpR X (inplaceOp .LShift) (rI CPow fun i j => .int (i * 2 ^ j.toNat)) := opI fun _ _ _ _ _ _ _ hc q => ilshift_int_small hc.1 hc.2.1 hc.2.2 q
theorem iop_shr : OpR X (inplaceOp .RShift) (rI (fun _ j => 0 ≤ j) fun i j => .int (i / 2 ^ j.toNat)) := opI fun i j _ _ _ _ _ hc q =>
  irshift_int hc (by rw [Int.fdiv_eq_ediv_of_nonneg i (two_pow_nn _)]; exact q)
theorem iop_and : OpR X (inplaceOp .BitAnd) (rI0 fun i j => .int (Builtin.bitAnd i j)) := opI0 fun _ _ _ _ _ _ _ q => iand_int q
theorem iop_or : OpR X (inplaceOp .BitOr) (rI0 fun i j => .int (Builtin.bitOr i j)) := opI0 fun _ _ _ _ _ _ _ q => ior_int q
theorem iop_xor : OpR X (inplaceOp .BitXor) (rI0 fun i j => .int (Builtin.bitXor i j)) := opI0 fun _ _ _ _ _ _ _ q => ixor_int q
theorem unI {f : Value → Sem Value} {g : Int → Int}
    (rule : ∀ (i : Int) (t : Tok) (s : Shared) (Q : Value → Shared → Prop) (E : Value → Shared → Prop), Q (.int (g i) s.toks) { s with toks := s.toks + 1 } → wpAny (model X.prog X.w) X.A (f (.int i t)) Q E s) :
    UnR X f (rU fun i => .int (g i)) := by
  intro pins s σ H x v Q I rx h
  obtain ⟨i, rfl, q⟩ := h
  obtain ⟨t, rfl⟩ := rx
  exact rule i t s _ _ ⟨.int (g i), H, I.tok _, ⟨_, rfl⟩, q⟩
theorem un_neg : UnR X (unaryOp .USub) (rU fun i => .int (-i)) := unI fun _ _ _ _ _ q => neg_int q
theorem un_inv : UnR X (unaryOp .Invert) (rU fun i => .int (Builtin.bitNot i)) := unI fun _ _ _ _ _ q => invert_int q
theorem op_add_ib : OpR X (binaryOp .Add) (fun x y H Q => ∃ i k, x = .int i ∧ y = .bl k ∧ Q (.int (i + b2i k)) H) := by
  intro pins s σ H x y v u Q I rx ry h
  obtain ⟨i, k, rfl, rfl, q⟩ := h
  obtain ⟨t, rfl⟩ := rx
  cases ry
  exact add_int_bool ⟨.int (i + b2i k), H, I.tok _, ⟨_, rfl⟩, q⟩
end
def scal : V → V → Bool
  | .non, .non => true | .non, .int _ => true | .int _, .non => true | .non, .bl _ => true | .bl _, .non => true | .non, .str _ => true | .str _, .non => true
  | .int _, .int _ => true | .bl _, .bl _ => true | .str _, .str _ => true | .byt _, .byt _ => true
  | .int _, .str _ => true | .str _, .int _ => true | .bl _, .str _ => true | .str _, .bl _ => true
  | _, _ => false
def rEq : R2 := fun x y H Q => scal x y = true ∧ Q (.bl (decide (x = y))) H
def rNe : R2 := fun x y H Q => scal x y = true ∧ Q (.bl (!decide (x = y))) H
theorem dec_int {i j : Int} : decide (V.int i = V.int j) = (i == j) := by
  rw [Bool.eq_iff_iff]
  simp
theorem dec_bl {i j : Bool} : decide (V.bl i = V.bl j) = (i == j) := by
  rw [Bool.eq_iff_iff]
  simp
theorem dec_str {i j : Str} : decide (V.str i = V.str j) = (i == j) := by
  rw [Bool.eq_iff_iff]
  simp
theorem dec_byt {i j : Array UInt8} : decide (V.byt i = V.byt j) = (i.toList == j.toList) := by
  rw [Bool.eq_iff_iff]
  cases i
  cases j
  simp
section
variable {X : Cx} {a b c : Expr} {ta tb tc : TE} {pos : Pos}
theorem fin_bl {pins : List (Addr × Obj)} {σ : St} {H : Hp} {s : Shared} {Q : VK} {k k' : Bool} (I : Inv X pins σ H s) (q : Q (.bl k) H) (e : k = k') : EP X pins σ Q (.bool k') s := by
  subst e
  exact ⟨.bl k, H, I, rfl, q⟩
theorem op_eq : OpR X (compareOp .Eq) rEq := by
  intro pins s σ H x y v u Q I rx ry h
  obtain ⟨hs, q⟩ := h
  cases x with
  | non =>
    cases rx
    cases y with
    | non => cases ry; exact PySem.EqNone.eq_none_none (fin_bl I q (by simp))
    | bl j => cases ry; exact PySem.EqNone.eq_none_bool (fin_bl I q (by simp))
    | int j => obtain ⟨t', rfl⟩ := ry; exact PySem.EqNone.eq_none_int (fin_bl I q (by simp))
    | str j => obtain ⟨t', rfl⟩ := ry; exact PySem.EqNone.eq_none_str (fin_bl I q (by simp))
    | _ => exact absurd (show false = true from hs) Bool.false_ne_true
  | bl i =>
    cases rx
    cases y with
    | non => cases ry; exact PySem.EqNone.eq_bool_none (fin_bl I q (by simp))
    | bl j => cases ry; exact eq_bool (fin_bl I q dec_bl)
    | str j => obtain ⟨t', rfl⟩ := ry; exact PySem.EqMixed.eq_bool_str (fin_bl I q (by simp))
    | _ => exact absurd (show false = true from hs) Bool.false_ne_true
  | int i =>
    obtain ⟨t, rfl⟩ := rx
    cases y with
    | non => cases ry; exact PySem.EqNone.eq_int_none (fin_bl I q (by simp))
    | int j => obtain ⟨t', rfl⟩ := ry; exact eq_int (fin_bl I q dec_int)
    | str j => obtain ⟨t', rfl⟩ := ry; exact PySem.EqMixed.eq_int_str (fin_bl I q (by simp))
    | _ => exact absurd (show false = true from hs) Bool.false_ne_true
  | str i =>
    obtain ⟨t, rfl⟩ := rx
    cases y with
    | non => cases ry; exact PySem.EqNone.eq_str_none (fin_bl I q (by simp))
    | bl j => cases ry; exact PySem.EqMixed.eq_str_bool (fin_bl I q (by simp))
    | int j => obtain ⟨t', rfl⟩ := ry; exact PySem.EqMixed.eq_str_int (fin_bl I q (by simp))
    | str j => obtain ⟨t', rfl⟩ := ry; exact eq_str (fin_bl I q dec_str)
    | _ => exact absurd (show false = true from hs) Bool.false_ne_true
  | byt i =>
    obtain ⟨t, rfl⟩ := rx
    cases y with
    | byt j => obtain ⟨t', rfl⟩ := ry; exact PySem.W.eq_bytes (fin_bl I q dec_byt)
    | _ => exact absurd (show false = true from hs) Bool.false_ne_true
  | _ => cases y <;> exact absurd (show false = true from hs) Bool.false_ne_true
theorem op_ne : OpR X (compareOp .NotEq) rNe := by
  intro pins s σ H x y v u Q I rx ry h
  obtain ⟨hs, q⟩ := h
  cases x with
  | non =>
    cases rx
    cases y with
    | non => cases ry; exact PySem.EqNone.ne_none_none (fin_bl I q (by simp))
    | bl j => cases ry; exact PySem.EqNone.ne_none_bool (fin_bl I q (by simp))
    | int j => obtain ⟨t', rfl⟩ := ry; exact PySem.EqNone.ne_none_int (fin_bl I q (by simp))
    | str j => obtain ⟨t', rfl⟩ := ry; exact PySem.EqNone.ne_none_str (fin_bl I q (by simp))
    | _ => exact absurd (show false = true from hs) Bool.false_ne_true
  | bl i =>
    cases rx
    cases y with
    | non => cases ry; exact PySem.EqNone.ne_bool_none (fin_bl I q (by simp))
    | bl j => cases ry; exact ne_bool (fin_bl I q (congrArg not dec_bl))
    | str j => obtain ⟨t', rfl⟩ := ry; exact PySem.EqMixed.ne_bool_str (fin_bl I q (by simp))
    | _ => exact absurd (show false = true from hs) Bool.false_ne_true
  | int i =>
    obtain ⟨t, rfl⟩ := rx
    cases y with
    | non => cases ry; exact PySem.EqNone.ne_int_none (fin_bl I q (by simp))
    | int j => obtain ⟨t', rfl⟩ := ry; exact ne_int (fin_bl I q (congrArg not dec_int))
    | str j => obtain ⟨t', rfl⟩ := ry; exact PySem.EqMixed.ne_int_str (fin_bl I q (by simp))
    | _ => exact absurd (show false = true from hs) Bool.false_ne_true
  | str i =>
    obtain ⟨t, rfl⟩ := rx
    cases y with
    | non => cases ry; exact PySem.EqNone.ne_str_none (fin_bl I q (by simp))
    | bl j => cases ry; exact PySem.EqMixed.ne_str_bool (fin_bl I q (by simp))
    | int j => obtain ⟨t', rfl⟩ := ry; exact PySem.EqMixed.ne_str_int (fin_bl I q (by simp))
    | str j => obtain ⟨t', rfl⟩ := ry; exact ne_str (fin_bl I q (congrArg not dec_str))
    | _ => exact absurd (show false = true from hs) Bool.false_ne_true
  | byt i =>
    obtain ⟨t, rfl⟩ := rx
    cases y with
    | byt j => obtain ⟨t', rfl⟩ := ry; exact PySem.W.ne_bytes (fin_bl I q (congrArg not dec_byt))
    | _ => exact absurd (show false = true from hs) Bool.false_ne_true
  | _ => cases y <;> exact absurd (show false = true from hs) Bool.false_ne_true
theorem op_lt : OpR X (compareOp .Lt) (rI0 fun i j => .bl (decide (i < j))) := opB0 fun _ _ _ _ _ _ _ q => lt_int q
theorem op_le : OpR X (compareOp .LtE) (rI0 fun i j => .bl (decide (i ≤ j))) := opB0 fun _ _ _ _ _ _ _ q => le_int q
theorem op_gt : OpR X (compareOp .Gt) (rI0 fun i j => .bl (decide (j < i))) := opB0 fun _ _ _ _ _ _ _ q => gt_int q
theorem op_ge : OpR X (compareOp .GtE) (rI0 fun i j => .bl (decide (j ≤ i))) := opB0 fun _ _ _ _ _ _ _ q => ge_int q
theorem op_lt_str : OpR X (compareOp .Lt) (fun x y H Q => ∃ i j, x = .str i ∧ y = .str j ∧ Q (.bl (decide (i.cps.toList < j.cps.toList))) H) := by
  intro pins s σ H x y v u Q I rx ry h
  obtain ⟨i, j, rfl, rfl, q⟩ := h
  obtain ⟨t, rfl⟩ := rx
  obtain ⟨t', rfl⟩ := ry
  exact lt_str (fin_bl I q rfl)
theorem op_in_str : OpR X (compareOp .In) (fun x y H Q => ∃ i j, x = .str i ∧ y = .str j ∧ Q (.bl (!(Builtin.Str.occurrences j i 0 j.length 1).isEmpty)) H) := by
  intro pins s σ H x y v u Q I rx ry h
  obtain ⟨i, j, rfl, rfl, q⟩ := h
  obtain ⟨t, rfl⟩ := rx
  obtain ⟨t', rfl⟩ := ry
  exact in_str (fin_bl I q rfl)
theorem op_isN : OpR X (compareOp .Is) (fun x y H Q => y = .non ∧ Q (.bl (decide (x = .non))) H) := by
  intro pins s σ H x y v u Q I rx ry h
  obtain ⟨rfl, q⟩ := h
  cases ry
  refine is_none_gen (fin_bl I q ?_)
  cases x <;> first
    | (cases rx; rfl)
    | (obtain ⟨t, rfl⟩ := rx; rfl)
theorem op_notN : OpR X (compareOp .IsNot) (fun x y H Q => y = .non ∧ Q (.bl (!decide (x = .non))) H) := by
  intro pins s σ H x y v u Q I rx ry h
  obtain ⟨rfl, q⟩ := h
  cases ry
  refine isnot_none_gen (fin_bl I q ?_)
  cases x <;> first
    | (cases rx; rfl)
    | (obtain ⟨t, rfl⟩ := rx; rfl)
theorem op_notin_str : OpR X (compareOp .NotIn) (fun x y H Q => ∃ i j, x = .str i ∧ y = .str j ∧ Q (.bl (!(!(Builtin.Str.occurrences j i 0 j.length 1).isEmpty))) H) := by
  intro pins s σ H x y v u Q I rx ry h
  obtain ⟨i, j, rfl, rfl, q⟩ := h
  obtain ⟨t, rfl⟩ := rx
  obtain ⟨t', rfl⟩ := ry
  exact notIn_str (fin_bl I q rfl)
def isObj : HO → Bool
  | .lst _ => true
  | .ins _ _ _ => true
  | _ => false
theorem obj_there {pins : List (Addr × Obj)} {s : Shared} {σ : St} {H : Hp} {a : Addr} {o : HO} (I : Inv X pins σ H s) (h : H a = some o) (p : isObj o = true) : ∃ ob, s.heap.get? a = some ob ∧ ob.cls ≠ .type "tuple" := by
  cases o with
  | lst xs =>
    obtain ⟨_, its, n, _, e⟩ : xs.length ≤ sizeLine ∧ ∃ (its : List Value) (n : Nat), Vals xs its ∧ s.heap.get? a = some { cls := .type "list", data := .seq its.toArray n } := I.hok a _ h
    exact ⟨_, e, (by show Value.type "list" ≠ .type "tuple"; decide +kernel)⟩
  | ins C dx fs =>
    have x := I.hok a _ h
    obtain ⟨_, _, _, e, _⟩ := x
    exact ⟨_, e, (by show Value.ref C ≠ .type "tuple"; exact fun z => by cases z)⟩
  | _ => exact absurd (show false = true from p) Bool.false_ne_true
theorem op_is_ref : OpR X (compareOp .Is) (fun x y H Q => ∃ a b oa ob, x = .ref a ∧ y = .ref b ∧ H a = some oa ∧ isObj oa = true ∧ H b = some ob ∧ isObj ob = true ∧ Q (.bl (decide (a = b))) H) := by
  intro pins s σ H x y v u Q I rx ry h
  obtain ⟨a, b, oa, ob, rfl, rfl, ha, pa, hb, pb, q⟩ := h
  cases rx
  cases ry
  obtain ⟨o1, e1, n1⟩ := obj_there I ha pa
  obtain ⟨o2, e2, _⟩ := obj_there I hb pb
  by_cases z : a = b
  · subst z
    exact wpAny_is_ref_self (fin_bl I q (by simp))
  · exact wpAny_is_ref_other z e1 e2 n1 (fin_bl I q (by simp [z]))
theorem op_isnot_ref : OpR X (compareOp .IsNot) (fun x y H Q => ∃ a b oa ob, x = .ref a ∧ y = .ref b ∧ H a = some oa ∧ isObj oa = true ∧ H b = some ob ∧ isObj ob = true ∧ Q (.bl (!decide (a = b))) H) := by
  intro pins s σ H x y v u Q I rx ry h
  obtain ⟨a, b, oa, ob, rfl, rfl, ha, pa, hb, pb, q⟩ := h
  cases rx
  cases ry
  obtain ⟨o1, e1, n1⟩ := obj_there I ha pa
  obtain ⟨o2, e2, _⟩ := obj_there I hb pb
  by_cases z : a = b
  · subst z
    exact wpAny_isNot_ref_self (fin_bl I q (by simp))
  · exact wpAny_isNot_ref_other z e1 e2 n1 (fin_bl I q (by simp [z]))
theorem OpR.or {f : Value → Value → Sem Value} {r r' : R2} (h : OpR X f r) (h' : OpR X f r') : OpR X f (fun x y H Q => r x y H Q ∨ r' x y H Q) := by
  intro pins s σ H x y v u Q I rx ry q
  rcases q with q | q
  · exact h pins s σ H x y v u Q I rx ry q
  · exact h' pins s σ H x y v u Q I rx ry q
theorem nomark (b : Expr) {op : CmpOp} (h : op ≠ .In := by decide) (h2 : op ≠ .NotIn := by decide) : behindInMarks op b = false := by
  have e1 : (op == CmpOp.In) = false := by cases op <;> first | rfl | exact absurd rfl h
  have e2 : (op == CmpOp.NotIn) = false := by cases op <;> first | rfl | exact absurd rfl h2
  cases b <;> simp [behindInMarks, e1, e2]
theorem pe_cmpR {op : CmpOp} {r : R2} (ho : OpR X (compareOp op) r) (ha : PE X a ta) (hb : PE X b tb) (hm : behindInMarks op b = false) : PE X (.Compare a [op] [b] pos) (tOp r ta tb) := by
  intro pins s σ H Q I h
  exact wpAny_Compare1 (binT ha hb I h fun v u s2 x y H2 I2 rx ry q => ho pins s2 σ H2 x y v u Q I2 rx ry q) hm
def tTest (t : TE) : TT := fun σ H Q => t σ H fun x H' => ∃ k, x = .bl k ∧ Q k H'
theorem pt_cmpR {op : CmpOp} {r : R2} (ho : OpR X (compareOp op) r) (ha : PE X a ta) (hb : PE X b tb) (hm : behindInMarks op b = false) : PT X (.Compare a [op] [b] pos) (tTest (tOp r ta tb)) := by
  intro pins s σ H Q I h
  refine wpAny_isTrue_Compare1 (thn (ha pins s σ H _ I h) fun v s1 ⟨x, H1, I1, r1, q1⟩ => thn (hb pins s1 σ H1 _ I1 q1) fun u s2 ⟨y, H2, I2, r2, q2⟩ =>
    thn (ho pins s2 σ H2 x y v u _ I2 r1 r2 q2) fun c s3 ⟨z, H3, I3, r3, k, e, q3⟩ => ?_) hm
  subst e
  cases r3
  exact wpAny_truthy_bool ⟨H3, I3, q3⟩
def tChain (r r' : R2) (ta tb tc : TE) : TE := fun σ H Q => ta σ H fun x H1 => tb σ H1 fun y H2 => r x y H2 fun z H3 => ∃ k, z = .bl k ∧
  (if k = true then tc σ H3 fun w' H4 => r' y w' H4 Q else Q (.bl false) H3)
theorem pe_chain {op op' : CmpOp} {r r' : R2} (ho : OpR X (compareOp op) r) (ho' : OpR X (compareOp op') r') (ha : PE X a ta) (hb : PE X b tb) (hc : PE X c tc)
    (hm : lastMarks [op, op'] [b, c] = false := by with_unfolding_all rfl) : PE X (.Compare a [op, op'] [b, c] pos) (tChain r r' ta tb tc) := by
  intro pins s σ H Q I h
  refine Compare_chain (thn (ha pins s σ H _ I h) fun v s1 ⟨x, H1, I1, r1, q1⟩ => chain_link (thn (hb pins s1 σ H1 _ I1 q1) fun u s2 ⟨y, H2, I2, r2, q2⟩ =>
    thn (ho pins s2 σ H2 x y v u _ I2 r1 r2 q2) fun d s3 ⟨z, H3, I3, r3, k, e, q3⟩ => ?_)) hm
  subst e
  cases r3
  refine wpAny_truthy_bool ?_
  cases k with
  | false => exact ite_ff ⟨.bl false, H3, I3, rfl, q3⟩
  | true => exact ite_tt (chain_last (thn (hc pins s3 σ H3 _ I3 q3) fun w' s4 ⟨z', H4, I4, r4, q4⟩ => ho' pins s4 σ H4 y z' u w' Q I4 r2 r4 q4))
theorem pt_chain {op op' : CmpOp} {r r' : R2} (ho : OpR X (compareOp op) r) (ho' : OpR X (compareOp op') r') (ha : PE X a ta) (hb : PE X b tb) (hc : PE X c tc)
    (hm : lastMarks [op, op'] [b, c] = false := by with_unfolding_all rfl) : PT X (.Compare a [op, op'] [b, c] pos) (tTest (tChain r r' ta tb tc)) := by
  intro pins s σ H Q I h
  refine isTrue_chain (thn (ha pins s σ H _ I h) fun v s1 ⟨x, H1, I1, r1, q1⟩ => test_link (thn (hb pins s1 σ H1 _ I1 q1) fun u s2 ⟨y, H2, I2, r2, q2⟩ =>
    thn (ho pins s2 σ H2 x y v u _ I2 r1 r2 q2) fun d s3 ⟨z, H3, I3, r3, k, e, q3⟩ => ?_)) hm
  subst e
  cases r3
  refine wpAny_truthy_bool ?_
  cases k with
  | false =>
    obtain ⟨k', e', q'⟩ := q3
    cases e'
    exact ite_ff ⟨H3, I3, q'⟩
  | true =>
    refine ite_tt (test_last (thn (hc pins s3 σ H3 _ I3 q3) fun w' s4 ⟨z', H4, I4, r4, q4⟩ => thn (ho' pins s4 σ H4 y z' u w' _ I4 r2 r4 q4) fun d' s5 ⟨z2, H5, I5, r5, k2, e2, q5⟩ => ?_))
    subst e2
    cases r5
    exact wpAny_truthy_bool ⟨H5, I5, q5⟩
def TruV (K : PySem.W.Frag) (x : V) (H : Hp) (k : Bool) : Prop :=
  match x with
  | .non => k = false
  | .bl b => k = b
  | .int i => k = (i != 0)
  | .str y => y.length ≤ sizeLine ∧ k = ((y.length : Int) != 0)
  | .byt y => y.size ≤ sizeLine ∧ k = ((y.size : Int) != 0)
  | .ref p => (∃ xs, SqL K H p xs ∧ k = !xs.isEmpty) ∨ (∃ xs, SqT K H p xs ∧ k = !xs.isEmpty) ∨ ∃ kvs, H p = some (.dK kvs) ∧ k = !kvs.isEmpty
  | _ => False
theorem isEmpty_kv {κ : Type} {kvs : List (κ × V)} {vs : List (κ × Value)} (r : KV kvs vs) : (!vs.isEmpty) = !kvs.isEmpty := by
  cases r <;> rfl
theorem isEmpty_of {xs : List V} {its : List Value} (r : Vals xs its) : (!its.toArray.isEmpty) = !xs.isEmpty := by
  cases r <;> simp
theorem line63 : (sizeLine : Nat) < 2 ^ 63 := by rw [sizeLine_eq]; decide
theorem tru_ok : TruR X (fun x H Q => ∃ k, TruV X.K x H k ∧ Q k H) := by
  intro pins s σ H x v Q I rx h
  obtain ⟨k, e, q⟩ := h
  have hl := line63
  have hs : sizeLine = 16777216 := sizeLine_eq
  cases x with
  | non =>
    cases rx
    have e' : k = false := e
    subst e'
    exact truthy_none ⟨H, I, q⟩
  | bl b =>
    cases rx
    have e' : k = b := e
    subst e'
    exact wpAny_truthy_bool ⟨H, I, q⟩
  | int i =>
    obtain ⟨t, rfl⟩ := rx
    have e' : k = (i != 0) := e
    subst e'
    exact PySem.P.truthy_int ⟨H, I, q⟩
  | str y =>
    obtain ⟨t, rfl⟩ := rx
    obtain ⟨hy, e'⟩ : y.length ≤ sizeLine ∧ k = ((y.length : Int) != 0) := e
    subst e'
    exact PySem.P.truthy_str (by omega) ⟨H, I.tok _, q⟩
  | byt y =>
    obtain ⟨t, rfl⟩ := rx
    obtain ⟨hy, e'⟩ : y.size ≤ sizeLine ∧ k = ((y.size : Int) != 0) := e
    subst e'
    exact PySem.W.truthy_bytes (by omega) ⟨H, I.tok _, q⟩
  | ref p =>
    cases rx
    have e' : (∃ xs, SqL X.K H p xs ∧ k = !xs.isEmpty) ∨ (∃ xs, SqT X.K H p xs ∧ k = !xs.isEmpty) ∨ ∃ kvs, H p = some (.dK kvs) ∧ k = !kvs.isEmpty := e
    rcases e' with ⟨xs, hx, e'⟩ | ⟨xs, hx, e'⟩ | ⟨kvs, hx, e'⟩
    · subst e'
      obtain ⟨its, r, pl, hz⟩ := I.list hx
      have hlen := r.length
      exact wpAny_truthy_list pl.isList (by simp only [List.size_toArray]; omega) ⟨H, I.tok _, by rw [isEmpty_of r]; exact q⟩
    · subst e'
      obtain ⟨its, r, pl, hz⟩ := I.tuple hx
      have hlen := r.length
      exact truthy_tuple pl (by simp only [List.size_toArray]; omega) ⟨H, I.tok _, by rw [isEmpty_of r]; exact q⟩
    · subst e'
      obtain ⟨hz, hS, vs, r, m⟩ : kvs.length ≤ sizeLine ∧ (p == sysModules) = false ∧ ∃ vs, KV kvs vs ∧ s.heap.DictOf (mixKind X.prog X.w) p vs := I.hok p _ hx
      have hlen : kvs.length = vs.length := Paired.length r
      exact wpAny_truthy_dict hS m (by omega) ⟨H, I.tok _, by rw [isEmpty_kv r]; exact q⟩
  | _ => exact (show False from e).elim
theorem pt_truth (ha : PE X a ta) (he : ∀ whole, isTrue a X.env whole = (do let v ← whole; standAt a.pos; holding [v] (truthy v))) :
    PT X a (fun σ H Q => ta σ H fun x H' => ∃ k, TruV X.K x H' k ∧ Q k H') := by
  intro pins s σ H Q I h
  exact isTrue_plain (thn (ha pins s σ H _ I h) fun v s1 ⟨x, H1, I1, r1, q1⟩ => tru_ok pins s1 σ H1 x v Q I1 r1 q1) (he _)
theorem pe_byt {x : List UInt8} {k : Nat} : PE X (.Constant (.bytes x) k pos) (fun _ H Q => Q (.byt x.toArray) H) := fun _ _ _ H _ I h => PySem.W.Constant_bytes ⟨.byt x.toArray, H, I.tok _, ⟨_, rfl⟩, h⟩
theorem op_add_str : OpR X (binaryOp .Add) (fun x y H Q => ∃ i j, x = .str i ∧ y = .str j ∧ i.length + j.length ≤ sizeLine ∧ Q (.str (i ++ j)) H) := by
  intro pins s σ H x y v u Q I rx ry h
  obtain ⟨i, j, rfl, rfl, hz, q⟩ := h
  obtain ⟨t, rfl⟩ := rx
  obtain ⟨t', rfl⟩ := ry
  exact add_str (fun t' tk => ⟨.str (i ++ j), H, I.tok _, ⟨_, rfl⟩, q⟩) hz
theorem iop_add_str : OpR X (inplaceOp .Add) (fun x y H Q => ∃ i j, x = .str i ∧ y = .str j ∧ i.length + j.length ≤ sizeLine ∧ Q (.str (i ++ j)) H) := by
  intro pins s σ H x y v u Q I rx ry h
  obtain ⟨i, j, rfl, rfl, hz, q⟩ := h
  obtain ⟨t, rfl⟩ := rx
  obtain ⟨t', rfl⟩ := ry
  exact iadd_str (fun t' tk => ⟨.str (i ++ j), H, I.tok _, ⟨_, rfl⟩, q⟩) hz
theorem op_add_byt : OpR X (binaryOp .Add) (fun x y H Q => ∃ i j, x = .byt i ∧ y = .byt j ∧ i.size + j.size ≤ 16777216 ∧ Q (.byt (i ++ j)) H) := by
  intro pins s σ H x y v u Q I rx ry h
  obtain ⟨i, j, rfl, rfl, hz, q⟩ := h
  obtain ⟨t, rfl⟩ := rx
  obtain ⟨t', rfl⟩ := ry
  exact PySem.W.KBy.add_bytes hz (fun t' tk => ⟨.byt (i ++ j), H, I.tok _, ⟨_, rfl⟩, q⟩)
def PlainIxT (b : Expr) : Prop := ∀ o i, subscripted b false o i = operate [o, i] (getItem o i)
theorem pe_item_str (ha : PE X a ta) (hb : PE X b tb) (hs : PlainIxT b) :
    PE X (.Subscript a b pos) (tOp (fun x y H Q => ∃ z i c, x = .str z ∧ y = .int i ∧ 0 ≤ i ∧ i < 2 ^ 63 ∧ i < z.length ∧ z.cps[i.toNat]? = some c ∧ Q (.str ⟨#[c]⟩) H) ta tb) := by
  intro pins s σ H Q I h
  refine Subscript_ (binT ha hb I h fun v u s2 x y H2 I2 rx ry q => ?_)
  obtain ⟨z, i, c, rfl, rfl, h0, h63, h1, hc, q⟩ := q
  obtain ⟨t, rfl⟩ := rx
  obtain ⟨t', rfl⟩ := ry
  have e : seqIndex? i z.length = some i.toNat := PySem.StrLaws.seqIndex_nonneg h0 h1
  exact tail_any (typeIs_str s2 z t) slot_str_getitem.lookup (getItem_str (c := c) (by
    have e1 : decide (i < -(2 ^ 63 : Int)) = false := decide_eq_false (by omega)
    have e2 : decide (i ≥ 2 ^ 63) = false := decide_eq_false (by omega)
    rw [e1, e2] <;> rfl) (by rw [e]; exact hc) ⟨.str ⟨#[c]⟩, H2, I2.tok _, ⟨_, rfl⟩, q⟩) (hs _ _)
theorem pe_item_byt (ha : PE X a ta) (hb : PE X b tb) (hs : PlainIxT b) :
    PE X (.Subscript a b pos) (tOp (fun x y H Q => ∃ (z : List UInt8) (i : Int), x = .byt z.toArray ∧ y = .int i ∧ z.length ≤ sizeLine ∧ 0 ≤ i ∧ i < z.length ∧ Q (.int ((z.getD i.toNat 0).toNat : Nat)) H) ta tb) := by
  intro pins s σ H Q I h
  refine Subscript_ (binT ha hb I h fun v u s2 x y H2 I2 rx ry q => ?_)
  obtain ⟨z, i, rfl, rfl, hz, h0, h1, q⟩ := q
  obtain ⟨t, rfl⟩ := rx
  obtain ⟨t', rfl⟩ := ry
  have hl : sizeLine = 16777216 := sizeLine_eq
  exact tail_any (PySem.W.typeIs_bytes s2 z.toArray t) PySem.W.FB.slot_bytes_getitem.lookup (PySem.W.getItem_bytes (by omega) h0 h1 ⟨.int ((z.getD i.toNat 0).toNat : Nat), H2, I2.tok _, ⟨_, rfl⟩, q⟩) (hs _ _)
theorem vals1 {x : V} {us : List Value} (r : Vals [x] us) : ∃ u, us = [u] ∧ RelV x u := by
  cases r with
  | cons r1 r2 => cases r2; exact ⟨_, rfl, r1⟩
theorem vals2 {x y : V} {us : List Value} (r : Vals [x, y] us) : ∃ u w', us = [u, w'] ∧ RelV x u ∧ RelV y w' := by
  cases r with
  | cons r1 r2 =>
    cases r2 with
    | cons r3 r4 => cases r4; exact ⟨_, _, rfl, r1, r3⟩
theorem call_abs : CallR X (.builtin "abs") (fun xs H Q => ∃ i, xs = [.int i] ∧ Q (.int (if i < 0 then -i else i)) H) := by
  intro pins s σ H xs us Q I r h
  obtain ⟨i, rfl, q⟩ := h
  obtain ⟨u, rfl, t, rfl⟩ := vals1 r
  exact call_abs_int fun u tk => ⟨.int (if i < 0 then -i else i), H, I.tok _, ⟨_, rfl⟩, q⟩
theorem call_max2 (hc : X.calm = true) : CallR X (.builtin "max") (fun xs H Q => ∃ i j, xs = [.int i, .int j] ∧ Q (.int (if j > i then j else i)) H) := by
  intro pins s σ H xs us Q I r h
  obtain ⟨i, j, rfl, q⟩ := h
  obtain ⟨u, w', rfl, ⟨t, rfl⟩, ⟨t', rfl⟩⟩ := vals2 r
  refine max_two_ints (I.ok.hd hc) fun h' tk k => ⟨_, H, I.kept k, ?_, q⟩
  by_cases hj : j > i
  · rw [if_pos hj, if_pos hj]; exact ⟨_, rfl⟩
  · rw [if_neg hj, if_neg hj]; exact ⟨_, rfl⟩
theorem call_min2 (hc : X.calm = true) : CallR X (.builtin "min") (fun xs H Q => ∃ i j, xs = [.int i, .int j] ∧ Q (.int (if j < i then j else i)) H) := by
  intro pins s σ H xs us Q I r h
  obtain ⟨i, j, rfl, q⟩ := h
  obtain ⟨u, w', rfl, ⟨t, rfl⟩, ⟨t', rfl⟩⟩ := vals2 r
  refine min_two_ints (I.ok.hd hc) fun h' tk k => ⟨_, H, I.kept k, ?_, q⟩
  by_cases hj : j < i
  · rw [if_pos hj, if_pos hj]; exact ⟨_, rfl⟩
  · rw [if_neg hj, if_neg hj]; exact ⟨_, rfl⟩
theorem call_int1 : CallR X (.type "int") (fun xs H Q => (∃ i, xs = [.int i] ∧ Q (.int i) H) ∨ ∃ k, xs = [.bl k] ∧ Q (.int (if k then 1 else 0)) H) := by
  intro pins s σ H xs us Q I r h
  rcases h with ⟨i, rfl, q⟩ | ⟨k, rfl, q⟩
  · obtain ⟨u, rfl, t, rfl⟩ := vals1 r
    exact call_int_int ⟨.int i, H, I, ⟨_, rfl⟩, q⟩
  · obtain ⟨u, rfl, r1⟩ := vals1 r
    cases r1
    exact call_int_bool ⟨.int (if k then 1 else 0), H, I.tok _, ⟨_, rfl⟩, q⟩
theorem call_bool1 : CallR X (.type "bool") (fun xs H Q => (∃ i, xs = [.int i] ∧ Q (.bl (i != 0)) H) ∨ ∃ k, xs = [.bl k] ∧ Q (.bl k) H) := by
  intro pins s σ H xs us Q I r h
  rcases h with ⟨i, rfl, q⟩ | ⟨k, rfl, q⟩
  · obtain ⟨u, rfl, t, rfl⟩ := vals1 r
    exact call_bool_int ⟨.bl (i != 0), H, I, rfl, q⟩
  · obtain ⟨u, rfl, r1⟩ := vals1 r
    cases r1
    exact call_bool_bool ⟨.bl k, H, I, rfl, q⟩
theorem call_str_int : CallR X (.type "str") (fun xs H Q => ∃ i, xs = [.int i] ∧ i.natAbs.log2 < 1920 ∧ Q (.str (toString i)) H) := by
  intro pins s σ H xs us Q I r h
  obtain ⟨i, rfl, hz, q⟩ := h
  obtain ⟨u, rfl, t, rfl⟩ := vals1 r
  exact PySem.P.str_of_int hz ⟨.str _, H, I.tok _, ⟨_, rfl⟩, q⟩
theorem call_ord : CallR X (.builtin "ord") (fun xs H Q => ∃ x, xs = [.str x] ∧ x.length = 1 ∧ Q (.int (x.cps.getD 0 0 : Nat)) H) := by
  intro pins s σ H xs us Q I r h
  obtain ⟨x, rfl, hz, q⟩ := h
  obtain ⟨u, rfl, t, rfl⟩ := vals1 r
  exact ord_of_one hz ⟨.int _, H, I.tok _, ⟨_, rfl⟩, q⟩
theorem call_chr : CallR X (.builtin "chr") (fun xs H Q => ∃ i, xs = [.int i] ∧ 0 ≤ i ∧ i ≤ 1114111 ∧ Q (.str ⟨#[i.toNat]⟩) H) := by
  intro pins s σ H xs us Q I r h
  obtain ⟨i, rfl, h0, h1, q⟩ := h
  obtain ⟨u, rfl, t, rfl⟩ := vals1 r
  exact chr_of_range h0 h1 ⟨.str _, H, I.tok _, ⟨_, rfl⟩, q⟩
def LenV (K : PySem.W.Frag) (x : V) (H : Hp) (n : Nat) : Prop :=
  match x with
  | .str y => y.length ≤ sizeLine ∧ n = y.length
  | .byt y => y.size ≤ sizeLine ∧ n = y.size
  | .ref p => (∃ xs, SqL K H p xs ∧ n = xs.length) ∨ ∃ xs, SqT K H p xs ∧ n = xs.length
  | _ => False
theorem call_len : CallR X (.builtin "len") (fun xs H Q => ∃ x n, xs = [x] ∧ LenV X.K x H n ∧ Q (.int n) H) := by
  intro pins s σ H xs us Q I r h
  obtain ⟨x, n, rfl, e, q⟩ := h
  obtain ⟨u, rfl, rx⟩ := vals1 r
  have hl := line63
  have hs : sizeLine = 16777216 := sizeLine_eq
  cases x with
  | str y =>
    obtain ⟨t, rfl⟩ := rx
    obtain ⟨hy, e'⟩ : y.length ≤ sizeLine ∧ n = y.length := e
    subst e'
    exact len_str (by omega) ⟨.int _, H, I.tok _, ⟨_, rfl⟩, q⟩
  | byt y =>
    obtain ⟨t, rfl⟩ := rx
    obtain ⟨hy, e'⟩ : y.size ≤ sizeLine ∧ n = y.size := e
    subst e'
    exact PySem.W.len_bytes (by omega) ⟨.int _, H, I.tok _, ⟨_, rfl⟩, q⟩
  | ref p =>
    cases rx
    have e' : (∃ xs, SqL X.K H p xs ∧ n = xs.length) ∨ ∃ xs, SqT X.K H p xs ∧ n = xs.length := e
    rcases e' with ⟨xs, hx, e'⟩ | ⟨xs, hx, e'⟩
    · subst e'
      obtain ⟨its, r', pl, hz⟩ := I.list hx
      have hlen := r'.length
      exact Calls.call_len_list pl.isList (by simp only [List.size_toArray]; omega) ⟨.int xs.length, H, I.tok _, ⟨_, by simp only [List.size_toArray]; rw [hlen]⟩, q⟩
    · subst e'
      obtain ⟨its, r', pl, hz⟩ := I.tuple hx
      have hlen := r'.length
      exact len_tuple pl (by simp only [List.size_toArray]; omega) ⟨.int xs.length, H, I.tok _, ⟨_, by simp only [List.size_toArray]; rw [hlen]⟩, q⟩
  | _ => exact (show False from e).elim
theorem call_divmod : CallR X (.builtin "divmod") (fun xs H Q => ∃ i j, xs = [.int i, .int j] ∧ CDiv i j ∧ ∀ p, H p = none → Q (.ref p) (upd H p (.tup [.int (i / j), .int (i % j)]))) := by
  intro pins s σ H xs us Q I r h
  obtain ⟨i, j, rfl, ⟨h1, h2⟩, q⟩ := h
  obtain ⟨u, w', rfl, ⟨t, rfl⟩, ⟨t', rfl⟩⟩ := vals2 r
  refine divmod_int (by omega) ?_ (.inl (PyProof.noPylong_small (by omega)))
  rw [Int.fdiv_eq_ediv_of_nonneg i (by omega), Int.fmod_eq_emod_of_nonneg i (by omega)]
  have hn : H s.heap.objs.size = none := I.hok.fresh (Nat.le_refl _)
  refine ⟨.ref s.heap.objs.size, _, ?_, rfl, q _ hn⟩
  refine I.laid (fun b o e => Heap.get?_push_of_some _ e) (Nat.le_refl _) ⟨by simp only [List.length_cons, List.length_nil]; rw [sizeLine_eq]; decide, [.int (i / j) s.toks, .int (i % j) (s.toks + 1)], .cons ⟨_, rfl⟩ (.cons ⟨_, rfl⟩ .nil), ?_⟩
  exact ⟨_, Heap.get?_push_size s.heap rfl, rfl, 0, rfl⟩
end
end L2
namespace L2
open PySem PySem.Spec PyProof.Rows
structure ObjM (h : Heap) (x dx C : Addr) (mA : Str → Option Value) : Prop where
  obj : h.get? x = some (PySem.W.instObj C dx)
  ns : h.Ns1 dx mA
  ne : dx ≠ x
theorem lookIn_ns {h : Heap} {dx : Addr} {mA : Str → Option Value} (n : h.Ns1 dx mA) : ∃ od, h.get? dx = some od ∧ ∀ name, PySem.W.lookIn name od = some (mA name) := by
  obtain ⟨o, es, ep, ho, hd, hk, _, hm⟩ := n
  refine ⟨o, ho, fun name => ?_⟩
  have e := hm name
  unfold nsFind findBy at e
  rw [← Array.find?_toList] at e
  unfold PySem.W.lookIn
  rw [hd]
  dsimp only
  split
  · rename_i y q
    rw [q] at e
    exact congrArg some e
  · rename_i q
    rw [q] at e
    have a : es.toList.any (·.refKey) = false := by
      rw [List.any_eq_false]
      intro y hy
      obtain ⟨z, t, hkey⟩ := hk y (Array.mem_toList_iff.mp hy)
      simp [DictEntry.refKey, hkey]
    have a' : ¬ es.toList.any (·.refKey) = true := by rw [a]; exact Bool.false_ne_true
    rw [if_neg a']
    exact congrArg some e
theorem ObjM.look {h : Heap} {x dx C : Addr} {mA : Str → Option Value} (I : ObjM h x dx C mA) : ∃ od, PySem.W.InstAt h x (PySem.W.instObj C dx) C (some od) ∧ ∀ name, PySem.W.lookIn name od = some (mA name) :=
  let ⟨od, ho, hl⟩ := lookIn_ns I.ns
  ⟨od, ⟨I.obj, rfl, rfl, ho⟩, hl⟩
section
variable {prog : Program} {w : World} {A : Around} {E : Value → Shared → Prop} {s : Shared} {K : PySem.W.Frag} {x dx C f : Addr} {mA : Str → Option Value} {name : Str} {v : Value}
theorem get_map {expr : Bool} {Q : Value → Shared → Prop} (X : K.In s.heap) (I : ObjM s.heap x dx C mA) (hg : PySem.W.plainGet K C name = true) (hh : PySem.W.hasDictIn K C = true)
    (ha : PySem.W.findIn K (.ref C) name = some none) (hv : mA name = some v) (hv' : PySem.W.handedIn v = true) (h : Q v { s with toks := s.toks + 1 }) :
    wpAny (model prog w) A (getAttr (.ref x) name expr) Q E s := by
  obtain ⟨od, J, hl⟩ := I.look
  exact PySem.W.get_value X J (PySem.W.plainGet_of hg).1 (PySem.W.findObj_own hh ha rfl (by rw [hl, hv])) hv' h
theorem get_const {expr : Bool} {a : Value} {Q : Value → Shared → Prop} (X : K.In s.heap) (I : ObjM s.heap x dx C mA) (hg : PySem.W.plainGet K C name = true) (hh : PySem.W.hasDictIn K C = true)
    (ha : PySem.W.findIn K (.ref C) name = some (some a)) (hn : PySem.W.specialIn K a "__get__" = some none) (hc : PySem.W.copiedNames.contains name = false) (hv : mA name = none) (hv' : PySem.W.handedIn a = true)
    (h : Q a { s with toks := s.toks + 1 }) : wpAny (model prog w) A (getAttr (.ref x) name expr) Q E s := by
  obtain ⟨od, J, hl⟩ := I.look
  exact PySem.W.get_value X J (PySem.W.plainGet_of hg).1 (PySem.W.findObj_cls hh ha hn hv' hc (by rw [hl, hv])) hv' h
theorem get_meth {pl : Sem Bool} {Q : Value × List Value → Shared → Prop} (X : K.In s.heap) (I : ObjM s.heap x dx C mA) (hg : PySem.W.plainGet K C name = true)
    (hf : PySem.W.findIn K (.ref C) name = some (some (.ref f))) (ht : PySem.W.isFn K (.ref f) = true) (hv : mA name = none) (h : Q (.ref f, [.ref x]) s) :
    wpAny (model prog w) A (getMethod (.ref x) name pl) Q E s := by
  obtain ⟨od, J, hl⟩ := I.look
  exact PySem.W.method_fn X J (PySem.W.plainGet_of hg).1 (PySem.W.plainGet_of hg).2 hf (beq_iff_eq.mp ht) (by show (PySem.W.lookIn name od).map (·.isSome) = some false; rw [hl, hv]; rfl) h
theorem set_map {ns : List Str} {Q : Unit → Shared → Prop} (X : K.In s.heap) (I : ObjM s.heap x dx C mA)
    (hs : PySem.W.findIn K (.ref C) "__setattr__" = some (some (.builtin "object.__setattr__"))) (hp : PySem.W.plainOver K C = true) (ht : PySem.W.takerIn K C name = some none) (hh : PySem.W.hasDictIn K C = true)
    (hw : PySem.Within mA ns) (hsz : ns.length ≤ sizeLine)
    (h : ∀ h', ObjM h' x dx C (fun y => if y = name then some v else mA y) → Heap.SameBut dx s.heap h' → Q () { s with heap := h', toks := s.toks + 2 }) :
    wpAny (model prog w) A (setAttr (.ref x) name v) Q E s := by
  obtain ⟨od, J, hl⟩ := I.look
  refine PySem.W.set_plain X J hs (PySem.W.osa_open (s := { s with toks := s.toks + 1 }) (r := none) X J hp ht fun b => ?_)
  obtain ⟨cd, hc, hd'⟩ := PySem.W.any_some hh
  have hx : s.heap.get? x = some ⟨.ref C, some dx, .plain, #[]⟩ := I.obj
  refine wpAny_bind (wpAny_pure (wpAny_bind (wpAny_bind (wpAny_loadPart hx (wpAny_bind (PySem.W.Looks.here (s := { s with toks := s.toks + 1 }) (PySem.W.looks_clsIn X hc) ?_))))))
  rw [hd']
  refine wpAny_pure (a := some dx) (wpAny_bind (wpAny_pure (wpAny_bind ?_)))
  refine wpAny_nsSet1 (s := { s with toks := s.toks + 1 }) I.ns fun h' hn2 hs2 => ?_
  obtain ⟨oD, esD, epD, hoD, hdD, hcD⟩ := hn2.count (PySem.Within.cons name v hw)
  refine wpAny_bind (wpAny_lookBehind hoD (by rw [hdD]; exact pastItsLine_dict (Nat.le_trans hcD (by rw [List.length_cons]; omega))) ?_)
  exact wpAny_pure (h _ ⟨(hs2.2 _ (Ne.symm I.ne)).trans I.obj, hn2, I.ne⟩ hs2)
theorem make_map {R : Result → Shared → Prop} {vs : List Value} {kw : List (Str × Value)} (X : K.In s.heap) (hm : PySem.W.makesIn K C = true)
    (hi : PySem.W.findIn K (.ref C) "__init__" = some (some (.ref f))) (hf : PySem.W.typeIn K (.ref f) = some (.type "function"))
    (h : codeAny (model prog w) (A.under (.builtin "type.__call__" ⟨.ref C :: vs, kw⟩)) (.call (.ref f) ⟨.ref (s.heap.objs.size + 1) :: vs, kw⟩) (PySem.W.InitBack (s.heap.objs.size + 1) R)
      { s with heap := (s.heap.push PySem.W.emptyDict).push (PySem.W.instObj C s.heap.objs.size) }) :
    codeAny (model prog w) A (.call (.ref C) ⟨vs, kw⟩) R s := by
  obtain ⟨hh, g, d, t, os⟩ := s
  exact PySem.W.make_core (PySem.W.makes_of X hm) (PySem.W.looks_findIn X hi) (fun self => PySem.W.bind_fn X self hf) (.inl rfl) h
theorem make_map0 {R : Result → Shared → Prop} (X : K.In s.heap) (hm : PySem.W.makesIn K C = true)
    (hi : PySem.W.findIn K (.ref C) "__init__" = some (some (.builtin "object.__init__")))
    (hb : ∀ self, PySem.W.Looks (model prog w) s.heap (bindSpecial (.builtin "object.__init__") self) (.builtin "object.__init__", [self]))
    (h : codeAny (model prog w) (A.under (.builtin "type.__call__" ⟨[.ref C], []⟩)) (.call (.builtin "object.__init__") ⟨[.ref (s.heap.objs.size + 1)], []⟩) (PySem.W.InitBack (s.heap.objs.size + 1) R)
      { s with heap := (s.heap.push PySem.W.emptyDict).push (PySem.W.instObj C s.heap.objs.size) }) :
    codeAny (model prog w) A (.call (.ref C) ⟨[], []⟩) R s := by
  obtain ⟨hh, g, d, t, os⟩ := s
  exact PySem.W.make_core (PySem.W.makes_of X hm) (PySem.W.looks_findIn X hi) hb (.inr ⟨rfl, rfl⟩) h
end
def putF (f : Str) (v : V) : List (Str × V) → List (Str × V)
  | [] => [(f, v)]
  | (g, x) :: r => if g = f then (g, v) :: r else (g, x) :: putF f v r
theorem lookup_putF (f g : Str) (v : V) : ∀ fs : List (Str × V), (putF f v fs).lookup g = if g = f then some v else fs.lookup g
  | [] => by
    show List.lookup g [(f, v)] = _
    by_cases h : g = f
    · have hb : (g == f) = true := beq_iff_eq.mpr h
      simp only [List.lookup, hb, if_pos h]
    · have hb : (g == f) = false := beq_eq_false_iff_ne.mpr h
      simp only [List.lookup, hb, if_neg h]
  | (k, x) :: r => by
    have ih := lookup_putF f g v r
    rw [show putF f v ((k, x) :: r) = (if k = f then (k, v) :: r else (k, x) :: putF f v r) from rfl]
    by_cases hk : k = f
    · rw [if_pos hk]
      by_cases h : g = k
      · have hb : (g == k) = true := beq_iff_eq.mpr h
        simp only [List.lookup, hb, if_pos (h.trans hk)]
      · have hb : (g == k) = false := beq_eq_false_iff_ne.mpr h
        simp only [List.lookup, hb, if_neg (fun e : g = f => h (e.trans hk.symm))]
    · rw [if_neg hk]
      by_cases h : g = k
      · have hb : (g == k) = true := beq_iff_eq.mpr h
        simp only [List.lookup, hb, if_neg (fun e : g = f => hk (h.symm.trans e))]
      · have hb : (g == k) = false := beq_eq_false_iff_ne.mpr h
        simp only [List.lookup, hb]
        exact ih
theorem keys_putF (f : Str) (v : V) : ∀ fs : List (Str × V), f ∈ (putF f v fs).map (·.1) ∧ ∀ g, g ∈ fs.map (·.1) → g ∈ (putF f v fs).map (·.1)
  | [] => ⟨by simp [putF], fun g h => by simp at h⟩
  | (k, x) :: r => by
    obtain ⟨i1, i2⟩ := keys_putF f v r
    rw [show putF f v ((k, x) :: r) = (if k = f then (k, v) :: r else (k, x) :: putF f v r) from rfl]
    by_cases hk : k = f
    · rw [if_pos hk]
      subst hk
      exact ⟨by simp, fun g h => by simpa using h⟩
    · rw [if_neg hk]
      refine ⟨?_, fun g h => ?_⟩
      · rw [List.map_cons]
        exact List.mem_cons_of_mem _ i1
      · rw [List.map_cons] at h ⊢
        rcases List.mem_cons.mp h with e | e
        · exact List.mem_cons.mpr (.inl e)
        · exact List.mem_cons_of_mem _ (i2 g e)
theorem length_putF (f : Str) (v : V) : ∀ fs : List (Str × V), (putF f v fs).length ≤ fs.length + 1
  | [] => by simp [putF]
  | (k, x) :: r => by
    have ih := length_putF f v r
    rw [show putF f v ((k, x) :: r) = (if k = f then (k, v) :: r else (k, x) :: putF f v r) from rfl]
    by_cases hk : k = f
    · rw [if_pos hk, List.length_cons, List.length_cons]; omega
    · rw [if_neg hk, List.length_cons, List.length_cons]; omega
theorem RelO.some_of {v : V} {o : Option Value} (r : RelO (some v) o) : ∃ u, o = some u ∧ RelV v u := by
  cases o with
  | none => exact (show False from r).elim
  | some u => exact ⟨u, rfl, r⟩
theorem RelO.none_of {o : Option Value} (r : RelO none o) : o = none := by
  cases o with
  | none => rfl
  | some u => exact (show False from r).elim
theorem handed_of {v : V} {u : Value} (r : RelV v u) : PySem.W.handedIn u = true := by
  cases v with
  | non => cases (show u = Value.none from r); rfl
  | bl b => cases (show u = Value.bool b from r); rfl
  | int i => obtain ⟨t, e⟩ := (show ∃ t, u = Value.int i t from r); cases e; rfl
  | str x => obtain ⟨t, e⟩ := (show ∃ t, u = Value.str x t from r); cases e; rfl
  | byt b => obtain ⟨t, e⟩ := (show ∃ t, u = Value.bytes b t from r); cases e; rfl
  | flt b => obtain ⟨t, e⟩ := (show ∃ t, u = Value.float b t from r); cases e; rfl
  | ref a => cases (show u = Value.ref a from r); rfl
  | ty n => cases (show u = Value.type n from r); rfl
section
variable {P : Program} {w : World} {H H' : Hp} {h h' : Heap} {a C dx : Addr} {fs fs' : List (Str × V)}
theorem ins_get (hok : HOk P w H h) (e : H a = some (.ins C dx fs)) : ∃ mA, ObjM h a dx C mA ∧ (∀ f, RelO (fs.lookup f) (mA f)) ∧ PySem.Within mA (fs.map (·.1)) ∧ fs.length ≤ 1000 ∧ H dx = some (.own a) := by
  obtain ⟨d, z, ne, ob, mA, n, r, q⟩ := (show ObjOk P w H h a (.ins C dx fs) from hok a _ e)
  exact ⟨mA, ⟨ob, n, ne⟩, r, q, z, d⟩
end
structure Cls (K : PySem.W.Frag) (C : Addr) : Prop where
  pg : PySem.W.plainGet K C Str.empty = true
  hd : PySem.W.hasDictIn K C = true
  po : PySem.W.plainOver K C = true
  sa : PySem.W.findIn K (.ref C) "__setattr__" = some (some (.builtin "object.__setattr__"))
theorem Cls.get {K : PySem.W.Frag} {C : Addr} (c : Cls K C) (f : Str) : PySem.W.plainGet K C f = true := c.pg
def NoAttr (K : PySem.W.Frag) (C : Addr) (f : Str) : Prop := PySem.W.findIn K (.ref C) f = some none
theorem NoAttr.taker {K : PySem.W.Frag} {C : Addr} {f : Str} (n : NoAttr K C f) : PySem.W.takerIn K C f = some none := by
  unfold PySem.W.takerIn
  rw [show PySem.W.findIn K (.ref C) f = some none from n]
  rfl
structure Con (K : PySem.W.Frag) (C : Addr) (f : Str) (v : V) (u : Value) : Prop where
  at_ : PySem.W.findIn K (.ref C) f = some (some u)
  rel : RelV v u
  get : PySem.W.specialIn K u "__get__" = some none
  cp : PySem.W.copiedNames.contains f = false
structure Meth (K : PySem.W.Frag) (C : Addr) (m : Str) (f : Addr) : Prop where
  at_ : PySem.W.findIn K (.ref C) m = some (some (.ref f))
  fn : PySem.W.isFn K (.ref f) = true
  kp : PySem.W.keepIn K (.ref f) = true
section
variable {X : Cx} {pins : List (Addr × Obj)} {σ : St} {H : Hp} {s : Shared} {a C dx : Addr} {fs : List (Str × V)} {f : Str} {v : V} {A : Around} {E : Value → Shared → Prop}
theorem getattr_ok {b : Bool} {Q : Value → Shared → Prop} (I : Inv X pins σ H s) (e : H a = some (.ins C dx fs)) (c : Cls X.K C) (n : NoAttr X.K C f) (l : fs.lookup f = some v)
    (h : ∀ u s', Inv X pins σ H s' → RelV v u → Q u s') : wpAny (model X.prog X.w) A (getAttr (.ref a) f b) Q E s := by
  obtain ⟨mA, O, r, _, _, _⟩ := ins_get I.hok e
  obtain ⟨u, hu, ru⟩ := RelO.some_of (v := v) (o := mA f) (by rw [← l]; exact r f)
  exact get_map I.kIn O (c.get f) c.hd n hu (handed_of ru) (h u _ (I.tok _) ru)
theorem getcon_ok {b : Bool} {u : Value} {Q : Value → Shared → Prop} (I : Inv X pins σ H s) (e : H a = some (.ins C dx fs)) (c : Cls X.K C) (k : Con X.K C f v u) (l : fs.lookup f = none)
    (h : ∀ s', Inv X pins σ H s' → Q u s') : wpAny (model X.prog X.w) A (getAttr (.ref a) f b) Q E s := by
  obtain ⟨mA, O, r, _, _, _⟩ := ins_get I.hok e
  have hn : mA f = none := RelO.none_of (by rw [← l]; exact r f)
  exact get_const I.kIn O (c.get f) c.hd k.at_ k.get k.cp hn (handed_of k.rel) (h _ (I.tok _))
theorem getmeth_ok {m : Str} {g : Addr} {pl : Sem Bool} {Q : Value × List Value → Shared → Prop} (I : Inv X pins σ H s) (e : H a = some (.ins C dx fs)) (c : Cls X.K C) (k : Meth X.K C m g) (l : fs.lookup m = none)
    (h : Q (.ref g, [.ref a]) s) : wpAny (model X.prog X.w) A (getMethod (.ref a) m pl) Q E s := by
  obtain ⟨mA, O, r, _, _, _⟩ := ins_get I.hok e
  have hn : mA m = none := RelO.none_of (by rw [← l]; exact r m)
  exact get_meth I.kIn O (c.get m) k.at_ k.fn hn h
theorem setattr_ok {y : V} {u : Value} {Q : Unit → Shared → Prop} (I : Inv X pins σ H s) (e : H a = some (.ins C dx fs)) (c : Cls X.K C) (n : NoAttr X.K C f) (hl : fs.length < 1000) (ry : RelV y u)
    (h : ∀ s', Inv X pins σ (upd H a (.ins C dx (putF f y fs))) s' → Q () s') : wpAny (model X.prog X.w) A (setAttr (.ref a) f u) Q E s := by
  obtain ⟨mA, O, r, wi, _, ho⟩ := ins_get I.hok e
  have hz : (fs.map (·.1)).length ≤ sizeLine := by rw [List.length_map, sizeLine_eq]; omega
  refine set_map I.kIn O c.sa c.po n.taker c.hd wi hz fun h' O' sb => h _ ?_
  have hd : ∃ o, h'.get? dx = some o := let ⟨o, _, _, e', _⟩ := O'.ns; ⟨o, e'⟩
  refine I.write (x := a) (e := dx) (by rw [e]; exact True.intro) (.inr ho) (fun b q hb z => (sb.2 b hb).trans z) hd ?_
  refine ⟨by rw [upd_ne O.ne]; exact ho, ?_, O.ne, O'.obj, _, O'.ns, fun g => ?_, fun g hg => ?_⟩
  · have := length_putF f y fs; omega
  · show RelO ((putF f y fs).lookup g) (if g = f then some u else mA g)
    rw [lookup_putF]
    by_cases q : g = f
    · rw [if_pos q, if_pos q]; exact ry
    · rw [if_neg q, if_neg q]; exact r g
  · by_cases q : g = f
    · rw [q]; exact (keys_putF f y fs).1
    · refine (keys_putF f y fs).2 g (wi g fun z => hg ?_)
      show (if g = f then some u else mA g) = none
      rw [if_neg q]; exact z
theorem Inv.made (I : Inv X pins σ H s) : Inv X pins σ (upd (upd H s.heap.objs.size (.own (s.heap.objs.size + 1))) (s.heap.objs.size + 1) (.ins C s.heap.objs.size []))
    { s with heap := (s.heap.push PySem.W.emptyDict).push (PySem.W.instObj C s.heap.objs.size) } := by
  have e1 : (s.heap.push PySem.W.emptyDict).get? s.heap.objs.size = some PySem.W.emptyDict := Heap.get?_push_size s.heap rfl
  have e2 : ((s.heap.push PySem.W.emptyDict).push (PySem.W.instObj C s.heap.objs.size)).get? (s.heap.objs.size + 1) = some (PySem.W.instObj C s.heap.objs.size) := by
    have := Heap.get?_push_size (s.heap.push PySem.W.emptyDict) (o := PySem.W.instObj C s.heap.objs.size) rfl
    rwa [Heap.size_push] at this
  have e3 : (s.heap.push PySem.W.emptyDict).Ns s.heap.objs.size (fun _ => none) := ⟨PySem.W.emptyDict, #[], _, e1, rfl, (fun e he => absurd he (by simp)), fun _ => rfl⟩
  have I1 := I.laid (a := s.heap.objs.size) (o := .own (s.heap.objs.size + 1)) (h' := s.heap.push PySem.W.emptyDict) (t' := s.toks) (fun b u q => Heap.get?_push_of_some _ q) (Nat.le_refl _) ⟨_, e1⟩
  refine I1.laid (a := s.heap.objs.size + 1) (o := .ins C s.heap.objs.size []) (t' := s.toks) (fun b u q => Heap.get?_push_of_some _ q) (Nat.le_of_eq (Heap.size_push _ _)) ?_
  have ne : s.heap.objs.size ≠ s.heap.objs.size + 1 := Nat.ne_of_lt (Nat.lt_succ_self _)
  refine ⟨by rw [upd_ne ne, upd_same], Nat.zero_le _, ne, e2, fun _ => none, (Heap.Ns1.of_empty e3).at fun o q => Heap.get?_push_of_some _ q, fun _ => True.intro, fun y hy => absurd rfl hy⟩
theorem attr_of {prog : Program} {w : World} {env : Env} {e : Expr} {f : Str} {pos : Pos} {s : Shared} {Q : Value → Shared → Prop} (hb : attributeBase e f env (eval e env) = eval e env)
    (h : wpAny (model prog w) A (eval e env) (fun o s₁ => wpAny (model prog w) A (getAttr o f true) Q E s₁) E s) : wpAny (model prog w) A (eval (.Attribute e f pos) env) Q E s :=
  Attribute_any_ h (by rw [arm_eval_Attribute, hb])
end
def tFld (K : PySem.W.Frag) (ta : TE) (f : Str) : TE := fun σ H Q => ta σ H fun x H1 => ∃ a C dx fs v, x = .ref a ∧ H1 a = some (.ins C dx fs) ∧ Cls K C ∧ NoAttr K C f ∧ fs.lookup f = some v ∧ Q v H1
def tCon (K : PySem.W.Frag) (ta : TE) (f : Str) : TE := fun σ H Q => ta σ H fun x H1 => ∃ a C dx fs v u, x = .ref a ∧ H1 a = some (.ins C dx fs) ∧ Cls K C ∧ Con K C f v u ∧ fs.lookup f = none ∧ Q v H1
def sFld (K : PySem.W.Frag) (ta tv : TE) (f : Str) : TS := fun D σ H => tv σ H fun y H1 => ta σ H1 fun x H2 => ∃ a C dx fs, x = .ref a ∧ H2 a = some (.ins C dx fs) ∧ Cls K C ∧ NoAttr K C f ∧ fs.length < 1000 ∧
  D.nx σ (upd H2 a (.ins C dx (putF f y fs)))
def InOp (X : Cx) (op : Operator) (rd : V → V → Hp → VK → Prop) : Prop :=
  ∀ (pins : List (Addr × Obj)) (s : Shared) (σ : St) (H : Hp) (x y : V) (u v : Value) (Q : VK), Inv X pins σ H s → RelV x u → RelV y v → rd x y H Q → wpAny (model X.prog X.w) X.A (inplaceOp op u v) (EP X pins σ Q) X.xe s
def sFldAug (K : PySem.W.Frag) (ta tv : TE) (rd : V → V → Hp → VK → Prop) (f : Str) : TS := fun D σ H => ta σ H fun x H1 => ∃ a C dx fs v, x = .ref a ∧ H1 a = some (.ins C dx fs) ∧ Cls K C ∧ NoAttr K C f ∧ fs.lookup f = some v ∧
  tv σ H1 fun y H2 => rd v y H2 fun z H3 => ∃ dx' fs', H3 a = some (.ins C dx' fs') ∧ fs'.length < 1000 ∧ D.nx σ (upd H3 a (.ins C dx' (putF f z fs')))
section
variable {X : Cx} {o e value : Expr} {f : Str} {pos pos' tpos : Pos} {ta tv : TE}
theorem pe_fld (he : PE X e ta) (hb : attributeBase e f X.env (eval e X.env) = eval e X.env) : PE X (.Attribute e f pos) (tFld X.K ta f) := by
  intro pins s σ H Q I h
  refine attr_of hb (thn (he pins s σ H _ I h) fun u s1 ⟨x, H1, I1, rx, a, C, dx, fs, v, ex, ea, c, n, l, q⟩ => ?_)
  subst ex
  obtain rfl : u = Value.ref a := rx
  exact getattr_ok I1 ea c n l fun u' s2 I2 ru => ⟨v, H1, I2, ru, q⟩
theorem pe_con (he : PE X e ta) (hb : attributeBase e f X.env (eval e X.env) = eval e X.env) : PE X (.Attribute e f pos) (tCon X.K ta f) := by
  intro pins s σ H Q I h
  refine attr_of hb (thn (he pins s σ H _ I h) fun u s1 ⟨x, H1, I1, rx, a, C, dx, fs, v, u0, ex, ea, c, k, l, q⟩ => ?_)
  subst ex
  obtain rfl : u = Value.ref a := rx
  exact getcon_ok I1 ea c k l fun s2 I2 => ⟨v, H1, I2, k.rel, q⟩
theorem ps_fld (ha : PE X o ta) (hv : PE X value tv) (hs : swapsWith value (some (.Attribute o f pos')) pos.line X.env = pure false) : PS X (.Assign [.Attribute o f pos'] value pos) (sFld X.K ta tv f) := by
  intro pins s σ H D I h
  refine plainObj_wpAny_Assign_Attribute (thn (hv pins s σ H _ I h) fun u s1 ⟨y, H1, I1, ry, q⟩ => thn (ha pins s1 σ H1 _ I1 q) fun ov s2 ⟨x, H2, I2, rx, a, C, dx, fs, ex, ea, c, n, l, q2⟩ => ?_) hs
  subst ex
  obtain rfl : ov = Value.ref a := rx
  exact setattr_ok I2 ea c n l ry fun s3 I3 => ⟨σ, _, I3, q2⟩
theorem ps_fldaug {op : Operator} {rd : V → V → Hp → VK → Prop} (ha : PE X o ta) (hv : PE X value tv) (hop : InOp X op rd) : PS X (.AugAssign (.Attribute o f tpos) op value pos) (sFldAug X.K ta tv rd f) := by
  intro pins s σ H D I h
  refine wpAny_AugAssign_AttributeAny (thn (ha pins s σ H _ I h) fun ov s1 ⟨x, H1, I1, rx, a, C, dx, fs, v, ex, ea, c, n, l, q⟩ => ?_)
  subst ex
  obtain rfl : ov = Value.ref a := rx
  refine getattr_ok I1 ea c n l fun u s2 I2 ru => thn (hv pins s2 σ H1 _ I2 q) fun w3 s3 ⟨y, H2, I3, ry, q3⟩ => thn (hop pins s3 σ H2 v y u w3 _ I3 ru ry q3) fun w4 s4 ⟨z, H3, I4, rz, dx', fs', ea', l', q4⟩ => ?_
  exact setattr_ok I4 ea' c n l' rz fun s5 I5 => ⟨σ, _, I5, q4⟩
def rAdd : V → V → Hp → VK → Prop := fun x y H Q => ∃ i j, x = .int i ∧ y = .int j ∧ Q (.int (i + j)) H
def rSub : V → V → Hp → VK → Prop := fun x y H Q => ∃ i j, x = .int i ∧ y = .int j ∧ Q (.int (i - j)) H
theorem in_add : InOp X .Add rAdd := by
  rintro pins s σ H x y u v Q I rx ry ⟨i, j, rfl, rfl, q⟩
  obtain ⟨t, rfl⟩ := (show ∃ t, u = Value.int i t from rx)
  obtain ⟨t', rfl⟩ := (show ∃ t', v = Value.int j t' from ry)
  exact PyProof.Rows.iadd_int ⟨.int (i + j), H, I.tok _, ⟨_, rfl⟩, q⟩
theorem in_sub : InOp X .Sub rSub := by
  rintro pins s σ H x y u v Q I rx ry ⟨i, j, rfl, rfl, q⟩
  obtain ⟨t, rfl⟩ := (show ∃ t, u = Value.int i t from rx)
  obtain ⟨t', rfl⟩ := (show ∃ t', v = Value.int j t' from ry)
  exact PyProof.Rows.isub_int ⟨.int (i - j), H, I.tok _, ⟨_, rfl⟩, q⟩
theorem methcall_of {pl : Sem Bool} {m : Str} {apos : Pos} {args : List Expr} {pins : List (Addr × Obj)} {s : Shared} {σ : St} {H : Hp} {Q : Value → Shared → Prop} {te : TE} (he : PE X e te) (I : Inv X pins σ H s)
    (h : te σ H fun x H1 => ∃ a C dx fs g, x = .ref a ∧ H1 a = some (.ins C dx fs) ∧ Cls X.K C ∧ Meth X.K C m g ∧ fs.lookup m = none ∧
      ∀ s1, Inv X pins σ H1 s1 → wpAny (model X.prog X.w) X.A (callWith pos (.ref g) [.ref a] (backTo pos (starEach args X.env)) (backToKw pos (keywordEach [] X.env))) Q X.xe s1)
    (ht : eval (.Call (.Attribute e m apos) args [] pos) X.env = (do
      let ov ← eval e X.env
      standAt apos.atName
      let (f, first) ← holding [ov] (getMethod ov m pl)
      callWith pos f first (backTo pos (starEach args X.env)) (backToKw pos (keywordEach [] X.env)))) :
    wpAny (model X.prog X.w) X.A (eval (.Call (.Attribute e m apos) args [] pos) X.env) Q X.xe s := by
  refine PySem.W.methodCall_KW (pl := pl) (thn (he pins s σ H _ I h) fun u s1 ⟨x, H1, I1, rx, a, C, dx, fs, g, ex, ea, c, k, l, q⟩ => ?_) ht
  subst ex
  obtain rfl : u = Value.ref a := rx
  exact getmeth_ok I1 ea c k l (q s1 I1)
end
section
variable {X : Cx} {pins : List (Addr × Obj)} {σ : St} {H : Hp} {s : Shared} {A : Around} {E : Value → Shared → Prop} {Q : Value → Shared → Prop} {c : Value} {b : Bool}
inductive TyOf (K : PySem.W.Frag) (H : Hp) : V → Value → Prop where
  | non : TyOf K H .non (.type "NoneType")
  | bl (x : Bool) : TyOf K H (.bl x) (.type "bool")
  | int (i : Int) : TyOf K H (.int i) (.type "int")
  | str (x : Str) : TyOf K H (.str x) (.type "str")
  | flt (x : UInt64) : TyOf K H (.flt x) (.type "float")
  | lst {a : Addr} {xs : List V} (e : H a = some (.lst xs)) : TyOf K H (.ref a) (.type "list")
  | frz {a : Addr} {o : Obj} {xs : List V} (e : H a = some (.frz o (.lst xs))) : TyOf K H (.ref a) (.type "list")
  | tup {a : Addr} {xs : List V} (e : H a = some (.tup xs)) : TyOf K H (.ref a) (.type "tuple")
  | dK {a : Addr} {kvs : List (Key × V)} (e : H a = some (.dK kvs)) : TyOf K H (.ref a) (.type "dict")
  | dT {a : Addr} {kvs : List (List Key × V)} (e : H a = some (.dT kvs)) : TyOf K H (.ref a) (.type "dict")
  | ins {a C dx : Addr} {fs : List (Str × V)} (e : H a = some (.ins C dx fs)) (cl : Cls K C) (ha : PySem.W.findIn K (.ref C) "__class__" = some (some (.builtin "object.__class__")))
      (hn : PySem.W.specialIn K (.builtin "object.__class__") "__get__" = some (some (.builtin "getset_descriptor.__get__"))) (htk : PySem.W.takesIn K (.builtin "object.__class__") = some true)
      (hm : PySem.W.mroIn K C (.type "object") = some true) : TyOf K H (.ref a) (.ref C)
theorem isinst_ok {x : V} {u t : Value} (I : Inv X pins σ H s) (rx : RelV x u) (ty : TyOf X.K H x t) (e : PySem.W.kitOne X.K t c = some b) (h : ∀ tk, Q (.bool b) { s with toks := tk }) :
    wpAny (model X.prog X.w) A (call (.builtin "isinstance") [u, c]) Q E s := by
  cases ty with
  | non => cases (show u = Value.none from rx); exact PySem.W.kia_one PySem.W.kitx_none I.kIn True.intro e (fun z => nomatch z) h
  | bl y => cases (show u = Value.bool y from rx); exact PySem.W.kia_one PySem.W.kitx_bool I.kIn True.intro e (fun z => nomatch z) h
  | int i => obtain ⟨t, q⟩ := (show ∃ t, u = Value.int i t from rx); cases q; exact PySem.W.kia_one PySem.W.kitx_int I.kIn True.intro e (fun z => nomatch z) h
  | str y => obtain ⟨t, q⟩ := (show ∃ t, u = Value.str y t from rx); cases q; exact PySem.W.kia_one PySem.W.kitx_str I.kIn True.intro e (fun z => nomatch z) h
  | flt y => obtain ⟨t, q⟩ := (show ∃ t, u = Value.float y t from rx); cases q; exact PySem.W.kia_one PySem.W.kitx_float I.kIn True.intro e (fun z => nomatch z) h
  | @lst a xs ea =>
    cases (show u = Value.ref a from rx)
    obtain ⟨_, _, n, _, h1⟩ := (show ObjOk X.prog X.w H s.heap a (.lst xs) from I.hok a _ ea)
    exact PySem.W.kia_one PySem.W.kitx_list I.kIn ⟨_, h1, rfl⟩ e (fun z => nomatch z) h
  | @frz a ob xs ea =>
    cases (show u = Value.ref a from rx)
    obtain ⟨_, _, _, n, _, h1⟩ := (show ObjOk X.prog X.w H s.heap a (.frz ob (.lst xs)) from I.hok a _ ea)
    exact PySem.W.kia_one PySem.W.kitx_list I.kIn ⟨_, h1, rfl⟩ e (fun z => nomatch z) h
  | @tup a xs ea =>
    cases (show u = Value.ref a from rx)
    obtain ⟨_, _, _, p⟩ := (show ObjOk X.prog X.w H s.heap a (.tup xs) from I.hok a _ ea)
    obtain ⟨o, h1, h2, _⟩ := p
    exact PySem.W.kia_one PySem.W.kitx_tuple I.kIn ⟨o, h1, h2⟩ e (fun z => nomatch z) h
  | @dK a kvs ea =>
    cases (show u = Value.ref a from rx)
    obtain ⟨_, _, vs, _, p⟩ := (show ObjOk X.prog X.w H s.heap a (.dK kvs) from I.hok a _ ea)
    obtain ⟨o, es, ep, h1, h2, _⟩ := p
    exact PySem.W.kia_one PySem.W.kitx_dict I.kIn ⟨o, h1, h2.1⟩ e (fun z => nomatch z) h
  | @dT a kvs ea =>
    cases (show u = Value.ref a from rx)
    obtain ⟨_, _, xs, _, o, es, ep, h1, h2, _⟩ := (show ObjOk X.prog X.w H s.heap a (.dT kvs) from I.hok a _ ea)
    exact PySem.W.kia_one PySem.W.kitx_dict I.kIn ⟨o, h1, h2.1⟩ e (fun z => nomatch z) h
  | @ins a C dx fs ea cl ha hn htk hm =>
    cases (show u = Value.ref a from rx)
    obtain ⟨mA, O, _⟩ := ins_get I.hok ea
    obtain ⟨od, J, _⟩ := O.look
    exact PySem.W.kia_one (PySem.W.kitx_own (cl.get _) cl.hd ha hn htk hm) I.kIn J e (fun z => nomatch z) h
end
end L2
namespace L2
open PySem PySem.Spec PyProof.Rows
structure Room (k : Nat) (A : Around) : Prop where
  hd : A.handled = none
  dp : A.depth + 3 * k + 5 < recursionLimit
  un : A.units + 16 * k + 200 < cLine
theorem Room.mono {j k : Nat} {A : Around} (r : Room k A) (h : j ≤ k) : Room j A := ⟨r.hd, by have := r.dp; omega, by have := r.un; omega⟩
theorem Room.deeper {k : Nat} {A : Around} (r : Room (k + 1) A) (env : Env) : Room k (A.deeper env) :=
  ⟨r.hd, by have := r.dp; show A.depth + 1 + 3 * k + 5 < _; omega, by have := r.un; show A.units + 3 + 16 * k + 200 < _; omega⟩
theorem Room.in1 {k : Nat} {A : Around} (r : Room (k + 1) A) : Room k A.in1 :=
  ⟨r.hd, by have := r.dp; show A.depth + 3 * k + 5 < _; omega, by have := r.un; show A.units + 1 + 16 * k + 200 < _; omega⟩
theorem make_depth {A : Around} {C : Addr} {us : List Value} {kw : List (Str × Value)} : (A.under (.builtin "type.__call__" ⟨.ref C :: us, kw⟩)).depth = A.depth + 1 := by
  first | rfl | simp [Around.under, Code.weight, Code.isCreation, Code.isGuard, Code.isCaller, Code.frames, Code.isFrame, guardIds]
theorem make_units {A : Around} {C : Addr} {us : List Value} {kw : List (Str × Value)} : (A.under (.builtin "type.__call__" ⟨.ref C :: us, kw⟩)).units = A.units + 1 := by
  first | rfl | simp [Around.under, Code.cUnits, Code.frames, Code.isFrame]
theorem Room.make {k : Nat} {A : Around} (r : Room (k + 1) A) (C : Addr) (us : List Value) (kw : List (Str × Value)) : Room k (A.under (.builtin "type.__call__" ⟨.ref C :: us, kw⟩)) :=
  ⟨r.hd, by have := r.dp; rw [make_depth]; omega, by have := r.un; rw [make_units]; omega⟩
theorem Room.depth {k : Nat} {A : Around} (r : Room k A) : A.depth < recursionLimit := by have := r.dp; omega
theorem Room.units {k : Nat} {A : Around} (r : Room k A) : A.units + 64 < cLine := by have := r.un; omega
theorem Room.units0 {k : Nat} {A : Around} (r : Room k A) : A.units < cLine := by have := r.un; omega
def tNil : TA := fun _ H Q => Q [] H
def tCons (ta : TE) (tr : TA) : TA := fun σ H Q => ta σ H fun x H1 => tr σ H1 fun xs H2 => Q (x :: xs) H2
section
variable {X : Cx} {e : Expr} {es : List Expr} {te : TE} {t : TA} {pos : Pos}
theorem pa_nil : PA X [] tNil := fun _ _ _ _ H Q I h => Calls.spliced_nil ⟨[], H, I, .nil, h⟩
theorem pa_cons (ha : PE X e te) (hr : PA X es t) (hs : starEach (e :: es) X.env = (false, eval e X.env) :: starEach es X.env := by rfl) : PA X (e :: es) (tCons te t) := by
  intro pos pins s σ H Q I h
  rw [hs]
  show wpAny _ _ (spliced ((false, eval e X.env) :: backTo pos (starEach es X.env))) _ _ s
  refine Calls.spliced_cons (thn (ha pins s σ H _ I h) fun u s1 ⟨x, H1, I1, r1, q1⟩ => ?_)
  exact thn (hr pos pins s1 σ H1 _ I1 q1) fun us s2 ⟨xs, H2, I2, r2, q2⟩ => ⟨x :: xs, H2, I2, .cons r1 r2, q2⟩
def tTup (t : TA) : TE := fun σ H Q => t σ H fun xs H1 => xs.length ≤ sizeLine ∧ ∀ p, H1 p = none → Q (.ref p) (upd H1 p (.tup xs))
def tLst (t : TA) : TE := fun σ H Q => t σ H fun xs H1 => xs.length ≤ sizeLine ∧ ∀ p, H1 p = none → Q (.ref p) (upd H1 p (.lst xs))
theorem pe_tup {x1} (h : PA X es t) : PE X (.Tuple es x1 pos) (tTup t) := by
  intro pins s σ H Q I hq
  refine wpAny_Tuple_spliced (thn (h pos pins s σ H _ I hq) fun us s1 ⟨xs, H1, I1, r, z, q⟩ => ⟨by rw [← r.length]; exact z, ?_⟩)
  have hf : H1 s1.heap.objs.size = none := I1.hok.fresh (Nat.le_refl _)
  refine ⟨.ref s1.heap.objs.size, upd H1 s1.heap.objs.size (.tup xs), I1.laid (t' := s1.toks) (fun b u e => Heap.get?_push_of_some _ e) (Nat.le_refl _) ?_, rfl, q _ hf⟩
  exact ⟨z, us, r, ⟨_, Heap.get?_push_size _ rfl, rfl, _, rfl⟩⟩
theorem pe_lst (h : PA X es t) : PE X (.List es pos) (tLst t) := by
  intro pins s σ H Q I hq
  refine wpAny_List_spliced (thn (h pos pins s σ H _ I hq) fun us s1 ⟨xs, H1, I1, r, z, q⟩ => ⟨by rw [← r.length]; exact z, ?_⟩)
  have hf : H1 s1.heap.objs.size = none := I1.hok.fresh (Nat.le_refl _)
  refine ⟨.ref s1.heap.objs.size, upd H1 s1.heap.objs.size (.lst xs), I1.laid (t' := s1.toks) (fun b u e => Heap.get?_push_of_some _ e) (Nat.le_refl _) ?_, rfl, q _ hf⟩
  exact ⟨z, us, 0, r, Heap.get?_push_size _ rfl⟩
end
abbrev Sp := List V → Hp → VK → XK → Prop
abbrev CXT := List Env → Hp → Shared → XK → Value → Shared → Prop
structure Env0 (P : Program) (w : World) (K : PySem.W.Frag) (mg : Str → Option Value) (base : Heap) (A : Around) (outer : List Env) (s : Shared) (H : Hp) : Prop where
  frames : A.frames = some outer
  mod : Mod K mg base
  bs : ∀ b o, base.get? b = some o → s.heap.get? b = some o ∧ H b = none
  bsz : base.objs.size ≤ s.heap.objs.size
  funs : s.heap.FunFrames base outer
  frf : ∀ b ∈ frs outer, H b = none
  hok : HOk P w H s.heap
  bare : AllBare s.gens
def CE (outer : List Env) (P : Program) (w : World) (H : Hp) (s : Shared) (Q : VK) (u : Value) (s' : Shared) : Prop :=
  ∃ v H', s'.os = s.os ∧ AllBare s'.gens ∧ Un (frs outer) [] H H' s.heap s'.heap ∧ HOk P w H' s'.heap ∧ RelV v u ∧ Q v H'
def CR (CX : CXT) (outer : List Env) (P : Program) (w : World) (H : Hp) (s : Shared) (Q : VK) (E : XK) (r : Result) (s' : Shared) : Prop :=
  match r with
  | .ok (.ret u) => CE outer P w H s Q u s'
  | .ok _ => False
  | .error e => CX outer H s E e s'
structure FnOk (P : Program) (w : World) (K : PySem.W.Frag) (mg : Str → Option Value) (base : Heap) (CX : CXT) (k : Nat) (f : Addr) (fd : FuncData) (ps : List Str) (sp : Sp) : Prop where
  len : ∀ vs H Q E, sp vs H Q E → vs.length = ps.length
  run : ∀ (A : Around) (outer : List Env) (s : Shared) (H : Hp) (args : Args) (us : List Value) (vs : List V) (Q : VK) (E : XK), Room k A → Env0 P w K mg base A outer s H → BindsTo s fd args (ps.zip us) → Vals vs us → sp vs H Q E →
    codeAny (model P w) A (.call (.ref f) args) (CR CX outer P w H s Q E) s
theorem FnOk.mono {P : Program} {w : World} {K : PySem.W.Frag} {mg : Str → Option Value} {base : Heap} {CX : CXT} {j k : Nat} {f : Addr} {fd : FuncData} {ps : List Str} {sp : Sp} (F : FnOk P w K mg base CX j f fd ps sp) (h : j ≤ k) :
    FnOk P w K mg base CX k f fd ps sp := ⟨F.len, fun A outer s H args us vs Q E hr => F.run A outer s H args us vs Q E (hr.mono h)⟩
theorem FnOk.imp {P : Program} {w : World} {K : PySem.W.Frag} {mg : Str → Option Value} {base : Heap} {CX : CXT} {k : Nat} {f : Addr} {fd : FuncData} {ps : List Str} {sp sp' : Sp} (F : FnOk P w K mg base CX k f fd ps sp)
    (h : ∀ vs H Q E, sp' vs H Q E → sp vs H Q E) : FnOk P w K mg base CX k f fd ps sp' :=
  ⟨fun vs H Q E q => F.len vs H Q E (h _ _ _ _ q), fun A outer s H args us vs Q E hr he hb hv hs => F.run A outer s H args us vs Q E hr he hb hv (h _ _ _ _ hs)⟩
theorem Env0.make {P : Program} {w : World} {K : PySem.W.Frag} {mg : Str → Option Value} {base : Heap} {A : Around} {outer : List Env} {s : Shared} {H : Hp} (e : Env0 P w K mg base A outer s H) (C : Addr) (us : List Value) (kw : List (Str × Value)) :
    Env0 P w K mg base (A.under (.builtin "type.__call__" ⟨.ref C :: us, kw⟩)) outer s H := ⟨by first | exact e.frames | (simpa [Around.under, Code.envs, Code.isFrame, pushEnvs] using e.frames), e.mod, e.bs, e.bsz, e.funs, e.frf, e.hok, e.bare⟩
theorem Env0.in1 {P : Program} {w : World} {K : PySem.W.Frag} {mg : Str → Option Value} {base : Heap} {A : Around} {outer : List Env} {s : Shared} {H : Hp} (e : Env0 P w K mg base A outer s H) :
    Env0 P w K mg base A.in1 outer s H := ⟨e.frames, e.mod, e.bs, e.bsz, e.funs, e.frf, e.hok, e.bare⟩
section
variable {X : Cx} {pins : List (Addr × Obj)} {σ : St} {H : Hp} {s s' : Shared}
theorem Inv.env0 (I : Inv X pins σ H s) : Env0 X.prog X.w X.K X.mg X.base X.A X.stack s H :=
  ⟨I.ok.frames, I.ok.mod, I.bs, Nat.le_trans I.ok.bsz I.sz, I.stack, I.stkFree, I.hok, I.bare⟩
theorem Inv.after {Q : VK} {u : Value} (I : Inv X pins σ H s) (h : CE X.stack X.prog X.w H s Q u s') : EP X pins σ Q u s' := by
  obtain ⟨v, H', os, bare, un, hok, r, q⟩ := h
  obtain ⟨hh, g, d, t, os'⟩ := s'
  obtain rfl : os' = s.os := os
  exact ⟨v, H', I.call (h' := hh) (g' := g) (d' := d) (t' := t) (ch := []) un hok bare (fun b z => absurd z (by simp)), r, q⟩
end
def tCall (sp : Sp) (dvs : List V) (E : XK) (t : TA) : TE := fun σ H Q => t σ H fun vs H1 => sp (vs ++ dvs) H1 Q E
def tMeth (C : Addr) (m : Str) (sp : Sp) (dvs : List V) (E : XK) (ta : TE) (t : TA) : TE := fun σ H Q => ta σ H fun x H1 => ∃ a dx fs, x = .ref a ∧ H1 a = some (.ins C dx fs) ∧ fs.lookup m = none ∧
  t σ H1 fun vs H2 => sp (x :: (vs ++ dvs)) H2 Q E
def tMake (C : Addr) (sp : Sp) (dvs : List V) (E : XK) (t : TA) : TE := fun σ H Q => t σ H fun vs H1 => ∀ x dx, H1 x = none → H1 dx = none → dx ≠ x →
  sp (.ref x :: (vs ++ dvs)) (upd (upd H1 dx (.own x)) x (.ins C dx [])) (fun v H2 => v = .non ∧ Q (.ref x) H2) E
def Binds (K : PySem.W.Frag) (fd : FuncData) (ps : List Str) (ds : List Value) : Prop :=
  ∀ (s : Shared) (us : List Value), K.In s.heap → (us ++ ds).length = ps.length → BindsTo s fd ⟨us, []⟩ (ps.zip (us ++ ds))
theorem Binds.all {K : PySem.W.Frag} {fd : FuncData} {ps : List Str} (h : ∀ us : List Value, us.length = ps.length → bindArgs fd ⟨us, []⟩ = pure (ps.zip us)) : Binds K fd ps [] := fun s us _ hl => by
  rw [List.append_nil] at hl ⊢
  exact .of_eq (h us hl)
def Passes (CX : CXT) (X : Cx) (E : XK) : Prop := ∀ (pins : List (Addr × Obj)) (σ : St) (H : Hp) (s : Shared) (e : Value) (s' : Shared), Inv X pins σ H s → CX X.stack H s E e s' → X.xe e s'
section
variable {X : Cx} {CX : CXT} {k : Nat} {f C : Addr} {fd : FuncData} {ps : List Str} {sp : Sp} {dvs : List V} {ds : List Value} {E : XK} {x m : Str} {p pos apos : Pos} {e o : Expr} {es : List Expr} {ta : TE} {t : TA}
theorem run_fn {pins : List (Addr × Obj)} {σ : St} {H : Hp} {s : Shared} {Q : VK} {us : List Value} {vs : List V} (F : FnOk X.prog X.w X.K X.mg X.base CX k f fd ps sp) (hr : Room k X.A) (hb : Binds X.K fd ps ds) (hd : Vals dvs ds) (hx : Passes CX X E)
    (I : Inv X pins σ H s) (r : Vals vs us) (h : sp (vs ++ dvs) H Q E) : wpAny (model X.prog X.w) X.A (call (.ref f) us) (EP X pins σ Q) X.xe s := by
  have r2 : Vals (vs ++ dvs) (us ++ ds) := r.append hd
  have hl : (us ++ ds).length = ps.length := by rw [← r2.length]; exact F.len _ _ _ _ h
  refine wpAny_call (codeAny_mono (F.run X.A X.stack s H ⟨us, []⟩ (us ++ ds) (vs ++ dvs) Q E hr I.env0 (hb s us I.kIn hl) r2 h) fun r s' hq => ?_)
  cases r with
  | error e => exact hx pins σ H s e s' I hq
  | ok fl =>
    cases fl with
    | ret u => exact I.after hq
    | next => exact False.elim hq
    | brk => exact False.elim hq
    | cont => exact False.elim hq
theorem pe_call (F : FnOk X.prog X.w X.K X.mg X.base CX k f fd ps sp) (hr : Room k X.A) (hg : Gl X x) (hm : X.mg x = some (.ref f)) (hk : PySem.W.keepIn X.K (.ref f) = true) (hb : Binds X.K fd ps ds) (hd : Vals dvs ds) (hx : Passes CX X E)
    (ha : PA X (e :: es) t) (hdb : (x == ("__debug__" : Str)) = false := by decide) (he : starEach (e :: es) X.env = (false, eval e X.env) :: starEach es X.env := by rfl) (hpl : (backTo pos (starEach es X.env)).any (·.1) = false := by rfl) :
    PE X (.Call (.Name x p) (e :: es) [] pos) (tCall sp dvs E t) := by
  intro pins s σ H Q I h
  refine wpAny_Call_Name_kw (ld_glob I hg hm ?_ hdb)
  refine PySem.W.callWith_K (h₀ := X.base) I.ok.mod.kin hk (thn (ha pos pins s σ H _ I h) fun us s1 ⟨vs, H1, I1, r, q⟩ => ⟨I1.kIn, ?_⟩) he hpl
  exact run_fn F hr hb hd hx I1 r q
theorem pe_call0 (F : FnOk X.prog X.w X.K X.mg X.base CX k f fd ps sp) (hr : Room k X.A) (hg : Gl X x) (hm : X.mg x = some (.ref f)) (hk : PySem.W.keepIn X.K (.ref f) = true) (hb : Binds X.K fd ps ds) (hd : Vals dvs ds) (hx : Passes CX X E)
    (hdb : (x == ("__debug__" : Str)) = false := by decide) : PE X (.Call (.Name x p) [] [] pos) (tCall sp dvs E tNil) := by
  intro pins s σ H Q I h
  refine wpAny_Call_Name_kw (ld_glob I hg hm ?_ hdb)
  exact PySem.W.callWith_K0 I.kIn hk (run_fn (us := []) F hr hb hd hx I .nil h)
theorem pe_meth {pl : Sem Bool} (he : PE X o ta) (c : Cls X.K C) (hm : Meth X.K C m f) (F : FnOk X.prog X.w X.K X.mg X.base CX k f fd ps sp) (hr : Room k X.A) (hb : Binds X.K fd ps ds) (hd : Vals dvs ds) (hx : Passes CX X E) (ha : PA X (e :: es) t)
    (hst : starEach (e :: es) X.env = (false, eval e X.env) :: starEach es X.env := by rfl) (hpl : (backTo pos (starEach es X.env)).any (·.1) = false := by rfl)
    (ht : eval (.Call (.Attribute o m apos) (e :: es) [] pos) X.env = (do
      let ov ← eval o X.env
      standAt apos.atName
      let (f, first) ← holding [ov] (getMethod ov m pl)
      callWith pos f first (backTo pos (starEach (e :: es) X.env)) (backToKw pos (keywordEach [] X.env))) := by rfl) :
    PE X (.Call (.Attribute o m apos) (e :: es) [] pos) (tMeth C m sp dvs E ta t) := by
  intro pins s σ H Q I h
  refine PySem.W.methodCall_KW (pl := pl) (thn (he pins s σ H _ I h) fun u s1 ⟨x, H1, I1, rx, a, dx, fs, ex, ea, l, q⟩ => ?_) ht
  subst ex
  obtain rfl : u = Value.ref a := rx
  refine getmeth_ok I1 ea c hm l ?_
  refine PySem.W.callWith_K (first := [.ref a]) (h₀ := X.base) I.ok.mod.kin hm.kp (thn (ha pos pins s1 σ H1 _ I1 q) fun us s2 ⟨vs, H2, I2, r, q2⟩ => ⟨I2.kIn, ?_⟩) hst hpl
  exact run_fn (us := .ref a :: us) (vs := .ref a :: vs) F hr hb hd hx I2 (.cons rfl r) q2
theorem pe_meth0 {pl : Sem Bool} (he : PE X o ta) (c : Cls X.K C) (hm : Meth X.K C m f) (F : FnOk X.prog X.w X.K X.mg X.base CX k f fd ps sp) (hr : Room k X.A) (hb : Binds X.K fd ps ds) (hd : Vals dvs ds) (hx : Passes CX X E)
    (ht : eval (.Call (.Attribute o m apos) [] [] pos) X.env = (do
      let ov ← eval o X.env
      standAt apos.atName
      let (f, first) ← holding [ov] (getMethod ov m pl)
      callWith pos f first (backTo pos (starEach [] X.env)) (backToKw pos (keywordEach [] X.env))) := by rfl) :
    PE X (.Call (.Attribute o m apos) [] [] pos) (tMeth C m sp dvs E ta tNil) := by
  intro pins s σ H Q I h
  refine PySem.W.methodCall_KW (pl := pl) (thn (he pins s σ H _ I h) fun u s1 ⟨x, H1, I1, rx, a, dx, fs, ex, ea, l, q⟩ => ?_) ht
  subst ex
  obtain rfl : u = Value.ref a := rx
  refine getmeth_ok I1 ea c hm l ?_
  exact PySem.W.callWith_K0 (first := [.ref a]) I1.kIn hm.kp (run_fn (us := [.ref a]) (vs := [.ref a]) F hr hb hd hx I1 (.cons rfl .nil) q)
structure Mk (K : PySem.W.Frag) (C f : Addr) : Prop where
  makes : PySem.W.makesIn K C = true
  init : PySem.W.findIn K (.ref C) "__init__" = some (some (.ref f))
  fn : PySem.W.isFn K (.ref f) = true
  kp : PySem.W.keepIn K (.ref C) = true
theorem run_make {pins : List (Addr × Obj)} {σ : St} {H : Hp} {s : Shared} {Q : VK} {us : List Value} {vs : List V} (M : Mk X.K C f) (F : FnOk X.prog X.w X.K X.mg X.base CX k f fd ps sp) (hr : Room (k + 1) X.A) (hb : Binds X.K fd ps ds) (hd : Vals dvs ds)
    (hx : Passes CX X E) (I : Inv X pins σ H s) (r : Vals vs us)
    (h : ∀ x dx, H x = none → H dx = none → dx ≠ x → sp (.ref x :: (vs ++ dvs)) (upd (upd H dx (.own x)) x (.ins C dx [])) (fun v H2 => v = .non ∧ Q (.ref x) H2) E) :
    wpAny (model X.prog X.w) X.A (call (.ref C) us) (EP X pins σ Q) X.xe s := by
  have hq := h (s.heap.objs.size + 1) s.heap.objs.size (I.hok.fresh (Nat.le_succ _)) (I.hok.fresh (Nat.le_refl _)) (Nat.ne_of_lt (Nat.lt_succ_self _))
  have I2 := Inv.made (C := C) I
  have r2 : Vals (V.ref (s.heap.objs.size + 1) :: (vs ++ dvs)) (Value.ref (s.heap.objs.size + 1) :: (us ++ ds)) := .cons rfl (r.append hd)
  have hl : (Value.ref (s.heap.objs.size + 1) :: us ++ ds).length = ps.length := by
    have e := r2.length
    rw [F.len _ _ _ _ hq] at e
    exact e.symm
  refine wpAny_call (make_map (f := f) I.kIn M.makes M.init (beq_iff_eq.mp M.fn) (codeAny_mono (F.run _ X.stack _ _ ⟨Value.ref (s.heap.objs.size + 1) :: us, []⟩ (Value.ref (s.heap.objs.size + 1) :: (us ++ ds)) _ _ E (hr.make C us [])
    (I2.env0.make C us []) (hb _ (Value.ref (s.heap.objs.size + 1) :: us) I2.kIn hl) r2 hq) fun r s' hq' => ?_))
  cases r with
  | error e => exact hx pins σ _ _ e s' I2 hq'
  | ok fl =>
    cases fl with
    | ret u =>
      obtain ⟨v, H', I3, rv, ev, q3⟩ := I2.after hq'
      subst ev
      exact ⟨rv, ⟨V.ref (s.heap.objs.size + 1), H', I3, rfl, q3⟩⟩
    | next => exact False.elim hq'
    | brk => exact False.elim hq'
    | cont => exact False.elim hq'
theorem pe_make (M : Mk X.K C f) (F : FnOk X.prog X.w X.K X.mg X.base CX k f fd ps sp) (hr : Room (k + 1) X.A) (hg : Gl X x) (hm : X.mg x = some (.ref C)) (hb : Binds X.K fd ps ds) (hd : Vals dvs ds) (hx : Passes CX X E)
    (ha : PA X (e :: es) t) (hdb : (x == ("__debug__" : Str)) = false := by decide) (he : starEach (e :: es) X.env = (false, eval e X.env) :: starEach es X.env := by rfl) (hpl : (backTo pos (starEach es X.env)).any (·.1) = false := by rfl) :
    PE X (.Call (.Name x p) (e :: es) [] pos) (tMake C sp dvs E t) := by
  intro pins s σ H Q I h
  refine wpAny_Call_Name_kw (ld_glob I hg hm ?_ hdb)
  refine PySem.W.callWith_K (h₀ := X.base) I.ok.mod.kin M.kp (thn (ha pos pins s σ H _ I h) fun us s1 ⟨vs, H1, I1, r, q⟩ => ⟨I1.kIn, ?_⟩) he hpl
  exact run_make M F hr hb hd hx I1 r q
theorem pe_make0 (M : Mk X.K C f) (F : FnOk X.prog X.w X.K X.mg X.base CX k f fd ps sp) (hr : Room (k + 1) X.A) (hg : Gl X x) (hm : X.mg x = some (.ref C)) (hb : Binds X.K fd ps ds) (hd : Vals dvs ds) (hx : Passes CX X E)
    (hdb : (x == ("__debug__" : Str)) = false := by decide) : PE X (.Call (.Name x p) [] [] pos) (tMake C sp dvs E tNil) := by
  intro pins s σ H Q I h
  refine wpAny_Call_Name_kw (ld_glob I hg hm ?_ hdb)
  exact PySem.W.callWith_K0 I.kIn M.kp (run_make (us := []) M F hr hb hd hx I .nil h)
end
def PK (X : Cx) (kws : List Keyword) (t : TA) : Prop :=
  ∀ (pos : Pos) (pins : List (Addr × Obj)) (s : Shared) (σ : St) (H : Hp) (Q : List V → Hp → Prop), Inv X pins σ H s → t σ H Q → wpAny (model X.prog X.w) X.A (evalAll ((backToKw pos (keywordEach kws X.env)).map (·.2))) (AP X pins σ Q) X.xe s
section
variable {X : Cx} {CX : CXT} {k : Nat} {f C : Addr} {fd : FuncData} {ps ks : List Str} {sp : Sp} {E : XK} {x m : Str} {p pos apos kpos : Pos} {e o : Expr} {es : List Expr} {kws : List Keyword} {te ta : TE} {t tk : TA} {nm : Option Str}
theorem pk_nil : PK X [] tNil := fun _ _ _ _ H Q I h => wpAny_evalAll_nil ⟨[], H, I, .nil, h⟩
theorem pk_cons (ha : PE X e te) (hr : PK X kws t) : PK X (⟨nm, e, kpos⟩ :: kws) (tCons te t) := by
  intro pos pins s σ H Q I h
  show wpAny _ _ (evalAll ((do let v ← eval e X.env; standAt pos; pure v) :: (backToKw pos (keywordEach kws X.env)).map (·.2))) _ _ s
  refine wpAny_evalAll_cons (wpAny_bind (thn (ha pins s σ H _ I h) fun u s1 ⟨x, H1, I1, r1, q1⟩ => wpAny_bind (wpAny_standAt (wpAny_pure ?_))))
  exact thn (hr pos pins s1 σ H1 _ I1 q1) fun us s2 ⟨xs, H2, I2, r2, q2⟩ => ⟨x :: xs, H2, I2, .cons r1 r2, q2⟩
structure KBinds (K : PySem.W.Frag) (fd : FuncData) (ps ks : List Str) (g : List Value → List Value → List Value) (gV : List V → List V → List V) : Prop where
  to : ∀ (s : Shared) (us ws : List Value), K.In s.heap → (g us ws).length = ps.length → BindsTo s fd ⟨us, ks.zip ws⟩ (ps.zip (g us ws))
  rel : ∀ {vs : List V} {us : List Value} {zs : List V} {ws : List Value}, Vals vs us → Vals zs ws → Vals (gV vs zs) (g us ws)
def tCallK (sp : Sp) (gV : List V → List V → List V) (E : XK) (t tk : TA) : TE := fun σ H Q => t σ H fun vs H1 => tk σ H1 fun zs H2 => sp (gV vs zs) H2 Q E
variable {g : List Value → List Value → List Value} {gV : List V → List V → List V}
theorem run_fnk {pins : List (Addr × Obj)} {σ : St} {H : Hp} {s : Shared} {Q : VK} {us ws : List Value} {vs zs : List V} (F : FnOk X.prog X.w X.K X.mg X.base CX k f fd ps sp) (hr : Room k X.A) (hb : KBinds X.K fd ps ks g gV) (hx : Passes CX X E)
    (I : Inv X pins σ H s) (r : Vals vs us) (rz : Vals zs ws) (h : sp (gV vs zs) H Q E) : wpAny (model X.prog X.w) X.A (call (.ref f) us (ks.zip ws)) (EP X pins σ Q) X.xe s := by
  have r2 := hb.rel r rz
  have hl : (g us ws).length = ps.length := by rw [← r2.length]; exact F.len _ _ _ _ h
  refine wpAny_call (codeAny_mono (F.run X.A X.stack s H ⟨us, ks.zip ws⟩ (g us ws) (gV vs zs) Q E hr I.env0 (hb.to s us ws I.kIn hl) r2 h) fun r s' hq => ?_)
  cases r with
  | error e => exact hx pins σ H s e s' I hq
  | ok fl =>
    cases fl with
    | ret u => exact I.after hq
    | next => exact False.elim hq
    | brk => exact False.elim hq
    | cont => exact False.elim hq
theorem pe_callK (F : FnOk X.prog X.w X.K X.mg X.base CX k f fd ps sp) (hr : Room k X.A) (hg : Gl X x) (hm : X.mg x = some (.ref f)) (hk : PySem.W.keepIn X.K (.ref f) = true) (hb : KBinds X.K fd ps ks g gV) (hx : Passes CX X E)
    (ha : PA X (e :: es) t) (hkw : PK X kws tk) (hall : (backToKw pos (keywordEach kws X.env)).all (·.1.isSome) = true := by rfl) (hks : (backToKw pos (keywordEach kws X.env)).filterMap (·.1) = ks := by rfl)
    (hdb : (x == ("__debug__" : Str)) = false := by decide) (he : starEach (e :: es) X.env = (false, eval e X.env) :: starEach es X.env := by rfl)
    (hpl : ((backTo pos (starEach (e :: es) X.env)).any (·.1) || (backToKw pos (keywordEach kws X.env)).any (·.1.isNone)) = false := by rfl) :
    PE X (.Call (.Name x p) (e :: es) kws pos) (tCallK sp gV E t tk) := by
  intro pins s σ H Q I h
  refine wpAny_Call_Name_kw (ld_glob I hg hm ?_ hdb)
  refine PySem.W.callWith_KW (h₀ := X.base) I.ok.mod.kin hk hall (thn (ha pos pins s σ H _ I h) fun us s1 ⟨vs, H1, I1, r, q⟩ => ?_) hpl he
  refine thn (hkw pos pins s1 σ H1 _ I1 q) fun ws s2 ⟨zs, H2, I2, rz, q2⟩ => ⟨I2.kIn, ?_⟩
  rw [hks]
  exact run_fnk F hr hb hx I2 r rz q2
end
structure FnScope (N P : List Str) (sc : Scope) : Prop where
  kind : sc.kind = .function
  co : sc.isCoroutine = false
  gen : sc.isGenerator = false
  nd : N.Nodup
  pre : N.take P.length = P
  par : ∀ x ∈ P, sc.names.lookup x = some .local ∨ sc.names.lookup x = some .cell
  nofree : ∀ y ∈ sc.names, y.2 ≠ .free
theorem bindL_out {kindOf : Str → Option NameKind} {x : Str} : ∀ {binds : List (Str × Value)} {m : Str → Option Value}, (∀ v, (x, v) ∉ binds) → bindL kindOf binds m x = m x
  | [], _, _ => rfl
  | (n, v) :: r, m, h => by
    unfold bindL
    rw [bindL_out fun w hw => h w (List.mem_cons_of_mem _ hw)]
    split
    · have : x ≠ n := by rintro rfl; exact h v List.mem_cons_self
      simp [this]
    · rfl
theorem bindC_out {kindOf : Str → Option NameKind} {x : Str} : ∀ {binds : List (Str × Value)} {m : Str → Option Value}, (∀ v, (x, v) ∉ binds) → bindC kindOf binds m x = m x
  | [], _, _ => rfl
  | (n, v) :: r, m, h => by
    unfold bindC
    rw [bindC_out fun w hw => h w (List.mem_cons_of_mem _ hw)]
    split
    · rfl
    · have : x ≠ n := by rintro rfl; exact h v List.mem_cons_self
      simp [this]
theorem bindL_get {kindOf : Str → Option NameKind} {x : Str} {v : Value} : ∀ {P : List Str} {vs : List Value} {i : Nat} {m : Str → Option Value}, P.Nodup → P[i]? = some x → vs[i]? = some v → kindOf x = some .local →
    bindL kindOf (P.zip vs) m x = some v
  | [], _, _, _, _, h, _, _ => by simp at h
  | _ :: _, [], _, _, _, _, h, _ => by simp at h
  | p :: P, w :: vs, 0, m, nd, h1, h2, hk => by
    simp at h1 h2; subst h1; subst h2
    show bindL kindOf ((p, w) :: P.zip vs) m p = _
    unfold bindL
    rw [bindL_out fun v hv => (List.nodup_cons.mp nd).1 (List.of_mem_zip hv).1, if_pos hk]
    simp
  | p :: P, w :: vs, i + 1, m, nd, h1, h2, hk => by
    show bindL kindOf ((p, w) :: P.zip vs) m x = _
    unfold bindL
    exact bindL_get (i := i) (List.nodup_cons.mp nd).2 (by simpa using h1) (by simpa using h2) hk
theorem bindC_get {kindOf : Str → Option NameKind} {x : Str} {v : Value} : ∀ {P : List Str} {vs : List Value} {i : Nat} {m : Str → Option Value}, P.Nodup → P[i]? = some x → vs[i]? = some v → kindOf x ≠ some .local →
    bindC kindOf (P.zip vs) m x = some v
  | [], _, _, _, _, h, _, _ => by simp at h
  | _ :: _, [], _, _, _, _, h, _ => by simp at h
  | p :: P, w :: vs, 0, m, nd, h1, h2, hk => by
    simp at h1 h2; subst h1; subst h2
    show bindC kindOf ((p, w) :: P.zip vs) m p = _
    unfold bindC
    rw [bindC_out fun v hv => (List.nodup_cons.mp nd).1 (List.of_mem_zip hv).1, if_neg hk]
    simp
  | p :: P, w :: vs, i + 1, m, nd, h1, h2, hk => by
    show bindC kindOf ((p, w) :: P.zip vs) m x = _
    unfold bindC
    exact bindC_get (i := i) (List.nodup_cons.mp nd).2 (by simpa using h1) (by simpa using h2) hk
def start (N : List Str) (vs : List V) : St := vs.map some ++ List.replicate (N.length - vs.length) none
def cxOf (CX : CXT) (P : Program) (w : World) (K : PySem.W.Frag) (mg : Str → Option Value) (base : Heap) (N : List Str) (qual : Str) (scope : Scope) (f : Addr) (cd : Value) (A : Around) (outer : List Env) (s : Shared) (H : Hp) (E : XK) : Cx where
  prog := P
  w := w
  K := K
  mg := mg
  base := base
  A := A.deeper (envOfC qual scope s.heap.objs.size f cd)
  N := N
  s₀ := s
  H₀ := H
  env := envOfC qual scope s.heap.objs.size f cd
  outer := outer
  stack := envOfC qual scope s.heap.objs.size f cd :: outer
  ex := []
  calm := true
  fn := fun _ => true
  pn := []
  xe := fun e s' => wpAny (model P w) (A.deeper (envOfC qual scope s.heap.objs.size f cd)) (leaving (envOfC qual scope s.heap.objs.size f cd) e) (fun _ s'' => CX outer H s E e s'') (fun e' s'' => CX outer H s E e' s'') s'
theorem cell_has {sc : Scope} {n : Nat} {x : Str} (h : sc.names.lookup x = some .cell) : ∃ c, (cellsFrom n sc.names []).lookup x = some c := by
  have q := PySem.W.cellsFrom_some sc.names n [] (.inl h)
  exact Option.isSome_iff_exists.mp q
theorem inv_start {CX : CXT} {P : Program} {w : World} {K : PySem.W.Frag} {mg : Str → Option Value} {base : Heap} {N ps : List Str} {qual : Str} {scope : Scope} {f : Addr} {cd : Value} {A : Around} {outer : List Env} {s s1 : Shared} {H : Hp} {E : XK} {us : List Value} {vs : List V}
    (S : FnScope N ps scope) (hd : A.handled = none) (e0 : Env0 P w K mg base A outer s H) (hl : vs.length = ps.length) (r : Vals vs us)
    (x : InCallC s s.heap.objs.size (bindL (envOfC qual scope s.heap.objs.size f cd).kindOf (ps.zip us) fun _ => none) (cellsFrom (s.heap.objs.size + 1) scope.names []) (bindC (envOfC qual scope s.heap.objs.size f cd).kindOf (ps.zip us) fun _ => none) s1) :
    Inv (cxOf CX P w K mg base N qual scope f cd A outer s H E) [] (start N vs) H s1 := by
  have hpl : ps.length ≤ N.length := by have := congrArg List.length S.pre; rw [List.length_take] at this; omega
  obtain ⟨h1, tk, rfl, hk⟩ := x.done
  have noA : ∀ b : Addr, b ∉ (cxOf CX P w K mg base N qual scope f cd A outer s H E).ex := fun b z => absurd (show b ∈ ([] : List Addr) from z) (by simp)
  refine ⟨⟨e0.mod, S.kind, rfl, rfl, Nat.le_refl _, fun y z c h1 h2 => ?_, fun y hy => ?_, fun y c _ h => ?_, fun _ => hd, Around.frames_deeper e0.frames, .inr ⟨rfl, rfl⟩, fun b z => absurd z (noA b), e0.bs, e0.bsz, fun b _ _ => noA b, fun b z => absurd z (noA b), e0.funs, e0.frf⟩,
    rfl, e0.bare, Un.kept hk, ⟨_, x.toInCall.ns, fun i y v h1 h2 h3 => ?_⟩, fun y c h => ⟨_, x.cell y c h⟩, e0.hok.fresh (Nat.le_refl _), fun y c h => ?_, fun p hp => absurd (show p ∈ ([] : List (Addr × Obj)) from hp) (by simp), e0.hok.kept hk, ?_⟩
  · exact name_of_addr x.apart (PySem.mem_of_lookup h1) (PySem.mem_of_lookup h2)
  · have hy : scope.names.lookup y = some .cell ∨ scope.names.lookup y = some .free := hy
    rcases hy with hy | hy
    · exact cell_has hy
    · exact absurd rfl (S.nofree _ (PySem.mem_of_lookup hy))
  · exact Nat.le_of_lt (x.above y c (PySem.mem_of_lookup h))
  · have hi : i < vs.length := by
      unfold start at h2
      by_cases hi : i < vs.length
      · exact hi
      · rw [List.getElem?_append_right (by simpa using hi)] at h2
        rw [List.getElem?_replicate] at h2
        split at h2 <;> cases h2
    have ha : vs[i]? = some v := by
      unfold start at h2
      rw [List.getElem?_append_left (by simpa using hi), List.getElem?_map] at h2
      cases e : vs[i]? with
      | none => rw [e] at h2; cases h2
      | some a => rw [e] at h2; cases h2; rfl
    obtain ⟨u, hu, rv⟩ := r.get ha
    have hp : ps[i]? = some y := by
      rw [← S.pre, List.getElem?_take_of_lt (by omega)]; exact h1
    have ndP : ps.Nodup := by rw [← S.pre]; exact S.nd.sublist (List.take_sublist _ _)
    refine ⟨u, rv, ?_⟩
    rcases S.par y (List.mem_of_getElem? hp) with k | k
    · exact .inl ⟨k, bindL_get ndP hp hu k⟩
    · obtain ⟨c, e⟩ := cell_has (n := s.heap.objs.size + 1) k
      refine .inr ⟨.inl k, c, e, ?_⟩
      have q := x.cell y c e
      rw [bindC_get ndP hp hu (by show scope.names.lookup y ≠ _; rw [k]; decide)] at q
      exact q
  · exact e0.hok.fresh (Nat.le_of_lt (x.above y c (PySem.mem_of_lookup h)))
  · unfold start
    show _ = N.length
    rw [List.length_append, List.length_map, List.length_replicate]
    omega
theorem fn_of {CX : CXT} {P : Program} {w : World} {K : PySem.W.Frag} {mg : Str → Option Value} {base : Heap} {k : Nat} {f : Addr} {name qual : Str} {params : Arguments} {body : List Stmt} {scope : Scope} {dV kV doc pm cdv ct oc : Value} {an od : Option Addr}
    {osl : Array (Option Value)} {N ps : List Str} {sp : Sp} (lk : K.lookup f = some ⟨oc, od, .func (PySem.W.fnOf name qual params body scope dV kV doc pm an cdv ct), osl⟩) (hcd : PySem.W.codeIn K cdv qual = true) (S : FnScope N ps scope)
    (len : ∀ vs H Q E, sp vs H Q E → vs.length = ps.length)
    (hbody : ∀ (A : Around) (outer : List Env) (s : Shared) (H : Hp) (vs : List V) (Q : VK) (E : XK), Room k (A.deeper (envOfC qual scope s.heap.objs.size f cdv)) → sp vs H Q E →
      ∃ t, PSs (cxOf CX P w K mg base N qual scope f cdv A outer s H E) body t ∧ t { nx := fun _ H' => Q .non H', rt := Q } (start N vs) H) :
    FnOk P w K mg base CX (k + 1) f (PySem.W.fnOf name qual params body scope dV kV doc pm an cdv ct) ps sp := by
  refine ⟨len, fun A outer s H args us vs Q E hr e0 hb r hsp => ?_⟩
  have hl := len _ _ _ _ hsp
  have KX : K.In s.heap := e0.mod.kin.keeps fun b o e => (e0.bs b o e).1
  have lim : s.heap.NoLimit := e0.mod.nolimit.keeps fun b o e => (e0.bs b o e).1
  have hkind : ∀ y ∈ ps.zip us, scope.names.lookup y.1 = some .local ∨ (scope.names.lookup y.1 = some .cell ∧ ((cellsFrom (s.heap.objs.size + 1) scope.names []).lookup y.1).isSome = true) := fun ⟨n, v⟩ hy => by
    rcases S.par n (List.of_mem_zip hy).1 with q | q
    · exact .inl q
    · exact .inr ⟨q, PySem.W.cellsFrom_some _ _ _ (.inl q)⟩
  refine codeAny_call_function hr.depth (KX _ _ lk) rfl S.co S.gen rfl (PySem.W.codeRec_of KX hcd) (hb _ _ _ _ ?_)
  refine wpAny_newFunctionEnv_cells S.kind hkind fun env he s1 x => ?_
  subst he
  refine ⟨lim.keeps x.toInCall.keep, codeAny_func ?_⟩
  obtain ⟨t, ht, hq⟩ := hbody A outer s H vs Q E (hr.deeper _) hsp
  have I : Inv (cxOf CX P w K mg base N qual scope f cdv A outer s H E) [] (start N vs) H s1 := inv_start S hr.hd e0 hl r x
  refine wpAny_mono (ht [] s1 (start N vs) H _ I hq) (fun fl s' hs => ?_) fun e s' hs => hs
  have fin : ∀ {σ' : St} {H' : Hp} {v : V} {u : Value}, Inv (cxOf CX P w K mg base N qual scope f cdv A outer s H E) [] σ' H' s' → RelV v u → Q v H' → CE outer P w H s Q u s' :=
    fun {σ' H' v u} J rv q => ⟨v, H', J.os, J.bare, J.base, J.hok, rv, q⟩
  cases fl with
  | ret u =>
    obtain ⟨v, σ', H', J, rv, q⟩ := hs
    exact fin J rv q
  | next =>
    obtain ⟨σ', H', J, q⟩ := hs
    exact fin (v := V.non) (u := Value.none) J rfl q
  | brk =>
    obtain ⟨_, _, _, q⟩ := hs
    exact False.elim q
  | cont =>
    obtain ⟨_, _, _, q⟩ := hs
    exact False.elim q
end L2
namespace L2
open PySem PySem.Spec PyProof.Rows
section
variable {X : Cx} {x : Str} {p pos : Pos} {e : Expr} {es : List Expr} {t : TA} {id T : String} {r : List V → Hp → VK → Prop}
def tCB (r : List V → Hp → VK → Prop) (t : TA) : TE := fun σ H Q => t σ H fun vs H1 => r vs H1 Q
theorem pe_callB (hc : CallR X (.builtin id) r) (hg : Gl X x) (hm : X.mg x = none) (hv : bootBuiltins x = some (.builtin id)) (ha : PA X (e :: es) t) (hn : x ≠ "__name__" := by decide) (hdb : (x == ("__debug__" : Str)) = false := by decide)
    (he : starEach (e :: es) X.env = (false, eval e X.env) :: starEach es X.env := by rfl) (hpl : (backTo pos (starEach es X.env)).any (·.1) = false := by rfl) : PE X (.Call (.Name x p) (e :: es) [] pos) (tCB r t) := by
  intro pins s σ H Q I h
  refine wpAny_Call_Name_kw (ld_blt I hg hm hv ?_ hn hdb)
  exact PyProof.Rows.callWith_builtin1 (thn (ha pos pins s σ H _ I h) fun us s1 ⟨vs, H1, I1, r1, q1⟩ => hc pins s1 σ H1 vs us Q I1 r1 q1) he hpl
theorem pe_callTy (hc : CallR X (.type T) r) (hg : Gl X x) (hm : X.mg x = none) (hv : bootBuiltins x = some (.type T)) (ha : PA X (e :: es) t) (hn : x ≠ "__name__" := by decide) (hdb : (x == ("__debug__" : Str)) = false := by decide)
    (he : starEach (e :: es) X.env = (false, eval e X.env) :: starEach es X.env := by rfl) (hpl : (backTo pos (starEach es X.env)).any (·.1) = false := by rfl) : PE X (.Call (.Name x p) (e :: es) [] pos) (tCB r t) := by
  intro pins s σ H Q I h
  refine wpAny_Call_Name_kw (ld_blt I hg hm hv ?_ hn hdb)
  exact PyProof.Rows.callWith_type1 (thn (ha pos pins s σ H _ I h) fun us s1 ⟨vs, H1, I1, r1, q1⟩ => hc pins s1 σ H1 vs us Q I1 r1 q1) he hpl
theorem pe_callTy0 (hc : CallR X (.type T) r) (hg : Gl X x) (hm : X.mg x = none) (hv : bootBuiltins x = some (.type T)) (hn : x ≠ "__name__" := by decide) (hdb : (x == ("__debug__" : Str)) = false := by decide) :
    PE X (.Call (.Name x p) [] [] pos) (tCB r tNil) := by
  intro pins s σ H Q I h
  refine wpAny_Call_Name_kw (ld_blt I hg hm hv ?_ hn hdb)
  exact PyProof.Rows.callWith_type0 (hc pins s σ H [] [] Q I .nil h)
end
end L2
namespace HT
open PySem PyProof.Rows
def lexLt : List Int → List Int → Bool
  | [], [] => false
  | [], _ :: _ => true
  | _ :: _, [] => false
  | x :: xs, y :: ys => if x = y then lexLt xs ys else decide (x < y)
theorem lexLt_cons (x y : Int) (xs ys : List Int) : lexLt (x :: xs) (y :: ys) = if x = y then lexLt xs ys else decide (x < y) := rfl
theorem lexLt_nil_nil : lexLt [] [] = false := rfl
theorem lexLt_nil_cons (y : Int) (ys : List Int) : lexLt [] (y :: ys) = true := rfl
theorem lexLt_cons_nil (x : Int) (xs : List Int) : lexLt (x :: xs) [] = false := rfl
theorem eqAt_int (A : Around) (s : Shared) (a : Int) (t : Tok) (c : Int) (u : Tok) : ∃ e, SeqAt.EqAt A s (.int a t) (.int c u) e ∧ (e = true ↔ a = c) :=
  ⟨(a == c), SeqAt.EqAt.int_int a t c u, by simp⟩
theorem rcLt_int (A : Around) (s : Shared) (a : Int) (t : Tok) (c : Int) (u : Tok) (prog : Program) (w : World) (E : Value → Shared → Prop) (Q : Value → Shared → Prop) (h : Q (.bool (decide (a < c))) s) :
    wpAny (model prog w) A (richCompare .Lt (.int a t) (.int c u)) Q E s :=
  (PyProof.Rows.lt_int h : wpAny (model prog w) A (compareOp .Lt (.int a t) (.int c u)) Q E s)
section
open PySem.SeqAt
open PySem.AutoSeq1 (wpAny_loadPart')
open PySem.MeetsSeq PySem.MeetsSeq2 PySem.MeetsSeq3
theorem tuple_lt_ints (l b : Addr) (items items2 : Array Value) (n n2 : Nat) (dd dd2 : Option Addr) (sl sl2 : Array (Option Value)) (ns ms : List Int) (hi : IntsAre items.toList ns) (hj : IntsAre items2.toList ms) :
    Meets (Builtin.«tuple.__lt__» ⟨[.ref l, .ref b], []⟩)
      (fun _ R s => s.heap.get? l = some { cls := .type "tuple", dict := dd, data := .seq items n, slots := sl } ∧ s.heap.get? b = some { cls := .type "tuple", dict := dd2, data := .seq items2 n2, slots := sl2 } ∧
        R (.ok (.ret (.bool (lexLt ns ms)))) s) :=
  .of_wp fun prog w A R s h => by
    obtain ⟨hp, g, d, tk, os⟩ := s; obtain ⟨hl, hb, h⟩ := h
    have f2 := AutoSeq1.sub_tuple_tuple
    have z1 : items.size = ns.length := by rw [← hi.length]; simp
    have z2 : items2.size = ms.length := by rw [← hj.length]; simp
    wp_walk using wpAny_loadPart' hl, wpAny_loadPart' hb, wpAny_forIn_list _ (fun rest b s' => b.1 = none ∧ s' = ⟨hp, g, d, tk, os⟩ ∧ ∃ (vs ws : List Value) (ns' ms' : List Int), rest = vs.zip ws ∧
      IntsAre vs ns' ∧ IntsAre ws ms' ∧ ns'.length + items2.size = ms'.length + items.size ∧ R (.ok (.ret (.bool (lexLt ns' ms')))) ⟨hp, g, d, tk, os⟩) _
    case turn =>
      rintro ⟨y, x⟩ rest b s' ⟨hb', rfl, vs, ws, ns', ms', hz, hvi, hwi, hlen, hR⟩
      cases hvi with
      | nil => rw [List.zip_nil_left] at hz; cases hz
      | cons a t hvi' =>
        cases hwi with
        | nil => rw [List.zip_nil_right] at hz; cases hz
        | cons c u hwi' =>
          rw [List.zip_cons_cons] at hz
          injection hz with hyx hrest
          injection hyx with hy hx
          subst hy hx
          rw [lexLt_cons] at hR
          simp only [List.length_cons] at hlen
          obtain ⟨e, he, hiff⟩ := eqAt_int A.in1 ⟨hp, g, d, tk, os⟩ a t c u
          refine wpAny_bind (he prog w _ _ ?_)
          cases e with
          | true =>
            rw [if_pos (hiff.mp rfl)] at hR
            wp_walk
            exact ⟨rfl, rfl, _, _, _, _, hrest, hvi', hwi', by omega, hR⟩
          | false =>
            rw [if_neg (fun q => absurd (hiff.mpr q) Bool.false_ne_true)] at hR
            have hri := rcLt_int A.in1 ⟨hp, g, d, tk, os⟩ a t c u prog w
            wp_walk using hri
            exact ⟨_, rfl, by simpa using hR⟩
    case fin =>
      rintro ⟨b1, b2⟩ s' ⟨hb', rfl, vs, ws, ns', ms', hz, hvi, hwi, hlen, hR⟩
      simp only at hb'
      subst hb'
      have hv : lexLt ns' ms' = decide (items.size < items2.size) := by
        cases hvi with
        | nil =>
          cases hwi with
          | nil =>
            simp only [List.length_nil] at hlen
            rw [lexLt_nil_nil]
            exact (decide_eq_false (by omega)).symm
          | cons c u hw =>
            simp only [List.length_nil, List.length_cons] at hlen
            rw [lexLt_nil_cons]
            exact (decide_eq_true (by omega)).symm
        | cons a t hv =>
          cases hwi with
          | nil =>
            simp only [List.length_nil, List.length_cons] at hlen
            rw [lexLt_cons_nil]
            exact (decide_eq_false (by omega)).symm
          | cons c u hw =>
            rw [List.zip_cons_cons] at hz
            cases hz
      rw [hv] at hR
      wp_walk
      exact ⟨_, rfl, by simpa [Builtin.Tuple.tupleCompareSizes] using hR⟩
    case h =>
      exact ⟨rfl, rfl, items.toList, items2.toList, ns, ms, rfl, hi, hj, by omega, h⟩
end
section
variable {prog : Program} {w : World} {A : Around} {E : Value → Shared → Prop} {s : Shared}
theorem lt_tupInts {l b : Addr} {items items2 : Array Value} {ns ms : List Int} {Q : Value → Shared → Prop} (hl : IsTup s.heap l items) (hb : IsTup s.heap b items2) (hi : IntsAre items.toList ns) (hj : IntsAre items2.toList ms)
    (hu : A.units < cLine) (h : Q (.bool (lexLt ns ms)) s) : wpAny (model prog w) A (compareOp .Lt (.ref l) (.ref b)) Q E s := by
  obtain ⟨⟨cls, dd, data, sl⟩, ho, hc, n, hd⟩ := id hl
  obtain ⟨⟨cls2, dd2, data2, sl2⟩, ho2, hc2, n2, hd2⟩ := id hb
  simp only at hc hd hc2 hd2
  subst hc hd hc2 hd2
  exact richCompare_meets_room (op := .Lt) ⟨_, ho, rfl⟩ ⟨_, ho2, rfl⟩ PySem.F.slot_tuple_lt PySem.F.entry_tuple_lt (PySem.F.args_tuple_lt_2 _ _) (tuple_lt_ints l b items items2 n n2 dd dd2 sl sl2 ns ms hi hj)
    ⟨ho, ho2, show Value.bool (lexLt ns ms) ≠ Value.notImplemented ∧ Q (.bool (lexLt ns ms)) s from ⟨(fun x => nomatch x), h⟩⟩ hu
theorem cat_tup {t b : Addr} {vs ws : List Value} {Q : Value → Shared → Prop} (ht : IsTup s.heap t vs.toArray) (hb : IsTup s.heap b ws.toArray) (hv : vs ≠ [])
    (h1 : ws = [] → Q (.ref t) s) (h2 : ws ≠ [] → Q (.ref s.heap.objs.size) { s with heap := s.heap.push { cls := .type "tuple", data := .seq (vs ++ ws).toArray } })
    (hsz : vs.length + ws.length ≤ sizeLine) : wpAny (model prog w) A (binaryOp .Add (.ref t) (.ref b)) Q E s := by
  obtain ⟨⟨cls, dd, data, sl⟩, ho, hc, n, hd⟩ := id ht
  obtain ⟨⟨cls2, dd2, data2, sl2⟩, ho2, hc2, n2, hd2⟩ := id hb
  simp only at hc hd hc2 hd2
  subst hc hd hc2 hd2
  have e : vs.toArray ++ ws.toArray = (vs ++ ws).toArray := by simp
  by_cases hw : ws = []
  · exact concat_meets ⟨_, ho, rfl⟩ ⟨_, ho2, rfl⟩ noFill_tuple_add seq_tuple_add PySem.F.slot_tuple_add PySem.F.entry_tuple_add (PySem.F.args_tuple_add_2 _ _)
      (tuple_addW1 t b vs.toArray ws.toArray n n2 dd dd2 sl sl2 (by simpa using hv) (by simp [hw])) ⟨ho, ho2, h1 hw⟩
  · refine concat_meets ⟨_, ho, rfl⟩ ⟨_, ho2, rfl⟩ noFill_tuple_add seq_tuple_add PySem.F.slot_tuple_add PySem.F.entry_tuple_add (PySem.F.args_tuple_add_2 _ _)
      (tuple_addW2 t b vs.toArray ws.toArray n n2 dd dd2 sl sl2 (by simpa using hv) (by simpa using hw) (by rw [List.size_toArray, List.size_toArray]; exact hsz)) ⟨ho, ho2, ?_⟩
    rw [e]
    exact h2 hw
def sIx (n d : Nat) : Option Int → Nat
  | none => d
  | some v => if v < 0 then (v + (n : Int)).toNat else min v.toNat n
theorem sIx_none (n d : Nat) : sIx n d none = d := rfl
theorem sIx_nat (n d k : Nat) : sIx n d (some (k : Int)) = min k n := by
  show (if (k : Int) < 0 then ((k : Int) + (n : Int)).toNat else min (k : Int).toNat n) = min k n
  rw [if_neg (by omega), Int.toNat_natCast]
theorem sIx_le (n d : Nat) (hd : d ≤ n) (o : Option Int) : sIx n d o ≤ n := by
  cases o with
  | none => exact hd
  | some v =>
    show (if v < 0 then (v + (n : Int)).toNat else min v.toNat n) ≤ n
    by_cases hv : v < 0
    · rw [if_pos hv]; omega
    · rw [if_neg hv]; exact Nat.min_le_right _ _
theorem clip_eq (v : Int) (n d : Nat) : (if v < 0 then max (v + (n : Int)) 0 else min v (n : Int)) = ((sIx n d (some v) : Nat) : Int) := by
  show (if v < 0 then max (v + (n : Int)) 0 else min v (n : Int)) = (((if v < 0 then (v + (n : Int)).toNat else min v.toNat n) : Nat) : Int)
  by_cases hv : v < 0
  · simp only [if_pos hv]; omega
  · simp only [if_neg hv]; omega
theorem adjust_gen (lo hi : Option Int) (n : Nat) : Builtin.Slice.sliceAdjust lo hi 1 (n : Int) = (((sIx n 0 lo : Nat) : Int), ((sIx n n hi : Nat) : Int)) := by
  have h1 : ¬ ((1 : Int) < 0) := by omega
  unfold Builtin.Slice.sliceAdjust
  simp only [h1, if_false]
  refine Prod.ext ?_ ?_
  · cases lo with
    | none => rfl
    | some v => exact clip_eq v n 0
  · cases hi with
    | none => rfl
    | some v => exact clip_eq v n n
theorem places_gen (i j : Nat) : Builtin.Slice.slicePlaces (i : Int) (j : Int) 1 = j - i := by
  unfold Builtin.Slice.slicePlaces
  have h1 : (1 : Int) > 0 := by omega
  simp only [h1, if_true, Int.ediv_one]
  split <;> omega
theorem slicePart_ {v : Value} {o : Option Int} {Q : Option Int → Shared → Prop} (p : IsPart v o) (h : Q o s) : wpAny (model prog w) A (Builtin.Slice.slicePartIndex v) Q E s := by
  cases p with
  | none => exact slicePart_none h
  | int i t => exact slicePart_int h
theorem sliceApplied_gen {sl : Addr} {vl vu : Value} {lo hi : Option Int} {n : Nat} {Q : Int × Int × Nat → Shared → Prop} (hs : s.heap.IsSliceOf sl vl vu .none) (pl : IsPart vl lo) (pu : IsPart vu hi)
    (h : Q (((sIx n 0 lo : Nat) : Int), 1, sIx n n hi - sIx n 0 lo) s) : wpAny (model prog w) A (Builtin.Slice.sliceApplied (.ref sl) (pure (n : Int))) Q E s := by
  obtain ⟨os, hos, hcs, hds⟩ := id hs
  unfold Builtin.Slice.sliceApplied Builtin.Slice.sliceFields
  refine wpAny_bind (wpAny_bind (wpAny_field hos hds (x := vl) rfl (wpAny_bind (wpAny_field hos hds (x := vu) rfl (wpAny_bind (wpAny_field hos hds (x := .none) rfl (wpAny_pure ?_)))))))
  refine wpAny_bind (slicePart_none ?_)
  show wpAny _ _ (if ((1 : Int) == 0) = true then _ else _) _ _ s
  rw [if_neg (by decide)]
  refine wpAny_bind (slicePart_ pl (wpAny_bind (slicePart_ pu (wpAny_bind (wpAny_pure ?_)))))
  show wpAny _ _ (match Builtin.Slice.sliceAdjust lo hi 1 (n : Int) with | (lo, hi) => pure (lo, (1 : Int), Builtin.Slice.slicePlaces lo hi 1)) _ _ s
  rw [adjust_gen lo hi n]
  show wpAny _ _ (pure (((sIx n 0 lo : Nat) : Int), (1 : Int), Builtin.Slice.slicePlaces ((sIx n 0 lo : Nat) : Int) ((sIx n n hi : Nat) : Int) 1)) _ _ s
  rw [places_gen]
  exact wpAny_pure h
theorem pick_gen (xs : Array Value) (i k : Nat) : ((List.range k).filterMap fun (m : Nat) => xs[((i : Int) + (m : Int) * 1).toNat]?).toArray = ((xs.toList.drop i).take k).toArray := by
  have e : (fun (m : Nat) => xs[((i : Int) + (m : Int) * 1).toNat]?) = fun m => xs[i + m]? := by
    funext m
    have : ((i : Int) + (m : Int) * 1).toNat = i + m := by omega
    rw [this]
  rw [e]
  have := pick_run xs i k
  rw [List.filterMap_map] at this
  have e2 : ((fun x => xs[x]?) ∘ fun x => i + x) = fun m => xs[i + m]? := rfl
  rw [e2] at this
  rw [this]
theorem getItem_tuple_cut {t sl : Addr} {items : Array Value} {vl vu : Value} {lo hi : Option Int} {Q : Value → Shared → Prop} (ht : IsTup s.heap t items) (hs : s.heap.IsSliceOf sl vl vu .none) (pl : IsPart vl lo) (pu : IsPart vu hi)
    (hw : ¬ (sIx items.size 0 lo = 0 ∧ sIx items.size items.size hi = items.size))
    (h : Q (.ref s.heap.objs.size) { s with heap := s.heap.push { cls := .type "tuple", data := .seq ((items.toList.drop (sIx items.size 0 lo)).take (sIx items.size items.size hi - sIx items.size 0 lo)).toArray } })
    (hsz : items.size ≤ sizeLine) : wpAny (model prog w) A (getItem (.ref t) (.ref sl)) Q E s := by
  have htake : sizeOk (.seq ((items.toList.drop (sIx items.size 0 lo)).take (sIx items.size items.size hi - sIx items.size 0 lo)).toArray) := by
    show ((items.toList.drop (sIx items.size 0 lo)).take (sIx items.size items.size hi - sIx items.size 0 lo)).toArray.size ≤ sizeLine
    rw [List.size_toArray, List.length_take, List.length_drop, Array.length_toList]
    omega
  have hj : sIx items.size items.size hi ≤ items.size := sIx_le _ _ (Nat.le_refl _) hi
  obtain ⟨os, hos, hcs, hds⟩ := id hs
  have hTs : s.TypeIs (.ref sl) "slice" := ⟨os, hos, hcs⟩
  unfold getItem
  try with_reducible refine wpAny_holding ?_
  first | refine wpAny_bind (wpAny_pure ?_) | skip
  refine wpAny_bind (wpAny_sequenceKey ht.typeIs (by decide) ?_)
  refine wpAny_bind (wpAny_callSpecial?_slot (name := Str.ofString "__getitem__") ht.typeIs PyProof.Rows.slot_tuple_getitem
    (wpAny_call_entry PyProof.Rows.slot_tuple_getitem ht.typeIs entry_tuple_getitem ?_ (args_tuple_getitem _ _)))
  show wpAny _ _ (Builtin.Tuple.tupleItemsOf (.ref t) >>= _) _ _ s
  refine wpAny_bind (tupleItemsOf_ ht ?_)
  refine wpAny_bind (wpAny_typeOf hTs ?_)
  rw [if_pos (by decide)]
  refine wpAny_bind (sliceApplied_gen hs pl pu ?_)
  have hno : ¬ ((((sIx items.size 0 lo : Nat) : Int) == 0 && (1 : Int) == 1 && (sIx items.size items.size hi - sIx items.size 0 lo) == items.size) = true) := by
    intro q
    rw [Bool.and_eq_true, Bool.and_eq_true] at q
    have q1 : ((sIx items.size 0 lo : Nat) : Int) = 0 := eq_of_beq q.1.1
    have q2 : sIx items.size items.size hi - sIx items.size 0 lo = items.size := eq_of_beq q.2
    exact hw ⟨by omega, by omega⟩
  show wpAny _ _ (if (((sIx items.size 0 lo : Nat) : Int) == 0 && (1 : Int) == 1 && (sIx items.size items.size hi - sIx items.size 0 lo) == items.size) = true then _ else _) _ _ s
  rw [if_neg hno, pick_gen]
  first
    | exact wpAny_bind (m := Builtin.Tuple.tupleExact _) (wpAny_newObj_type (wpAny_pure ⟨_, rfl, wpAny_pure h⟩) htake)
    | exact wpAny_bind (m := Builtin.Tuple.tupleExact _) (wpAny_newObj_type (wpAny_bind (wpAny_pure (wpAny_pure ⟨_, rfl, wpAny_pure h⟩))) htake)
    | exact wpAny_bind (wpAny_bind (m := Builtin.Tuple.tupleExact _) (wpAny_newObj_type (wpAny_pure (wpAny_pure ⟨_, rfl, wpAny_pure h⟩)) htake))
    | exact wpAny_bind (wpAny_bind (m := Builtin.Tuple.tupleExact _) (wpAny_newObj_type (wpAny_pure ⟨_, rfl, wpAny_pure h⟩) htake))
end
end HT
namespace L2
open PySem PySem.Spec PyProof.Rows
abbrev TO := St → Hp → (Option Int → Hp → Prop) → Prop
def PO (X : Cx) (e : Option Expr) (t : TO) : Prop :=
  ∀ (pins : List (Addr × Obj)) (s : Shared) (σ : St) (H : Hp) (Q : Option Int → Hp → Prop), Inv X pins σ H s → t σ H Q →
    wpAny (model X.prog X.w) X.A (evalPart e X.env) (fun u s' => ∃ o H', Inv X pins σ H' s' ∧ IsPart u o ∧ Q o H') X.xe s
def tNoPart : TO := fun _ H Q => Q none H
def tPart (t : TE) : TO := fun σ H Q => t σ H fun x H1 => ∃ i, x = .int i ∧ Q (some i) H1
theorem intsAre_of {ns : List Int} : ∀ {us : List Value}, Vals (ns.map V.int) us → IntsAre us ns := by
  induction ns with
  | nil => intro us r; rw [List.map_nil] at r; cases r; exact .nil
  | cons n ns ih =>
    intro us r
    rw [List.map_cons] at r
    cases r with
    | cons r1 r2 =>
      obtain ⟨t, e⟩ := r1
      subst e
      exact .cons n t (ih r2)
section
variable {X : Cx} {e : Expr} {te : TE} {lo hi : Option Expr} {tl th : TO} {pos p2 : Pos}
theorem po_none : PO X none tNoPart := by
  intro pins s σ H Q I h
  rw [evalPart_none]
  exact wpAny_pure ⟨none, H, I, .none, h⟩
theorem po_some (h : PE X e te) : PO X (some e) (tPart te) := by
  intro pins s σ H Q I hw
  rw [evalPart_some]
  refine thn (h pins s σ H _ I hw) fun u s1 ⟨x, H1, I1, r1, q1⟩ => ?_
  obtain ⟨i, rfl, q⟩ := q1
  obtain ⟨t, rfl⟩ := r1
  exact ⟨some i, H1, I1, .int i t, q⟩
def SlR (X : Cx) (r : V → Option Int → Option Int → Hp → VK → Prop) : Prop :=
  ∀ (pins : List (Addr × Obj)) (s : Shared) (σ : St) (H : Hp) (x : V) (v vl vu : Value) (lo hi : Option Int) (sl : Addr) (Q : VK), Inv X pins σ H s → RelV x v → s.heap.IsSliceOf sl vl vu .none → IsPart vl lo → IsPart vu hi → r x lo hi H Q →
    ∃ T id, typeLookup (.type T) "__getitem__" = pure (some (.builtin id)) ∧ s.TypeIs v T ∧ wpAny (model X.prog X.w) X.A (getItem v (.ref sl)) (EP X pins σ Q) X.xe s
theorem SlR.or {r r' : V → Option Int → Option Int → Hp → VK → Prop} (h : SlR X r) (h' : SlR X r') : SlR X (fun x lo hi H Q => r x lo hi H Q ∨ r' x lo hi H Q) := by
  intro pins s σ H x v vl vu lo hi sl Q I rx hs pl pu q
  rcases q with q | q
  · exact h pins s σ H x v vl vu lo hi sl Q I rx hs pl pu q
  · exact h' pins s σ H x v vl vu lo hi sl Q I rx hs pl pu q
def tSl (r : V → Option Int → Option Int → Hp → VK → Prop) (te : TE) (tl th : TO) : TE := fun σ H Q => te σ H fun x H1 => tl σ H1 fun l H2 => th σ H2 fun u H3 => r x l u H3 Q
theorem pe_slice {r : V → Option Int → Option Int → Hp → VK → Prop} (hr : SlR X r) (he : PE X e te) (hl : PO X lo tl) (hu : PO X hi th) : PE X (.Subscript e (.Slice lo hi none p2) pos) (tSl r te tl th) := by
  intro pins s σ H Q I h
  refine Subscript_ (thn (he pins s σ H _ I h) fun v s1 ⟨x, H1, I1, r1, q1⟩ => ?_)
  refine wpAny_Slice (thn (hl pins s1 σ H1 _ I1 q1) fun vl s2 ⟨l, H2, I2, pl, q2⟩ => thn (hu pins s2 σ H2 _ I2 q2) fun vu s3 ⟨u, H3, I3, pu, q3⟩ => ?_)
  rw [evalPart_none]
  refine wpAny_pure ?_
  have I4 : Inv X pins σ H3 { s3 with heap := s3.heap.push { cls := .type "slice", data := .fields #[vl, vu, .none] } } := I3.kept (t' := s3.toks) fun b ob q => Heap.get?_push_of_some _ q
  obtain ⟨T, id, hT, ht, hg⟩ := hr pins { s3 with heap := s3.heap.push { cls := .type "slice", data := .fields #[vl, vu, .none] } } σ H3 x v vl vu l u s3.heap.objs.size Q I4 r1 (Heap.IsSliceOf.new ..) pl pu q3
  show wpAny (model X.prog X.w) X.A (subscriptTail e (.Slice lo hi none p2) v (.ref s3.heap.objs.size)) (EP X pins σ Q) X.xe { s3 with heap := s3.heap.push { cls := .type "slice", data := .fields #[vl, vu, .none] } }
  exact tail_any (ops := [.ref s3.heap.objs.size, v]) ht hT hg (by with_unfolding_all rfl)
def cutV (xs : List V) (lo hi : Option Int) : List V := (xs.drop (HT.sIx xs.length 0 lo)).take (HT.sIx xs.length xs.length hi - HT.sIx xs.length 0 lo)
theorem cutV_length (xs : List V) (lo hi : Option Int) : (cutV xs lo hi).length ≤ xs.length := by
  unfold cutV
  rw [List.length_take, List.length_drop]
  omega
def rSlT (K : PySem.W.Frag) : V → Option Int → Option Int → Hp → VK → Prop := fun x lo hi H Q => ∃ a xs, x = .ref a ∧ SqT K H a xs ∧
  ¬ (HT.sIx xs.length 0 lo = 0 ∧ HT.sIx xs.length xs.length hi = xs.length) ∧ ∀ p, H p = none → Q (.ref p) (upd H p (.tup (cutV xs lo hi)))
theorem sl_tup : SlR X (rSlT X.K) := by
  intro pins s σ H x v vl vu lo hi sl Q I rx hs pl pu h
  obtain ⟨a, xs, rfl, hx, hw, q⟩ := h
  cases rx
  obtain ⟨its, r, ht, hz⟩ := I.tuple hx
  have hlen : its.toArray.size = xs.length := by rw [List.size_toArray]; exact r.length.symm
  refine ⟨"tuple", _, PyProof.Rows.slot_tuple_getitem.lookup, ht.typeIs, ?_⟩
  refine HT.getItem_tuple_cut ht hs pl pu (by rw [hlen]; exact hw) ?_ (by rw [hlen]; exact hz)
  rw [hlen]
  refine ⟨.ref s.heap.objs.size, _, I.laid (t' := s.toks) (o := .tup (cutV xs lo hi)) (fun b ob q => Heap.get?_push_of_some _ q) (Nat.le_refl _) ?_, rfl, q _ (I.hok.fresh (Nat.le_refl _))⟩
  exact ⟨Nat.le_trans (cutV_length xs lo hi) hz, _, (r.drop (HT.sIx xs.length 0 lo)).take (HT.sIx xs.length xs.length hi - HT.sIx xs.length 0 lo), IsTup.new _ _⟩
def rLtT (K : PySem.W.Frag) : R2 := fun x y H Q => ∃ a b ns ms, x = .ref a ∧ y = .ref b ∧ SqT K H a (ns.map V.int) ∧ SqT K H b (ms.map V.int) ∧ Q (.bl (HT.lexLt ns ms)) H
theorem op_ltT (hu : X.A.units < cLine) : OpR X (compareOp .Lt) (rLtT X.K) := by
  intro pins s σ H x y v u Q I rx ry h
  obtain ⟨a, b, ns, ms, rfl, rfl, ha, hb, q⟩ := h
  cases rx
  cases ry
  obtain ⟨its, r1, p1, _⟩ := I.tuple ha
  obtain ⟨its2, r2, p2, _⟩ := I.tuple hb
  have i1 : IntsAre its.toArray.toList ns := intsAre_of r1
  have i2 : IntsAre its2.toArray.toList ms := intsAre_of r2
  exact HT.lt_tupInts p1 p2 i1 i2 hu ⟨.bl (HT.lexLt ns ms), H, I, rfl, q⟩
def rCatT (K : PySem.W.Frag) : R2 := fun x y H Q => ∃ a b xs ys, x = .ref a ∧ y = .ref b ∧ SqT K H a xs ∧ SqT K H b ys ∧ xs ≠ [] ∧ xs.length + ys.length ≤ sizeLine ∧
  (ys = [] → Q (.ref a) H) ∧ (ys ≠ [] → ∀ p, H p = none → Q (.ref p) (upd H p (.tup (xs ++ ys))))
theorem Vals.nil_iff {xs : List V} {us : List Value} (r : Vals xs us) : us = [] ↔ xs = [] := by
  cases r with
  | nil => simp
  | cons _ _ => simp
theorem op_catT : OpR X (binaryOp .Add) (rCatT X.K) := by
  intro pins s σ H x y v u Q I rx ry h
  obtain ⟨a, b, xs, ys, rfl, rfl, ha, hb, hx, hz, q1, q2⟩ := h
  cases rx
  cases ry
  obtain ⟨its, r1, p1, _⟩ := I.tuple ha
  obtain ⟨its2, r2, p2, _⟩ := I.tuple hb
  refine HT.cat_tup p1 p2 (fun z => hx (r1.nil_iff.mp z)) (fun z => ⟨.ref a, H, I, rfl, q1 (r2.nil_iff.mp z)⟩) (fun z => ?_) (by rw [← r1.length, ← r2.length]; exact hz)
  refine ⟨.ref s.heap.objs.size, _, I.laid (t' := s.toks) (o := .tup (xs ++ ys)) (fun b ob q => Heap.get?_push_of_some _ q) (Nat.le_refl _) ?_, rfl, q2 (fun w => z (r2.nil_iff.mpr w)) _ (I.hok.fresh (Nat.le_refl _))⟩
  exact ⟨by rw [List.length_append]; exact hz, _, r1.append r2, IsTup.new _ _⟩
theorem call_tupleT : CallR X (.type "tuple") (fun xs H Q => ∃ a ys, xs = [.ref a] ∧ SqT X.K H a ys ∧ Q (.ref a) H) := by
  intro pins s σ H xs us Q I r h
  obtain ⟨a, ys, rfl, ha, q⟩ := h
  obtain ⟨u, rfl, ru⟩ := vals1 r
  cases ru
  obtain ⟨its, _, p1, _⟩ := I.tuple ha
  exact call_tuple_same (items := its.toArray) p1 ⟨.ref a, H, I, rfl, q⟩
end
end L2
namespace L2
open PySem PySem.Spec PyProof.Rows
def ixN (n : Nat) (i : Int) : Option Nat := if 0 ≤ i then (if i < n then some i.toNat else none) else if -(n : Int) ≤ i then some (i + n).toNat else none
def atI {α : Type} (xs : List α) (i : Int) : Option α := (ixN xs.length i).bind fun j => xs[j]?
theorem ixN_seq {n : Nat} {i : Int} {j : Nat} (h : ixN n i = some j) : seqIndex? i n = some j ∧ j < n ∧ -(n : Int) ≤ i ∧ i < n := by
  unfold ixN at h
  by_cases h0 : 0 ≤ i
  · rw [if_pos h0] at h
    by_cases h1 : i < n
    · rw [if_pos h1] at h
      have e : i.toNat = j := Option.some.inj h
      exact ⟨by rw [seqIndex_of h0 h1, e], by omega, by omega, h1⟩
    · rw [if_neg h1] at h; cases h
  · rw [if_neg h0] at h
    by_cases h1 : -(n : Int) ≤ i
    · rw [if_pos h1] at h
      have e : (i + n).toNat = j := Option.some.inj h
      exact ⟨by rw [seqIndex_neg (by omega) h1, e], by omega, h1, by omega⟩
    · rw [if_neg h1] at h; cases h
theorem atI_get {α : Type} {xs : List α} {i : Int} {v : α} (h : atI xs i = some v) : ∃ j, seqIndex? i xs.length = some j ∧ xs[j]? = some v ∧ j < xs.length ∧ -(xs.length : Int) ≤ i ∧ i < xs.length := by
  unfold atI at h
  cases e : ixN xs.length i with
  | none => rw [e] at h; cases h
  | some j =>
    rw [e] at h
    obtain ⟨h1, h2, h3, h4⟩ := ixN_seq e
    exact ⟨j, h1, h, h2, h3, h4⟩
theorem atI_nat {α : Type} {xs : List α} {j : Nat} {v : α} (h : xs[j]? = some v) : atI xs (j : Int) = some v := by
  have hj : j < xs.length := (List.getElem?_eq_some_iff.mp h).1
  have e : ixN xs.length (j : Int) = some j := by
    unfold ixN
    rw [if_pos (by omega), if_pos (by omega)]; simp
  unfold atI; rw [e]; exact h
theorem atI_last {α : Type} (xs : List α) (v : α) : atI (xs ++ [v]) (-1) = some v := by
  have hl : (xs ++ [v]).length = xs.length + 1 := by simp
  have e : ixN (xs ++ [v]).length (-1) = some xs.length := by
    unfold ixN
    rw [hl, if_neg (by decide), if_pos (by omega)]
    congr 1
    omega
  unfold atI
  rw [e]
  show (xs ++ [v])[xs.length]? = some v
  simp
def PlainIx (b : Expr) : Prop := ∀ o i, subscripted b false o i = operate [o, i] (getItem o i)
def IxR (X : Cx) (r : R2) : Prop :=
  ∀ (value slice : Expr) (pins : List (Addr × Obj)) (s : Shared) (σ : St) (H : Hp) (x y : V) (v u : Value) (Q : VK), Inv X pins σ H s → RelV x v → RelV y u → r x y H Q →
    subscripted slice false v u = operate [v, u] (getItem v u) → wpAny (model X.prog X.w) X.A (subscriptTail value slice v u) (EP X pins σ Q) X.xe s
def MtR (X : Cx) (id : String) (r : V → List V → Hp → VK → Prop) : Prop :=
  ∀ (pins : List (Addr × Obj)) (s : Shared) (σ : St) (H : Hp) (x : V) (xs : List V) (v : Value) (us : List Value) (Q : VK), Inv X pins σ H s → RelV x v → Vals xs us → r x xs H Q →
    wpAny (model X.prog X.w) X.A (call (.builtin id) (v :: us)) (EP X pins σ Q) X.xe s
section
variable {X : Cx} {a b : Expr} {ta tb : TE} {pos : Pos}
theorem IxR.or {r r' : R2} (h : IxR X r) (h' : IxR X r') : IxR X (fun x y H Q => r x y H Q ∨ r' x y H Q) := by
  intro value slice pins s σ H x y v u Q I rx ry q hs
  rcases q with q | q
  · exact h value slice pins s σ H x y v u Q I rx ry q hs
  · exact h' value slice pins s σ H x y v u Q I rx ry q hs
theorem MtR.or {id : String} {r r' : V → List V → Hp → VK → Prop} (h : MtR X id r) (h' : MtR X id r') : MtR X id (fun x xs H Q => r x xs H Q ∨ r' x xs H Q) := by
  intro pins s σ H x xs v us Q I rx rs q
  rcases q with q | q
  · exact h pins s σ H x xs v us Q I rx rs q
  · exact h' pins s σ H x xs v us Q I rx rs q
theorem pe_ix {r : R2} (hr : IxR X r) (ha : PE X a ta) (hb : PE X b tb) (hs : PlainIx b) : PE X (.Subscript a b pos) (tOp r ta tb) := by
  intro pins s σ H Q I h
  exact Subscript_ (binT ha hb I h fun v u s2 x y H2 I2 rx ry q => hr a b pins s2 σ H2 x y v u Q I2 rx ry q (hs _ _))
def rIxL (K : PySem.W.Frag) : R2 := fun x y H Q => ∃ p xs i v, x = .ref p ∧ y = .int i ∧ SqL K H p xs ∧ atI xs i = some v ∧ Q v H
def rIxT (K : PySem.W.Frag) : R2 := fun x y H Q => ∃ p xs i v, x = .ref p ∧ y = .int i ∧ SqT K H p xs ∧ atI xs i = some v ∧ Q v H
def rIxS : R2 := fun x y H Q => ∃ z i c, x = .str z ∧ y = .int i ∧ z.length ≤ sizeLine ∧ atI z.cps.toList i = some c ∧ Q (.str ⟨#[c]⟩) H
theorem ix_list : IxR X (rIxL X.K) := by
  intro value slice pins s σ H x y v u Q I rx ry h hs
  obtain ⟨p, xs, i, z, rfl, rfl, hq, he, q⟩ := h
  cases rx
  obtain ⟨t, rfl⟩ := ry
  obtain ⟨its, r, pl, hz⟩ := I.list hq
  obtain ⟨j, h1, h2, h3, h4, h5⟩ := atI_get he
  obtain ⟨w, ew, rw'⟩ := r.get h2
  have hl := r.length
  have hn := line63
  have fin : EP X pins σ Q w s := ⟨z, H, I, rw', q⟩
  by_cases h0 : 0 ≤ i
  · have hj : i.toNat = j := by
      rw [seqIndex_of h0 h5] at h1
      exact Option.some.inj h1
    exact item_listR pl.isList h0 (by omega) (by rw [hj]; simpa using ew) fin hs
  · have hj : (i + (its.toArray.size : Int)).toNat = j := by
      rw [seqIndex_neg (by omega) h4] at h1
      rw [List.size_toArray, ← hl]
      exact Option.some.inj h1
    exact subscriptTail_builtinR (x := w) pl.isList.typeIs slot_list_getitem.lookup
      (wpAny_getItem_list_neg (Q := fun r s' => r = w ∧ EP X pins σ Q r s') pl.isList (by omega) (by rw [List.size_toArray] <;> omega) (by omega) (by rw [hj]; simpa using ew) ⟨rfl, fin⟩) hs
theorem ix_tup : IxR X (rIxT X.K) := by
  intro value slice pins s σ H x y v u Q I rx ry h hs
  obtain ⟨p, xs, i, z, rfl, rfl, hq, he, q⟩ := h
  cases rx
  obtain ⟨t, rfl⟩ := ry
  obtain ⟨its, r, pl, hz⟩ := I.tuple hq
  obtain ⟨j, h1, h2, h3, h4, h5⟩ := atI_get he
  obtain ⟨w, ew, rw'⟩ := r.get h2
  have hl := r.length
  have hn := line63
  have fin : EP X pins σ Q w s := ⟨z, H, I, rw', q⟩
  exact subscriptTail_builtinR (x := w) pl.typeIs slot_tuple_getitem.lookup
    (getItem_tuple (j := j) (Q := fun r s' => r = w ∧ EP X pins σ Q r s') pl (by omega) (by omega) (by rw [List.size_toArray, ← hl]; exact h1) (by simpa using ew) ⟨rfl, fin⟩) hs
theorem ix_str : IxR X rIxS := by
  intro value slice pins s σ H x y v u Q I rx ry h hs
  obtain ⟨z, i, c, rfl, rfl, hz, he, q⟩ := h
  obtain ⟨t, rfl⟩ := rx
  obtain ⟨t', rfl⟩ := ry
  obtain ⟨j, h1, h2, h3, h4, h5⟩ := atI_get he
  have hl : z.cps.toList.length = z.length := by simp [Str.length]
  rw [hl] at h1 h4 h5
  have hn := line63
  exact tail_any (typeIs_str s z t) slot_str_getitem.lookup (getItem_str (c := c) (by
    have e1 : decide (i < -(2 ^ 63 : Int)) = false := decide_eq_false (by omega)
    have e2 : decide (i ≥ 2 ^ 63) = false := decide_eq_false (by omega)
    rw [e1, e2, Bool.or_false]) (by rw [h1]; simpa using h2) ⟨.str ⟨#[c]⟩, H, I.tok _, ⟨_, rfl⟩, q⟩) hs
def rIx (K : PySem.W.Frag) : R2 := fun x y H Q => rIxL K x y H Q ∨ rIxT K x y H Q ∨ rIxS x y H Q
theorem ix_seq : IxR X (rIx X.K) := ix_list.or (ix_tup.or ix_str)
theorem mapSeq_set (its : List Value) (n j : Nat) (u : Value) : Obj.mapSeq (·.setIfInBounds j u) { cls := .type "list", data := .seq its.toArray n } = { cls := .type "list", data := .seq (its.set j u).toArray n } := by
  simp [Obj.mapSeq]
theorem Inv.lst {pins : List (Addr × Obj)} {σ : St} {H : Hp} {s : Shared} {p : Addr} {xs : List V} (I : Inv X pins σ H s) (h : H p = some (.lst xs)) :
    ∃ (its : List Value) (n : Nat), Vals xs its ∧ s.heap.get? p = some { cls := .type "list", data := .seq its.toArray n } ∧ xs.length ≤ sizeLine := by
  obtain ⟨z, its, n, r, e⟩ := I.hok p _ h
  exact ⟨its, n, r, e, z⟩
theorem Inv.lstUpd {pins : List (Addr × Obj)} {σ : St} {H : Hp} {s : Shared} {p : Addr} {xs ys : List V} {its its' : List Value} {n n' : Nat} {f : Obj → Obj} (I : Inv X pins σ H s) (h : H p = some (.lst xs))
    (ho : s.heap.get? p = some { cls := .type "list", data := .seq its.toArray n }) (hf : f { cls := .type "list", data := .seq its.toArray n } = { cls := .type "list", data := .seq its'.toArray n' }) (r : Vals ys its') (hz : ys.length ≤ sizeLine) (t : Nat) :
    Inv X pins σ (upd H p (.lst ys)) { s with heap := s.heap.update p f, toks := t } := by
  have e : (s.heap.update p f).get? p = some { cls := .type "list", data := .seq its'.toArray n' } := by
    rw [Heap.get?_update_self f ho (by rw [hf] <;> rfl), hf]
  refine I.write (x := p) (e := p) (by rw [h]; trivial) (.inl rfl) (fun b u hb q => (Heap.get?_update_other _ _ (Ne.symm hb)).trans q) ⟨_, e⟩ ?_
  exact ⟨hz, its', n', r, e⟩
def rSetL : V → V → V → Hp → (Hp → Prop) → Prop := fun o i v H Q => ∃ p xs k j, o = .ref p ∧ i = .int k ∧ H p = some (.lst xs) ∧ ixN xs.length k = some j ∧ Q (upd H p (.lst (xs.set j v)))
theorem set_list : PSet X rSetL := by
  intro pins s σ H o i v ov iv u Q I ro ri rv h
  obtain ⟨p, xs, k, j, rfl, rfl, hp, hj, q⟩ := h
  cases ro
  obtain ⟨t, rfl⟩ := ri
  obtain ⟨its, n, r, ho, hz⟩ := I.lst hp
  obtain ⟨h1, h2, h3, h4⟩ := ixN_seq hj
  have hl := r.length
  have hn := line63
  have I' : Inv X pins σ (upd H p (.lst (xs.set j v))) { s with heap := s.heap.update p (Obj.mapSeq (·.setIfInBounds j u)) } :=
    I.lstUpd hp ho (mapSeq_set its n j u) (r.set rv j) (by rw [List.length_set]; exact hz) s.toks
  by_cases h0 : 0 ≤ k
  · have hk : k.toNat = j := by
      rw [seqIndex_of h0 h4] at h1
      exact Option.some.inj h1
    exact PySem.W.ki_setAt ho h0 (by omega) (by rw [List.size_toArray, ← hl]; exact h4) (by rw [hk]; exact ⟨_, I', q⟩)
  · have hk : (k + (its.toArray.size : Int)).toNat = j := by
      rw [seqIndex_neg (by omega) h3] at h1
      rw [List.size_toArray, ← hl]
      exact Option.some.inj h1
    exact PySem.W.ki_setBack ho (by omega) (by rw [List.size_toArray, ← hl]; exact h3) (by omega) (by rw [hk]; exact ⟨_, I', q⟩)
theorem slice_bounds (lo hi : Option Int) (n : Nat) : (sliceBounds lo hi none n).1 = ((HT.sIx n 0 lo : Nat) : Int) ∧ (sliceBounds lo hi none n).2.1 = ((HT.sIx n n hi : Nat) : Int) ∧ (sliceBounds lo hi none n).2.2 = 1 := by
  refine ⟨?_, ?_, rfl⟩
  · cases lo with
    | none => simp [sliceBounds, HT.sIx]
    | some i =>
      simp only [sliceBounds, HT.sIx, Option.getD_none, show (1 : Int) > 0 by decide, if_true]
      by_cases h : i < 0
      · simp only [h, if_true] <;> omega
      · simp only [h, if_false] <;> omega
  · cases hi with
    | none => simp [sliceBounds, HT.sIx]
    | some i =>
      simp only [sliceBounds, HT.sIx, Option.getD_none, show (1 : Int) > 0 by decide, if_true]
      by_cases h : i < 0
      · simp only [h, if_true] <;> omega
      · simp only [h, if_false] <;> omega
theorem slicePick_cut (its : List Value) (lo hi : Option Int) : slicePick its.toArray lo hi none = ((its.drop (HT.sIx its.length 0 lo)).take (HT.sIx its.length its.length hi - HT.sIx its.length 0 lo)).toArray := by
  obtain ⟨h1, h2, h3⟩ := slice_bounds lo hi its.toArray.size
  unfold slicePick
  rw [h1, h2, h3]
  simp only [sliceRange_one, pick_run, List.size_toArray] <;> rfl
def rSlL (K : PySem.W.Frag) : V → Option Int → Option Int → Hp → VK → Prop := fun x lo hi H Q => ∃ a xs, x = .ref a ∧ SqL K H a xs ∧ ∀ p, H p = none → Q (.ref p) (upd H p (.lst (cutV xs lo hi)))
theorem sl_list : SlR X (rSlL X.K) := by
  intro pins s σ H x v vl vu lo hi sl Q I rx hs pl pu h
  obtain ⟨a, xs, rfl, hx, q⟩ := h
  cases rx
  obtain ⟨its, r, ht, hz⟩ := I.list hx
  have hlen := r.length
  refine ⟨"list", _, slot_list_getitem.lookup, ht.isList.typeIs, ?_⟩
  refine wpAny_getItem_list_slice ht.isList hs pl pu .none (by simp) ?_ (by rw [List.size_toArray] <;> omega)
  rw [slicePick_cut, ← hlen]
  refine ⟨.ref s.heap.objs.size, _, I.laid (t' := s.toks) (o := .lst (cutV xs lo hi)) (fun b ob q => Heap.get?_push_of_some _ q) (Nat.le_refl _) ?_, rfl, q _ (I.hok.fresh (Nat.le_refl _))⟩
  exact ⟨Nat.le_trans (cutV_length xs lo hi) hz, _, 0, (r.drop (HT.sIx xs.length 0 lo)).take (HT.sIx xs.length xs.length hi - HT.sIx xs.length 0 lo), Heap.get?_push_size _ rfl⟩
def flatV : V → Bool
  | .non => true
  | .bl _ => true
  | .int _ => true
  | .str _ => true
  | _ => false
def eqV : V → V → Bool
  | .non, .non => true
  | .bl a, .bl b => a == b
  | .bl a, .int b => (if a then 1 else 0) == b
  | .int a, .bl b => a == (if b then 1 else 0)
  | .int a, .int b => a == b
  | .str a, .str b => a == b
  | _, _ => false
theorem eqAt_V {A : Around} {s : Shared} {y x : V} {u v : Value} (ry : RelV y u) (rx : RelV x v) (fy : flatV y = true) (fx : flatV x = true) : SeqAt.EqAt A s u v (eqV y x) := by
  cases y with
  | non =>
    cases ry
    cases x with
    | non => cases rx; exact SeqAt.EqAt.same _
    | bl b => cases rx; exact SeqAt.EqAt.none_bool b
    | int b => obtain ⟨t, rfl⟩ := rx; exact SeqAt.EqAt.none_int b t
    | str b => obtain ⟨t, rfl⟩ := rx; exact SeqAt.EqAt.none_str b t
    | _ => exact absurd (show false = true from fx) Bool.false_ne_true
  | bl a =>
    cases ry
    cases x with
    | non => cases rx; exact SeqAt.EqAt.bool_none a
    | bl b => cases rx; exact SeqAt.EqAt.bool_bool a b
    | int b => obtain ⟨t, rfl⟩ := rx; exact SeqAt.EqAt.bool_int a b t
    | str b => obtain ⟨t, rfl⟩ := rx; exact SeqAt.EqAt.bool_str a b t
    | _ => exact absurd (show false = true from fx) Bool.false_ne_true
  | int a =>
    obtain ⟨t', rfl⟩ := ry
    cases x with
    | non => cases rx; exact SeqAt.EqAt.int_none a t'
    | bl b => cases rx; exact SeqAt.EqAt.int_bool a t' b
    | int b => obtain ⟨t, rfl⟩ := rx; exact SeqAt.EqAt.int_int a t' b t
    | str b => obtain ⟨t, rfl⟩ := rx; exact SeqAt.EqAt.int_str a t' b t
    | _ => exact absurd (show false = true from fx) Bool.false_ne_true
  | str a =>
    obtain ⟨t', rfl⟩ := ry
    cases x with
    | non => cases rx; exact SeqAt.EqAt.str_none a t'
    | bl b => cases rx; exact SeqAt.EqAt.str_bool a t' b
    | int b => obtain ⟨t, rfl⟩ := rx; exact SeqAt.EqAt.str_int a t' b t
    | str b => obtain ⟨t, rfl⟩ := rx; exact SeqAt.EqAt.str_str a t' b t
    | _ => exact absurd (show false = true from fx) Bool.false_ne_true
  | _ => exact absurd (show false = true from fy) Bool.false_ne_true
def eqU (x : V) (u : Value) : Bool := match u with
  | .none => eqV .non x
  | .bool b => eqV (.bl b) x
  | .int i _ => eqV (.int i) x
  | .str z _ => eqV (.str z) x
  | _ => false
theorem eqU_of {x y : V} {u : Value} (r : RelV y u) (f : flatV y = true) : eqU x u = eqV y x := by
  cases y with
  | non => cases r; rfl
  | bl b => cases r; rfl
  | int i => obtain ⟨t, rfl⟩ := r; rfl
  | str z => obtain ⟨t, rfl⟩ := r; rfl
  | _ => exact absurd (show false = true from f) Bool.false_ne_true
theorem any_eqU {x : V} : ∀ {xs : List V} {us : List Value}, Vals xs us → xs.all flatV = true → us.any (eqU x) = xs.any fun y => eqV y x
  | _, _, .nil, _ => rfl
  | y :: xs, u :: us, .cons r t, f => by
    rw [List.all_cons, Bool.and_eq_true] at f
    rw [List.any_cons, List.any_cons, eqU_of r f.1, any_eqU t f.2]
theorem mem_eqAt {A : Around} {s : Shared} {x : V} {v : Value} (rx : RelV x v) (fx : flatV x = true) : ∀ {xs : List V} {us : List Value}, Vals xs us → xs.all flatV = true → ∀ u ∈ us, SeqAt.EqAt A s u v (eqU x u)
  | _, _, .nil, _ => fun u hu => by cases hu
  | y :: xs, u :: us, .cons r t, f => fun u' hu => by
    rw [List.all_cons, Bool.and_eq_true] at f
    rcases List.mem_cons.mp hu with rfl | hu
    · rw [eqU_of r f.1]; exact eqAt_V r rx f.1 fx
    · exact mem_eqAt rx fx t f.2 u' hu
def inV (x : V) (xs : List V) : Bool := xs.any fun y => eqV y x
def rIn (K : PySem.W.Frag) (neg : Bool) : R2 := fun x y H Q => ∃ p xs, y = .ref p ∧ (SqL K H p xs ∨ SqT K H p xs) ∧ flatV x = true ∧ xs.all flatV = true ∧ Q (.bl (if neg then !inV x xs else inV x xs)) H
theorem op_in_seq : OpR X (compareOp .In) (rIn X.K false) := by
  intro pins s σ H x y v u Q I rx ry h
  obtain ⟨p, xs, rfl, hq, fx, fs, q⟩ := h
  cases ry
  rcases hq with hq | hq
  · obtain ⟨its, r, pl, hz⟩ := I.list hq
    refine SeqAt.in_listAt (eqU x) pl.isList (fun w hw => mem_eqAt rx fx r fs w (by simpa using hw)) ⟨.bl _, H, I, rfl, ?_⟩
    rw [show its.toArray.any (eqU x) = its.any (eqU x) by simp, any_eqU r fs]
    exact q
  · obtain ⟨its, r, pl, hz⟩ := I.tuple hq
    refine SeqAt.in_tupleAt (eqU x) pl (fun w hw => mem_eqAt rx fx r fs w (by simpa using hw)) ⟨.bl _, H, I, rfl, ?_⟩
    rw [show its.toArray.any (eqU x) = its.any (eqU x) by simp, any_eqU r fs]
    exact q
theorem op_notIn_seq : OpR X (compareOp .NotIn) (rIn X.K true) := by
  intro pins s σ H x y v u Q I rx ry h
  obtain ⟨p, xs, rfl, hq, fx, fs, q⟩ := h
  cases ry
  rcases hq with hq | hq
  · obtain ⟨its, r, pl, hz⟩ := I.list hq
    refine SeqAt.notIn_listAt (eqU x) pl.isList (fun w hw => mem_eqAt rx fx r fs w (by simpa using hw)) ⟨.bl _, H, I, rfl, ?_⟩
    rw [show its.toArray.any (eqU x) = its.any (eqU x) by simp, any_eqU r fs]
    exact q
  · obtain ⟨its, r, pl, hz⟩ := I.tuple hq
    refine SeqAt.notIn_tupleAt (eqU x) pl (fun w hw => mem_eqAt rx fx r fs w (by simpa using hw)) ⟨.bl _, H, I, rfl, ?_⟩
    rw [show its.toArray.any (eqU x) = its.any (eqU x) by simp, any_eqU r fs]
    exact q
theorem op_notIn_str : OpR X (compareOp .NotIn) (fun x y H Q => ∃ i j, x = .str i ∧ y = .str j ∧ Q (.bl (!(!(Builtin.Str.occurrences j i 0 j.length 1).isEmpty))) H) := by
  intro pins s σ H x y v u Q I rx ry h
  obtain ⟨i, j, rfl, rfl, q⟩ := h
  obtain ⟨t, rfl⟩ := rx
  obtain ⟨t', rfl⟩ := ry
  exact notIn_str ⟨.bl _, H, I, rfl, q⟩
theorem call_len_seq : CallR X (.builtin "len") (fun xs H Q => ∃ p ys, xs = [.ref p] ∧ (SqL X.K H p ys ∨ SqT X.K H p ys) ∧ Q (.int ys.length) H) := by
  intro pins s σ H xs us Q I r h
  obtain ⟨p, ys, rfl, hq, q⟩ := h
  obtain ⟨u, rfl, rx⟩ := vals1 r
  cases rx
  have hn := line63
  rcases hq with hq | hq
  · obtain ⟨its, r', pl, hz⟩ := I.list hq
    have hlen := r'.length
    exact Calls.call_len_list pl.isList (by simp only [List.size_toArray] <;> omega) ⟨.int ys.length, H, I.tok _, ⟨s.toks + 1, by rw [List.size_toArray, hlen]⟩, q⟩
  · obtain ⟨its, r', pl, hz⟩ := I.tuple hq
    have hlen := r'.length
    exact len_tuple pl (by simp only [List.size_toArray] <;> omega) ⟨.int ys.length, H, I.tok _, ⟨s.toks + 1, by rw [List.size_toArray, hlen]⟩, q⟩
theorem call_len_str : CallR X (.builtin "len") (fun xs H Q => ∃ z, xs = [.str z] ∧ z.length ≤ sizeLine ∧ Q (.int z.length) H) := by
  intro pins s σ H xs us Q I r h
  obtain ⟨z, rfl, hz, q⟩ := h
  obtain ⟨u, rfl, t, rfl⟩ := vals1 r
  have hn := line63
  exact len_str (by omega) ⟨.int z.length, H, I.tok _, ⟨_, rfl⟩, q⟩
theorem CallR.or {f : Value} {r r' : List V → Hp → VK → Prop} (h : CallR X f r) (h' : CallR X f r') : CallR X f (fun xs H Q => r xs H Q ∨ r' xs H Q) := by
  intro pins s σ H xs us Q I rs q
  rcases q with q | q
  · exact h pins s σ H xs us Q I rs q
  · exact h' pins s σ H xs us Q I rs q
theorem call_list_of : CallR X (.type "list") (fun xs H Q => ∃ p ys, xs = [.ref p] ∧ (SqL X.K H p ys ∨ SqT X.K H p ys) ∧ ∀ l, H l = none → Q (.ref l) (upd H l (.lst ys))) := by
  intro pins s σ H xs us Q I r h
  obtain ⟨p, ys, rfl, hq, q⟩ := h
  obtain ⟨u, rfl, rx⟩ := vals1 r
  cases rx
  have fin : ∀ (its : List Value), Vals ys its → ys.length ≤ sizeLine → ∀ (h' : Heap) (c' : Nat), (∀ b o', s.heap.get? b = some o' → h'.get? b = some o') →
      h'.get? s.heap.objs.size = some { cls := .type "list", dict := none, data := .seq its.toArray c', slots := #[] } → EP X pins σ Q (.ref s.heap.objs.size) { s with heap := h' } := fun its r' hz h' c' kp e =>
    ⟨.ref s.heap.objs.size, _, I.laid (t' := s.toks) kp (Nat.le_refl _) (show ObjOk X.prog X.w _ h' _ (.lst ys) from ⟨hz, its, c', r', e⟩), rfl, q _ (I.hok.fresh (Nat.le_refl _))⟩
  rcases hq with hq | hq
  · obtain ⟨its, r', pl, hz⟩ := I.list hq
    have hlen := r'.length
    obtain ⟨o, ho, hc, n, hd⟩ := pl.isList
    exact call_list_seq p (.inl rfl) ho hc hd (fun h' c' kp e => fin its r' hz h' c' kp e) (by simp only [List.size_toArray] <;> omega)
  · obtain ⟨its, r', pl, hz⟩ := I.tuple hq
    have hlen := r'.length
    obtain ⟨o, ho, hc, n, hd⟩ := pl
    exact call_list_seq p (.inr rfl) ho hc hd (fun h' c' kp e => fin its r' hz h' c' kp e) (by simp only [List.size_toArray] <;> omega)
theorem call_tuple_of : CallR X (.type "tuple") (fun xs H Q => ∃ p ys, xs = [.ref p] ∧ ((SqL X.K H p ys ∧ ∀ l, H l = none → Q (.ref l) (upd H l (.tup ys))) ∨ (SqT X.K H p ys ∧ Q (.ref p) H))) := by
  intro pins s σ H xs us Q I r h
  obtain ⟨p, ys, rfl, h⟩ := h
  obtain ⟨u, rfl, rx⟩ := vals1 r
  cases rx
  rcases h with ⟨hq, q⟩ | ⟨hq, q⟩
  · obtain ⟨its, r', pl, hz⟩ := I.list hq
    have hlen := r'.length
    refine call_tuple_list pl.isList (fun h' kp => ?_) (by simp only [List.size_toArray] <;> omega)
    have I1 : Inv X pins σ H { s with heap := h' } := I.kept (t' := s.toks) kp
    have I2 : Inv X pins σ (upd H h'.objs.size (.tup ys)) { s with heap := h'.push { cls := .type "tuple", data := .seq its.toArray } } :=
      I1.laid (t' := s.toks) (fun b o e => Heap.get?_push_of_some _ e) (Nat.le_refl _) (show ObjOk X.prog X.w _ _ _ (.tup ys) from ⟨hz, its, r', IsTup.new _ _⟩)
    exact ⟨.ref h'.objs.size, _, I2, rfl, q _ (I1.hok.fresh (Nat.le_refl _))⟩
  · obtain ⟨its, r', pl, hz⟩ := I.tuple hq
    exact call_tuple_same pl ⟨.ref p, H, I, rfl, q⟩
def tyV (K : PySem.W.Frag) (T : String) (x : V) (H : Hp) : Prop := match x with
  | .str _ => T = "str"
  | .int _ => T = "int"
  | .ref p => (T = "list" ∧ ∃ xs, SqL K H p xs) ∨ (T = "tuple" ∧ ∃ o, K.lookup p = some o ∧ o.cls = .type "tuple" ∧ o.dict = none) ∨
      (T = "dict" ∧ ((∃ kvs, H p = some (.dK kvs)) ∨ ∃ kvs, H p = some (.dT kvs))) ∨ (T = "set" ∧ ∃ S n, H p = some (.set S n))
  | _ => False
theorem tyV_is {pins : List (Addr × Obj)} {σ : St} {H : Hp} {s : Shared} {T : String} {x : V} {v : Value} (I : Inv X pins σ H s) (r : RelV x v) (ty : tyV X.K T x H) :
    s.TypeIs v T ∧ ∀ a, v = .ref a → ∃ ob, s.heap.get? a = some ob ∧ ob.dict = none := by
  cases x with
  | str z =>
    obtain ⟨t, rfl⟩ := r
    cases (show T = "str" from ty)
    exact ⟨typeIs_str s z t, fun _ e => nomatch e⟩
  | int i =>
    obtain ⟨t, rfl⟩ := r
    cases (show T = "int" from ty)
    exact ⟨typeIs_int s i t, fun _ e => nomatch e⟩
  | ref p =>
    cases r
    rcases ty with ⟨rfl, xs, hq⟩ | ⟨rfl, o, hk, hc, hd⟩ | ⟨rfl, hk⟩ | ⟨rfl, S, n, hk⟩
    · obtain ⟨its, _, pl, _⟩ := I.list hq
      refine ⟨pl.isList.typeIs, fun a e => ?_⟩
      cases e
      obtain ⟨o, n, e, c, hd, _⟩ := pl
      exact ⟨o, e, hd⟩
    · refine ⟨⟨o, I.kIn p o hk, hc⟩, fun a e => ?_⟩
      cases e
      exact ⟨o, I.kIn _ o hk, hd⟩
    · have z : ∃ o, s.heap.get? p = some o ∧ o.ExactDict := by
        rcases hk with ⟨kvs, hk⟩ | ⟨kvs, hk⟩
        · obtain ⟨_, _, _, _, o, _, _, e, ex, _⟩ := I.hok p _ hk
          exact ⟨o, e, ex⟩
        · obtain ⟨_, _, _, _, o, _, _, e, ex, _⟩ := I.hok p _ hk
          exact ⟨o, e, ex⟩
      obtain ⟨o, e, ex⟩ := z
      refine ⟨⟨o, e, ex.1⟩, fun a e2 => ?_⟩
      cases e2
      exact ⟨o, e, ex.2.1⟩
    · obtain ⟨o, _, _, _, e, ex, _⟩ := I.hok p _ hk
      refine ⟨⟨o, e, ex.1⟩, fun a e2 => ?_⟩
      cases e2
      exact ⟨o, e, ex.2.1⟩
  | _ => exact False.elim ty
def tBM0 (K : PySem.W.Frag) (T : String) (r : V → List V → Hp → VK → Prop) (to : TE) : TE := fun σ H Q => to σ H fun x H1 => tyV K T x H1 ∧ r x [] H1 Q
def tBM (K : PySem.W.Frag) (T : String) (r : V → List V → Hp → VK → Prop) (to : TE) (t : TA) : TE := fun σ H Q => to σ H fun x H1 => tyV K T x H1 ∧ t σ H1 fun xs H2 => r x xs H2 Q
variable {o e : Expr} {es : List Expr} {to : TE} {t : TA} {name : Str} {apos cpos : Pos} {T id : String} {r : V → List V → Hp → VK → Prop}
theorem pe_bm0 (pa : PlainAttrs T) (slot : Slot T name id) (hty : typeOf (.builtin id) = pure (.type "method_descriptor")) (hm : MtR X id r) (ho : PE X o to)
    (hbase : attributeBase o name X.env (eval o X.env) = eval o X.env := by rfl) (hline : (apos.endLine == cpos.line) = true := by rfl) : PE X (.Call (.Attribute o name apos) [] [] cpos) (tBM0 X.K T r to) := by
  intro pins s σ H Q I h
  refine wpAny_Call_method0_late hbase hline (thn (ho pins s σ H _ I h) fun v s1 ⟨x, H1, I1, r1, ty, q1⟩ => ?_)
  obtain ⟨h1, h2⟩ := tyV_is I1 r1 ty
  exact ⟨T, id, pa, slot, hty, h1, h2, Calls.callWith_builtin rfl (PySem.evalArgs_none (hm pins s1 σ H1 x [] v [] Q I1 r1 .nil q1))⟩
theorem pe_bm (pa : PlainAttrs T) (slot : Slot T name id) (hty : typeOf (.builtin id) = pure (.type "method_descriptor")) (hm : MtR X id r) (ho : PE X o to) (ha : PA X (e :: es) t)
    (hbase : attributeBase o name X.env (eval o X.env) = eval o X.env := by rfl)
    (hfew : ((backTo cpos (starEach (e :: es) X.env)).all (fun x => !x.1) && (backToKw cpos (keywordEach [] X.env)).all (fun x => x.1.isSome)
      && decide ((e :: es).length + ([] : List Keyword).length + (if ([] : List Keyword).isEmpty then 0 else 1) < 30)) = true := by rfl)
    (hline : (apos.endLine == cpos.line) = true := by rfl) (hs : starEach (e :: es) X.env = (false, eval e X.env) :: starEach es X.env := by rfl) (hplain : (backTo cpos (starEach es X.env)).any (·.1) = false := by rfl) :
    PE X (.Call (.Attribute o name apos) (e :: es) [] cpos) (tBM X.K T r to t) := by
  intro pins s σ H Q I h
  refine wpAny_Call_method_late hbase hfew hline rfl (thn (ho pins s σ H _ I h) fun v s1 ⟨x, H1, I1, r1, ty, q1⟩ => ?_)
  obtain ⟨h1, h2⟩ := tyV_is I1 r1 ty
  refine ⟨T, id, pa, slot, hty, h1, h2, ?_⟩
  have hA := ha cpos pins s1 σ H1 _ I1 q1
  rw [hs] at hA ⊢
  refine Calls.callWith_builtin (by show (false || (backTo cpos (starEach es X.env)).any (·.1)) = false; rw [hplain] <;> rfl) (Calls.evalArgs_plain ?_)
  exact thn hA fun us s2 ⟨vs, H2, I2, r2, q2⟩ => hm pins s2 σ H2 x vs v us Q I2 r1 r2 q2
/- xs.append(e), list.index on a module's tuple .. are MtR facts of 06m -/
end
end L2
namespace L2
open PySem PySem.Spec PyProof.Rows
def MtM (X : Cx) (id : String) (r : V → List V → Hp → VK → Prop) : Prop :=
  ∀ (pins : List (Addr × Obj)) (s : Shared) (σ : St) (H : Hp) (x : V) (xs : List V) (v : Value) (us : List Value) (Q : VK), Inv X pins σ H s → RelV x v → Vals xs us → r x xs H Q →
    wpAny (model X.prog X.w) X.A (call (.builtin id) (v :: us)) (EP X pins σ Q) X.xe s
theorem Vals.one : ∀ {x : V} {us : List Value}, Vals [x] us → ∃ u, us = [u] ∧ RelV x u
  | _, _, .cons r .nil => ⟨_, rfl, r⟩
theorem Vals.two : ∀ {x y : V} {us : List Value}, Vals [x, y] us → ∃ u v, us = [u, v] ∧ RelV x u ∧ RelV y v
  | _, _, _, .cons r (.cons q .nil) => ⟨_, _, rfl, r, q⟩
theorem Vals.zero : ∀ {us : List Value}, Vals [] us → us = []
  | _, .nil => rfl
theorem Vals.dropLast {xs : List V} {us : List Value} (h : Vals xs us) : Vals xs.dropLast us.dropLast := by
  induction h with
  | nil => exact .nil
  | cons r t ih =>
    cases t with
    | nil => exact .nil
    | cons q t' => exact .cons r ih
theorem Vals.eraseIdx : ∀ {xs : List V} {us : List Value} (i : Nat), Vals xs us → Vals (xs.eraseIdx i) (us.eraseIdx i)
  | _, _, _, .nil => .nil
  | _, _, 0, .cons _ t => t
  | _, _, i + 1, .cons r t => .cons r (Vals.eraseIdx i t)
theorem Vals.reverse {xs : List V} {us : List Value} (h : Vals xs us) : Vals xs.reverse us.reverse := by
  induction h with
  | nil => exact .nil
  | cons r t ih => rw [List.reverse_cons, List.reverse_cons]; exact Vals.append ih (.cons r .nil)
theorem Vals.rep {xs : List V} {us : List Value} (h : Vals xs us) : ∀ k : Nat, Vals (List.replicate k xs).flatten (List.replicate k us).flatten
  | 0 => .nil
  | k + 1 => by
    rw [List.replicate_succ, List.replicate_succ, List.flatten_cons, List.flatten_cons]
    exact Vals.append h (Vals.rep h k)
theorem erase_last {α : Type} (l : List α) : l.eraseIdx (l.length - 1) = l.dropLast := by
  induction l with
  | nil => rfl
  | cons a r ih =>
    cases r with
    | nil => rfl
    | cons b r =>
      have e : (a :: b :: r).length - 1 = ((b :: r).length - 1) + 1 := by
        have h1 : (a :: b :: r).length = r.length + 2 := rfl
        have h2 : (b :: r).length = r.length + 1 := rfl
        omega
      rw [e, List.eraseIdx_cons_succ, ih]
      all_goals rfl
theorem len_erase {α : Type} : ∀ (l : List α) (i : Nat), (l.eraseIdx i).length ≤ l.length
  | [], _ => Nat.le_refl _
  | _ :: _, 0 => Nat.le_succ _
  | _ :: r, i + 1 => Nat.succ_le_succ (len_erase r i)
theorem foldl_rep (its : List Value) : ∀ (k : Nat) (acc : List Value),
    List.foldl (fun x1 x2 => x1 ++ x2) acc.toArray (List.replicate k its.toArray) = (acc ++ (List.replicate k its).flatten).toArray
  | 0, acc => by simp
  | k + 1, acc => by
    have e : acc.toArray ++ its.toArray = (acc ++ its).toArray := by simp
    have e2 : (acc ++ its) ++ (List.replicate k its).flatten = acc ++ (List.replicate (k + 1) its).flatten := by
      rw [List.replicate_succ, List.flatten_cons, List.append_assoc]
    rw [← e2, ← foldl_rep its k (acc ++ its), ← e, List.replicate_succ, List.foldl_cons]
section
variable {X : Cx} {pins : List (Addr × Obj)} {σ : St} {H : Hp} {s : Shared} {l b : Addr} {xs ys zs : List V}
theorem Inv.lset {its its' : List Value} {n : Nat} {f : Array Value → Array Value} {t' : Nat} (I : Inv X pins σ H s) (hH : H l = some (.lst xs))
    (e : s.heap.get? l = some { cls := .type "list", data := .seq its.toArray n }) (hf : f its.toArray = its'.toArray) (hv : Vals ys its') (hz : ys.length ≤ sizeLine) :
    Inv X pins σ (upd H l (.lst ys)) { s with heap := s.heap.update l (Obj.mapSeq f), toks := t' } := by
  have q := PySem.IsL.update e f
  rw [hf] at q
  refine I.write (x := l) (e := l) (by rw [hH]; exact trivial) (.inl rfl) (fun b' u hb hu => (Heap.get?_update_other s.heap (Obj.mapSeq f) (Ne.symm hb)).trans hu) ⟨_, q⟩ ?_
  exact ⟨hz, its', _, hv, q⟩
theorem Inv.lnew {its : List Value} {t' : Nat} (I : Inv X pins σ H s) (hv : Vals ys its) (hz : ys.length ≤ sizeLine) :
    Inv X pins σ (upd H s.heap.objs.size (.lst ys)) { s with heap := s.heap.push { cls := .type "list", data := .seq its.toArray }, toks := t' } :=
  I.laid (fun _ _ q => Heap.get?_push_of_some _ q) (Nat.le_refl _) ⟨hz, its, 0, hv, Heap.get?_push_size _ rfl⟩
theorem Inv.fresh (I : Inv X pins σ H s) : H s.heap.objs.size = none := I.hok.fresh (Nat.le_refl _)
theorem Inv.lstM (I : Inv X pins σ H s) (hH : H l = some (.lst xs)) : xs.length ≤ sizeLine ∧ ∃ (its : List Value) (n : Nat), Vals xs its ∧ xs.length = its.length ∧ s.heap.get? l = some { cls := .type "list", data := .seq its.toArray n } := by
  obtain ⟨z, its, n, r, e⟩ := I.hok l _ hH
  exact ⟨z, its, n, r, r.length, e⟩
theorem notLongL {n : Nat} (h : n ≤ sizeLine) : Builtin.List.listTooLong n = false := by
  unfold Builtin.List.listTooLong
  exact decide_eq_false (by omega)
end
section
variable {X : Cx}
def rAppend : V → List V → Hp → VK → Prop := fun x vs H Q => ∃ l xs y, x = .ref l ∧ vs = [y] ∧ H l = some (.lst xs) ∧ xs.length < sizeLine ∧ Q .non (upd H l (.lst (xs ++ [y])))
theorem mt_append : MtM X "list.append" rAppend := by
  intro pins s σ H x vs v us Q I rx rv h
  obtain ⟨l, xs, y, rfl, rfl, hH, hz, q⟩ := h
  cases rx
  obtain ⟨u, rfl, ru⟩ := rv.one
  obtain ⟨z, its, n, r, hl, e⟩ := I.lstM hH
  refine call_meets F.slot_list_append ⟨_, e, rfl⟩ F.entry_list_append (F.args_list_append_2 _ _) (PySem.list_append l its.toArray n u (by rw [List.size_toArray]; omega)) ⟨e, ?_⟩
  refine ⟨.non, _, I.lset (its' := its ++ [u]) hH e (by simp) (r.append (.cons ru .nil)) ?_, rfl, q⟩
  rw [List.length_append, List.length_singleton]
  omega
def rExtend : V → List V → Hp → VK → Prop := fun x vs H Q => ∃ l b xs zs, x = .ref l ∧ vs = [.ref b] ∧ H l = some (.lst xs) ∧ H b = some (.lst zs) ∧ xs.length + zs.length ≤ sizeLine ∧ Q .non (upd H l (.lst (xs ++ zs)))
theorem mt_extend : MtM X "list.extend" rExtend := by
  intro pins s σ H x vs v us Q I rx rv h
  obtain ⟨l, b, xs, zs, rfl, rfl, hH, hB, hz, q⟩ := h
  cases rx
  obtain ⟨u, rfl, ru⟩ := rv.one
  cases ru
  obtain ⟨z, its, n, r, hl, e⟩ := I.lstM hH
  obtain ⟨z2, its2, n2, r2, hl2, e2⟩ := I.lstM hB
  have hsz : its.toArray.size + its2.toArray.size ≤ sizeLine := by rw [List.size_toArray, List.size_toArray]; omega
  have hlong : ¬ (!its.toArray.isEmpty && Builtin.List.listTooLong (its.toArray.size + its2.toArray.size)) = true := by
    rw [notLongL hsz, Bool.and_false]
    exact Bool.false_ne_true
  refine call_meets F.slot_list_extend ⟨_, e, rfl⟩ F.entry_list_extend (F.args_list_extend_2 _ _)
    (AutoSeq1.list_extend_list_list_0 l its.toArray n b its2.toArray n2 hlong (by rw [List.size_toArray]; omega) (by omega)) ⟨e, e2, ?_⟩
  refine ⟨.non, _, I.lset (its' := its ++ its2) hH e (by simp) (r.append r2) ?_, rfl, q⟩
  rw [List.length_append]
  omega
def rPop : V → List V → Hp → VK → Prop := fun x vs H Q => ∃ l xs y, x = .ref l ∧ vs = [] ∧ H l = some (.lst xs) ∧ xs[xs.length - 1]? = some y ∧ Q y (upd H l (.lst xs.dropLast))
theorem mt_pop : MtM X "list.pop" rPop := by
  intro pins s σ H x vs v us Q I rx rv h
  obtain ⟨l, xs, y, rfl, rfl, hH, hy, q⟩ := h
  cases rx
  have hus := rv.zero
  subst hus
  obtain ⟨z, its, n, r, hl, e⟩ := I.lstM hH
  obtain ⟨u, hu, ru⟩ := r.get hy
  have hy' : its.toArray[its.toArray.size - 1]? = some u := by
    show its.toArray[its.length - 1]? = some u
    rw [← Array.getElem?_toList, ← hl]
    exact hu
  refine call_meets F.slot_list_pop ⟨_, e, rfl⟩ F.entry_list_pop (F.args_list_pop_1 _) (MeetsSeq.list_pop_last l its.toArray n u hy' (by rw [List.size_toArray]; omega)) ⟨e, ?_⟩
  refine ⟨y, _, I.lset (its' := its.dropLast) hH e ?_ r.dropLast ?_, ru, q⟩
  · show its.toArray.eraseIdxIfInBounds (its.toArray.size - 1) = its.dropLast.toArray
    rw [List.size_toArray, List.eraseIdxIfInBounds_toArray, erase_last]
  · rw [List.length_dropLast]
    omega
def rPopAt : V → List V → Hp → VK → Prop := fun x vs H Q => ∃ l xs i k y, x = .ref l ∧ vs = [.int i] ∧ H l = some (.lst xs) ∧ -(2 ^ 63) ≤ i ∧ i < 2 ^ 63 ∧ seqIndex? i xs.length = some k ∧ xs[k]? = some y ∧ Q y (upd H l (.lst (xs.eraseIdx k)))
theorem mt_popAt : MtM X "list.pop" rPopAt := by
  intro pins s σ H x vs v us Q I rx rv h
  obtain ⟨l, xs, i, k, y, rfl, rfl, hH, h1, h2, hk, hy, q⟩ := h
  cases rx
  obtain ⟨u, rfl, ru⟩ := rv.one
  obtain ⟨t, rfl⟩ := ru
  obtain ⟨z, its, n, r, hl, e⟩ := I.lstM hH
  obtain ⟨w, hw, rw'⟩ := r.get hy
  refine call_meets F.slot_list_pop ⟨_, e, rfl⟩ F.entry_list_pop (F.args_list_pop_2 _ _)
    (MeetsSeq.list_pop_at l its.toArray n i t k w (fitsIndex_both h1 h2) (by rw [List.size_toArray, ← hl]; exact hk) (by rw [← Array.getElem?_toList]; exact hw) (by rw [List.size_toArray]; omega)) ⟨e, ?_⟩
  refine ⟨y, _, I.lset (its' := its.eraseIdx k) hH e ?_ (r.eraseIdx k) ?_, rw', q⟩
  · show its.toArray.eraseIdxIfInBounds k = (its.eraseIdx k).toArray
    rw [List.eraseIdxIfInBounds_toArray]
  · have := len_erase xs k
    omega
def rReverse : V → List V → Hp → VK → Prop := fun x vs H Q => ∃ l xs, x = .ref l ∧ vs = [] ∧ H l = some (.lst xs) ∧ Q .non (upd H l (.lst xs.reverse))
theorem mt_reverse : MtM X "list.reverse" rReverse := by
  intro pins s σ H x vs v us Q I rx rv h
  obtain ⟨l, xs, rfl, rfl, hH, q⟩ := h
  cases rx
  have hus := rv.zero
  subst hus
  obtain ⟨z, its, n, r, hl, e⟩ := I.lstM hH
  refine call_meets F.slot_list_reverse ⟨_, e, rfl⟩ F.entry_list_reverse (F.args_list_reverse_1 _) (AutoSeq1.list_reverse_list_0 l its.toArray n (by rw [List.size_toArray]; omega)) ⟨e, ?_⟩
  refine ⟨.non, _, I.lset (its' := its.reverse) hH e (by simp) r.reverse ?_, rfl, q⟩
  rw [List.length_reverse]
  omega
def rClear : V → List V → Hp → VK → Prop := fun x vs H Q => ∃ l xs, x = .ref l ∧ vs = [] ∧ H l = some (.lst xs) ∧ Q .non (upd H l (.lst []))
theorem mt_clear : MtM X "list.clear" rClear := by
  intro pins s σ H x vs v us Q I rx rv h
  obtain ⟨l, xs, rfl, rfl, hH, q⟩ := h
  cases rx
  have hus := rv.zero
  subst hus
  obtain ⟨z, its, n, r, hl, e⟩ := I.lstM hH
  refine call_meets F.slot_list_clear ⟨_, e, rfl⟩ F.entry_list_clear (F.args_list_clear_1 _) (AutoSeq1.list_clear_list_0 l its.toArray n (by rw [List.size_toArray]; omega)) ⟨e, ?_⟩
  exact ⟨.non, _, I.lset (its' := []) (ys := []) hH e rfl .nil (Nat.zero_le _), rfl, q⟩
def rCat : R2 := fun x y H Q => ∃ l b xs zs, x = .ref l ∧ y = .ref b ∧ H l = some (.lst xs) ∧ H b = some (.lst zs) ∧ xs.length + zs.length ≤ sizeLine ∧ ∀ p, H p = none → Q (.ref p) (upd H p (.lst (xs ++ zs)))
theorem op_cat : OpR X (binaryOp .Add) rCat := by
  intro pins s σ H x y v u Q I rx ry h
  obtain ⟨l, b, xs, zs, rfl, rfl, hH, hB, hz, q⟩ := h
  cases rx
  cases ry
  obtain ⟨z, its, n, r, hl, e⟩ := I.lstM hH
  obtain ⟨z2, its2, n2, r2, hl2, e2⟩ := I.lstM hB
  refine PySem.P.add_list e e2 ?_ (by rw [List.size_toArray, List.size_toArray]; omega)
  have ea : its.toArray ++ its2.toArray = (its ++ its2).toArray := by simp
  rw [ea]
  exact ⟨.ref _, _, I.lnew (t' := s.toks) (r.append r2) (by rw [List.length_append]; omega), rfl, q _ I.fresh⟩
def rRep : R2 := fun x y H Q => ∃ l k xs, x = .ref l ∧ y = .int k ∧ H l = some (.lst xs) ∧ -(2 ^ 63) ≤ k ∧ k < 2 ^ 63 ∧ xs.length * k.toNat ≤ sizeLine ∧
  ∀ p, H p = none → Q (.ref p) (upd H p (.lst (List.replicate k.toNat xs).flatten))
theorem len_rep {α : Type} (xs : List α) (k : Nat) : (List.replicate k xs).flatten.length = k * xs.length := by
  induction k with
  | zero => simp
  | succ k ih => rw [List.replicate_succ, List.flatten_cons, List.length_append, ih, Nat.succ_mul, Nat.add_comm]
theorem op_rep : OpR X (binaryOp .Mult) rRep := by
  intro pins s σ H x y v u Q I rx ry h
  obtain ⟨l, k, xs, rfl, rfl, hH, h1, h2, hz, q⟩ := h
  cases rx
  obtain ⟨t, rfl⟩ := ry
  obtain ⟨z, its, n, r, hl, e⟩ := I.lstM hH
  have hlen : its.toArray.size * k.toNat ≤ sizeLine := by rw [List.size_toArray, ← hl]; exact hz
  have hcap : ¬ its.toArray.size * k.toNat > (2 ^ 63 - 1) / 8 := by
    have : (sizeLine : Nat) ≤ (2 ^ 63 - 1) / 8 := by decide
    omega
  have hfit : ¬ (!Builtin.List.listFitsIndex k) = true := by
    rw [fitsIndex_both h1 h2]
    exact Bool.false_ne_true
  have hlong : ¬ Builtin.List.listTooLong (its.toArray.size * k.toNat) = true := by
    rw [notLongL hlen]
    exact Bool.false_ne_true
  have hnew : List.foldl (fun x1 x2 => x1 ++ x2) #[] (List.replicate (if its.toArray.isEmpty = true then 0 else k.toNat) its.toArray) = (List.replicate k.toNat its).flatten.toArray := by
    have f0 : ∀ m : Nat, List.foldl (fun x1 x2 => x1 ++ x2) #[] (List.replicate m its.toArray) = (List.replicate m its).flatten.toArray := fun m => by
      have := foldl_rep its m []
      rw [List.nil_append] at this
      exact this
    rw [f0]
    cases its with
    | nil => simp
    | cons a r' => rw [if_neg (by simp)]
  refine wpAny_binaryOp_repeat_ref (T := "list") (U := "int") (by decide) ⟨_, e, rfl⟩ (fun s' => typeIs_int s' k t) noFill_list_mul F.fills_int_mul F.slot_int_rmul repeat_list F.slot_int_index.lookup
    (call_meets F.slot_int_rmul (typeIs_int s k t) F.entry_int_rmul (F.args_int_rmul_2 _ _) (int___rmul___int_list k t l its.toArray n)
      ⟨e, rfl, ⟨_, e, rfl⟩, call_meets F.slot_list_mul ⟨_, e, rfl⟩ F.entry_list_mul (F.args_list_mul_2 _ _) (AutoListH.list___mul___list_int_3 l its.toArray n k t hfit hcap hlong) ⟨e, ?_⟩⟩)
  rw [hnew]
  exact ⟨.ref _, _, I.lnew (t' := s.toks) (r.rep k.toNat) (by rw [len_rep, Nat.mul_comm]; exact hz), rfl, q _ I.fresh⟩
theorem del_list {pins : List (Addr × Obj)} {s : Shared} {σ : St} {H : Hp} {l : Addr} {xs : List V} {i : Int} {t : Tok} {k : Nat} {Q : Unit → Shared → Prop} (I : Inv X pins σ H s) (hH : H l = some (.lst xs))
    (h1 : -(2 ^ 63) ≤ i) (h2 : i < 2 ^ 63) (hk : seqIndex? i xs.length = some k) (h : ∀ s', Inv X pins σ (upd H l (.lst (xs.eraseIdx k))) s' → Q () s') :
    wpAny (model X.prog X.w) X.A (delItem (.ref l) (.int i t)) Q X.xe s := by
  obtain ⟨z, its, n, r, hl, e⟩ := I.lstM hH
  refine PySem.P.delItem_list (k := k) e (fitsIndex_both h1 h2) (by rw [List.size_toArray, ← hl]; exact hk) (h _ ?_) (by rw [List.size_toArray]; omega)
  refine I.lset (its' := its.eraseIdx k) (t' := s.toks) hH e ?_ (r.eraseIdx k) ?_
  · show its.toArray.eraseIdxIfInBounds k = (its.eraseIdx k).toArray
    rw [List.eraseIdxIfInBounds_toArray]
  · have := len_erase xs k
    omega
end
section
variable {prog : Program} {w : World} {A : Around} {E : Value → Shared → Prop} {s : Shared}
theorem splice_eq (its its2 : List Value) (a c : Nat) : its.toArray.extract 0 a ++ its2.toArray ++ its.toArray.extract c its.toArray.size = (its.take a ++ its2 ++ its.drop c).toArray := by
  apply Array.toList_inj.mp
  first
    | (simp
       exact List.take_of_length_le (by simp))
    | simp [List.take_of_length_le]
    | simp
theorem bounds_run {a c n : Nat} (hac : a ≤ c) (hc : c ≤ n) : sliceBounds (some (a : Int)) (some (c : Int)) none n = ((a : Int), (c : Int), 1) := by
  simp only [sliceBounds, Option.getD_none]
  have h1 : ¬ ((a : Int) < 0) := by omega
  have h2 : ¬ ((c : Int) < 0) := by omega
  simp only [h1, h2, if_false, show (1 : Int) > 0 by decide, if_true]
  congr 1
  · omega
  · congr 1; omega
set_option maxRecDepth 100000 in
theorem setItem_slice {l b sl : Addr} {items new : Array Value} {n n2 : Nat} {vl vu : Value} {a c : Nat} {Q : Unit → Shared → Prop}
    (e : s.heap.get? l = some { cls := .type "list", data := .seq items n }) (e2 : s.heap.get? b = some { cls := .type "list", data := .seq new n2 }) (hne : l ≠ b)
    (hs : s.heap.IsSliceOf sl vl vu .none) (pl : IsPart vl (some (a : Int))) (pu : IsPart vu (some (c : Int))) (hac : a ≤ c) (hc : c ≤ items.size)
    (hsz : items.size + new.size ≤ sizeLine) (h : Q () { s with heap := s.heap.update l (Obj.mapSeq fun xs => xs.extract 0 a ++ new ++ xs.extract c xs.size) }) :
    wpAny (model prog w) A (setItem (.ref l) (.ref sl) (.ref b)) Q E s := by
  have hl : s.heap.IsList l items := PySem.IsL.isList e
  have hb : s.heap.IsList b new := PySem.IsL.isList e2
  obtain ⟨os, hos, hcs, hds⟩ := id hs
  have hTs : s.TypeIs (.ref sl) "slice" := ⟨os, hos, hcs⟩
  have hstep : ¬ ((rawPart none == rawInt 0) = true) := Bool.false_ne_true
  have hsame : Builtin.List.listSameRef (.ref l) (.ref b) = false := by
    unfold Builtin.List.listSameRef
    exact beq_eq_false_iff_ne.mpr hne
  have hmax : (max (a : Int) (c : Int)).toNat = c := by omega
  have hz' : ((fun xs : Array Value => xs.extract 0 a ++ new ++ xs.extract c xs.size) items).size ≤ sizeLine + 1 := by
    simp only [Array.size_append, Array.size_extract]
    omega
  unfold setItem
  try with_reducible refine wpAny_holding ?_
  first | refine wpAny_bind (wpAny_pure ?_) | skip
  refine wpAny_bind (wpAny_sequenceKey hl.typeIs (by decide) ?_)
  refine wpAny_bind (wpAny_callSpecial?_slot (name := Str.ofString "__setitem__") hl.typeIs slot_list_setitem
    (wpAny_call_entry slot_list_setitem hl.typeIs entry_list_setitem ?_ (args_list_setitem _ _ _)))
  show wpAny _ _ (Builtin.List.listSubscript? (.ref sl) >>= _) _ _ s
  refine wpAny_bind ?_
  unfold Builtin.List.listSubscript?
  refine wpAny_bind (wpAny_specialOf hTs slice_no_index ?_)
  simp only [Option.isNone_none, if_true]
  refine wpAny_pure ?_
  show wpAny _ _ (typeOf (.ref sl) >>= _) _ _ s
  refine wpAny_bind (wpAny_typeOf hTs ?_)
  first
    | rw [if_neg (by decide)]
    | refine PySem.W.KFB.if_not (by decide) ?_
  rw [listSliceParts_eq]
  refine wpAny_bind (wpAny_bind (wpAny_field hos hds (x := .none) rfl (wpAny_bind (wpAny_listPart .none ?_))))
  rw [if_neg hstep]
  refine wpAny_bind (wpAny_field hos hds (x := vl) rfl (wpAny_bind (wpAny_listPart pl ?_)))
  refine wpAny_bind (wpAny_field hos hds (x := vu) rfl (wpAny_bind (wpAny_listPart pu (wpAny_pure ?_))))
  first
    | simp only [hsame, Bool.false_eq_true, if_false]
    | refine PySem.W.KFB.if_not hsame ?_
    | (dsimp only
       rw [if_neg (by rw [hsame]; exact Bool.false_ne_true)])
  refine wpAny_bind (m := Builtin.List.listAllItems (.ref b) "must assign iterable to extended slice") ?_
  unfold Builtin.List.listAllItems
  refine wpAny_bind (wpAny_typeOf hb.typeIs ?_)
  first
    | refine PySem.W.KFB.if_so (by decide) ?_
    | rw [if_pos (by decide)]
    | simp only [beq_self_eq_true, Bool.true_or, if_true]
  unfold Builtin.List.listItems
  refine wpAny_bind (wpAny_seqItems e2 rfl (wpAny_pure ?_))
  refine wpAny_bind (wpAny_bind (wpAny_seqItems e rfl (wpAny_pure ?_)))
  refine wpAny_bind (wpAny_of_eq ((sliceIndices_raw (some (a : Int)) (some (c : Int)) none items.size (by simp)).trans (congrArg (pure : Int × Int × Int → Sem (Int × Int × Int)) (bounds_run hac hc))) ?_)
  show wpAny _ _ (if ((1 : Int) == 1) = true then _ else _) _ _ s
  rw [if_pos (by decide)]
  refine wpAny_bind (wpAny_rule ?_)
  first
    | simp only [notLongL hsz, Bool.false_eq_true, if_false]
    | refine PySem.W.KFB.if_not (notLongL hsz) ?_
  first | refine wpAny_bind (wpAny_pure ?_) | skip
  show wpAny _ _ (updateSeq l (fun xs => xs.extract 0 ((a : Int)).toNat ++ new ++ xs.extract (max (a : Int) (c : Int)).toNat xs.size) >>= _) _ _ s
  rw [hmax, Int.toNat_natCast]
  refine wpAny_bind (wpAny_updateSeq (hz := Nat.le_trans (Nat.le_add_right _ _) hsz) (_hz' := hz') e rfl ?_)
  refine wpAny_bind (wpAny_letGo ?_)
  first
    | exact wpAny_bind (wpAny_pure (wpAny_pure ⟨.none, rfl, wpAny_pure h⟩))
    | exact wpAny_pure ⟨.none, rfl, wpAny_pure h⟩
end
section
variable {X : Cx}
theorem set_slice {pins : List (Addr × Obj)} {s : Shared} {σ : St} {H : Hp} {l b sl : Addr} {xs ys : List V} {a c : Int} {vl vu : Value} {Q : Unit → Shared → Prop} (I : Inv X pins σ H s)
    (hH : H l = some (.lst xs)) (hB : H b = some (.lst ys)) (hne : l ≠ b) (hs : s.heap.IsSliceOf sl vl vu .none) (ra : RelV (.int a) vl) (rc : RelV (.int c) vu) (h0 : 0 ≤ a) (hac : a ≤ c) (hc : c ≤ xs.length)
    (hz : xs.length + ys.length ≤ sizeLine) (h : ∀ s', Inv X pins σ (upd H l (.lst (xs.take a.toNat ++ ys ++ xs.drop c.toNat))) s' → Q () s') :
    wpAny (model X.prog X.w) X.A (setItem (.ref l) (.ref sl) (.ref b)) Q X.xe s := by
  obtain ⟨ta, rfl⟩ := ra
  obtain ⟨tc, rfl⟩ := rc
  obtain ⟨z, its, n, r, hl, e⟩ := I.lstM hH
  obtain ⟨z2, its2, n2, r2, hl2, e2⟩ := I.lstM hB
  obtain ⟨a', rfl⟩ := Int.eq_ofNat_of_zero_le h0
  obtain ⟨c', rfl⟩ := Int.eq_ofNat_of_zero_le (Int.le_trans h0 hac)
  simp only [Int.toNat_natCast] at h
  refine setItem_slice (a := a') (c := c') e e2 hne hs (.int _ _) (.int _ _) (by omega) (by rw [List.size_toArray]; omega) (by rw [List.size_toArray, List.size_toArray]; omega) (h _ ?_)
  refine I.lset (its' := its.take a' ++ its2 ++ its.drop c') (t' := s.toks) hH e ?_ (Vals.append (Vals.append (r.take _) r2) (r.drop _)) ?_
  · exact splice_eq its its2 a' c'
  · rw [List.length_append, List.length_append, List.length_take, List.length_drop]
    omega
end
end L2
namespace Att
open PySem PySem.W PySem.Calls PyProof.Rows
theorem ints_of_wellAll {P : Params} {h : Heap} : ∀ (ns : List Int) (vs : List Value), WellAll P h vs (ns.map WData.int) → IntsAre vs ns := by
  intro ns
  induction ns with
  | nil =>
    intro vs w
    rw [List.map_nil] at w
    cases w
    exact .nil
  | cons n ns ih =>
    intro vs w
    rw [List.map_cons] at w
    cases w with
    | cons a b =>
      cases a
      exact .cons _ _ (ih _ b)
theorem script_of {l : OpenLaw} {n : Nat} (hn : l.most = some n) {P : Params} {h : Heap} {args : List WData} {vals : List Value}
    (hpre : l.row.toRowW.claim.pre args = true) (hwl : WellAll P h vals args) :
    ∃ a vs ns, vals = [Value.ref a] ∧ args = [WData.list (ns.map WData.int)] ∧ h.get? a = some { cls := .type "list", data := .seq vs.toArray } ∧ IntsAre vs ns ∧ ns.length ≤ n := by
  have hsh : WShape.hasAll [] args [.list .int] = true := (pre_splitW hpre).1
  have hc : l.pre.holds [] { args := args } = true := (pre_splitW hpre).2
  obtain ⟨d, r, rfl, h1, h2⟩ := hasAllW_cons hsh
  obtain rfl := hasAllW_nil h2
  obtain ⟨xs, rfl, h3⟩ := hasW_list h1
  obtain ⟨ns, rfl⟩ := items_int h3
  have hlen : ns.length ≤ n := by
    unfold OpenLaw.pre at hc
    have h4 : (WTm.not (.lt (.lit (.int (n : Int))) (.len (.arg 0)))).holds [] { args := [.list (ns.map .int)] } = true := by
      have h4 := (holds_andW hc).1
      rw [hn] at h4
      exact h4
    have h5 := condW_of h4 (w_not (w_lt w_lit (w_len_list (w_arg rfl))))
    rw [List.length_map] at h5
    refine Nat.le_of_not_lt fun q => ?_
    have q' : (n : Int) < ((ns.length : Nat) : Int) := by omega
    first
      | (rw [decide_eq_true q'] at h5; exact absurd h5 (by decide))
      | (simp at h5; omega)
  cases hwl with
  | cons w1 w2 =>
    cases w2
    cases w1 with
    | list ho hall => exact ⟨_, _, ns, rfl, rfl, ho, ints_of_wellAll ns _ hall, hlen⟩
theorem post_true (l : OpenLaw) (args : List WData) : l.row.toRowW.claim.post args (.bool true) args = true :=
  postW_of (r := l.row.toRowW) (X := (true == true))
    (show WShape.has [] (.bool true) .bool = true by first | rfl | decide | simp [WShape.has, WShape.arms, WShape.armsAll])
    (show (WTm.eq .res (.lit (.bool true))).value [] { args := args, res := some (.bool true), after := args } = some (.bool (true == true)) from w_eq_bool (w_res rfl) w_lit) rfl
theorem attach {l : OpenLaw} {n : Nat} {q : Program} {loose : List Str} {XP : (Str → Option Value) → Heap → Prop} {YP : World → Heap → Prop} {d : DefRec} {x : Str}
    (hn : l.most = some n) (hdf : d.params.defaults = [])
    (hbind : ∀ pm cd doc v : Value, bindArgs (docDef d.name d.params d.body d.scope pm cd doc) ⟨[v], []⟩ = pure [(x, v)])
    (hx : d.scope.names.lookup x = some .local ∨ d.scope.names.lookup x = some .cell)
    (hk : d.scope.kind = .function) (hco : d.scope.isCoroutine = false) (hgen : d.scope.isGenerator = false)
    (body : ∀ (w : World) (s₀ s₁ s : Shared) (mg mb : Str → Option Value) (fa : Addr) (o : Obj) (pm cd doc : Value) (a : Addr) (vs : List Value) (ns : List Int),
      Ground q loose [] XP w s₀ mg mb s₁.heap → YP w s₁.heap →
      s₁.heap.get? fa = some o → o.data = .func (docDef d.name d.params d.body d.scope pm cd doc) → s₁.heap.CodeRec cd d.name → mg d.name = some (.ref fa) →
      s₁.heap.get? a = some { cls := .type "list", data := .seq vs.toArray } → IntsAre vs ns → ns.length ≤ n →
      s.gens = #[] → s.os = s₁.os →
      Fr s₁.heap s₁.heap.objs.size s.heap (bindL (envOfC d.name d.scope s₁.heap.objs.size fa cd).kindOf [(x, .ref a)] fun _ => none) →
      Cl s₁.heap.objs.size (cellsFrom (s₁.heap.objs.size + 1) d.scope.names []) s.heap (bindC (envOfC d.name d.scope s₁.heap.objs.size fa cd).kindOf [(x, .ref a)] fun _ => none) →
      wpAny (model l.prog w) (callerA.deeper (envOfC d.name d.scope s₁.heap.objs.size fa cd)) (execs d.body (envOfC d.name d.scope s₁.heap.objs.size fa cd))
        (fun f s' => f = .ret (.bool true) ∧ OldK s₁.heap s'.heap ∧ s'.os = s₁.os ∧ AllBare s'.gens) (fun _ _ => False) s) :
    WalkO q loose XP YP l.row.toRowW d [] (fun f vs => PySem.call f vs) := by
  intro w s₀ s₁ mg mb G Y fa o pm cd doc dV kV ho hd hcd hD hmg hg args vals as hpre hlay hrd hwl hlo
  obtain rfl : dV = .none := Dflts.none hD hdf
  obtain rfl : kV = .none := Dflts.noKw hD
  obtain ⟨a, vs, ns, rfl, rfl, hobj, hints, hlen⟩ := script_of hn hpre hwl
  refine enter_call ?_
  refine call_cells_ret (o := o) (by rw [depth_caller]; decide) ho (fd_plain hd) G.T.nolimit hcd (hbind pm cd doc (.ref a)) (fun y hy => ?_) (fun h₁ tk F X => ?_) hco hgen hk
  · obtain rfl : y = (x, Value.ref a) := List.mem_singleton.mp hy
    rcases hx with e | e
    · exact .inl e
    · exact .inr ⟨e, cellsFrom_some _ _ _ (.inl e)⟩
  · refine wpAny_mono (body w s₀ s₁ { s₁ with heap := h₁, toks := tk } mg mb fa o pm cd doc a vs ns G Y ho (fd_plain hd) hcd hmg hobj hints hlen hg rfl F X) (fun f s' hq => ?_) (fun _ _ hq => hq)
    obtain ⟨rfl, h2, h3, h4⟩ := hq
    exact ⟨.inl ⟨.bool true, .bool true, [], rfl, fun _ => rfl, .bool true, post_true l _, fun _ => ⟨List.Pairwise.nil, fun _ hm => (nomatch hm)⟩⟩, h2, h3, h4⟩
theorem attach_call {l : OpenLaw} {n : Nat} {q : Program} {loose : List Str} {XP : (Str → Option Value) → Heap → Prop} {YP : World → Heap → Prop} {d : DefRec}
    (hn : l.most = some n) (hdf : d.params.defaults = [])
    (call : ∀ (w : World) (s₀ s₁ : Shared) (mg mb : Str → Option Value) (fa : Addr) (o : Obj) (pm cd doc : Value) (a : Addr) (vs : List Value) (ns : List Int),
      Ground q loose [] XP w s₀ mg mb s₁.heap → YP w s₁.heap →
      s₁.heap.get? fa = some o → o.data = .func (docDef d.name d.params d.body d.scope pm cd doc) → s₁.heap.CodeRec cd d.name → mg d.name = some (.ref fa) →
      s₁.heap.get? a = some { cls := .type "list", data := .seq vs.toArray } → IntsAre vs ns → ns.length ≤ n → s₁.gens = #[] →
      codeAny (model l.prog w) callerA (.call (.ref fa) ⟨[.ref a], []⟩) (fun r s' => r = .ok (.ret (.bool true)) ∧ OldK s₁.heap s'.heap ∧ s'.os = s₁.os ∧ AllBare s'.gens) s₁) :
    WalkO q loose XP YP l.row.toRowW d [] (fun f vs => PySem.call f vs) := by
  intro w s₀ s₁ mg mb G Y fa o pm cd doc dV kV ho hd hcd hD hmg hg args vals as hpre hlay hrd hwl hlo
  obtain rfl : dV = .none := Dflts.none hD hdf
  obtain rfl : kV = .none := Dflts.noKw hD
  obtain ⟨a, vs, ns, rfl, rfl, hobj, hints, hlen⟩ := script_of hn hpre hwl
  refine enter_call (codeAny_mono (call w s₀ s₁ mg mb fa o pm cd doc a vs ns G Y ho (fd_plain hd) hcd hmg hobj hints hlen hg) fun r s' hq => ?_)
  obtain ⟨rfl, h2, h3, h4⟩ := hq
  exact ⟨.inl ⟨.bool true, .bool true, [], rfl, fun _ => rfl, .bool true, post_true l _, fun _ => ⟨List.Pairwise.nil, fun _ hm => (nomatch hm)⟩⟩, h2, h3, h4⟩
theorem attachN {l : OpenLaw} {n : Nat} {q : Program} {loose : List Str} {XP : (Str → Option Value) → Heap → Prop} {YP : World → Heap → Prop} {d : DefRec} {x : Str}
    (hn : l.most = some n) (hdf : d.params.defaults = [])
    (hbind : ∀ pm cd doc v : Value, bindArgs (docDef d.name d.params d.body d.scope pm cd doc) ⟨[v], []⟩ = pure [(x, v)])
    (hx : d.scope.names.lookup x = some .local ∨ d.scope.names.lookup x = some .cell)
    (hk : d.scope.kind = .function) (hco : d.scope.isCoroutine = false) (hgen : d.scope.isGenerator = false)
    (body : ∀ (w : World) (s₀ s₁ s : Shared) (mg mb : Str → Option Value) (fa : Addr) (o : Obj) (pm cd doc : Value) (a : Addr) (vs : List Value) (ns : List Int),
      Ground q loose [] XP w s₀ mg mb s₁.heap → YP w s₁.heap →
      s₁.heap.get? fa = some o → o.data = .func (docDef d.name d.params d.body d.scope pm cd doc) → s₁.heap.CodeRec cd d.name → mg d.name = some (.ref fa) →
      s₁.heap.get? a = some { cls := .type "list", data := .seq vs.toArray } → IntsAre vs ns → ns.length ≤ n →
      s.gens = #[] → s.os = s₁.os →
      Fr s₁.heap s₁.heap.objs.size s.heap (bindL (envOfC d.name d.scope s₁.heap.objs.size fa cd).kindOf [(x, .ref a)] fun _ => none) →
      Cl s₁.heap.objs.size (cellsFrom (s₁.heap.objs.size + 1) d.scope.names []) s.heap (bindC (envOfC d.name d.scope s₁.heap.objs.size fa cd).kindOf [(x, .ref a)] fun _ => none) →
      wpAny (model l.prog w) (callerA.deeper (envOfC d.name d.scope s₁.heap.objs.size fa cd)) (execs d.body (envOfC d.name d.scope s₁.heap.objs.size fa cd))
        (fun f s' => f = .ret (.bool true) ∧ (∀ b o, s₁.heap.get? b = some o → s'.heap.get? b = some o) ∧ s'.os = s₁.os ∧ s'.gens = #[]) (fun _ _ => False) s) :
    WalkN q loose XP YP l.row.toRowW d [] (fun f vs => PySem.call f vs) := by
  intro w s₀ s₁ mg mb G Y fa o pm cd doc dV kV ho hd hcd hD hmg hg args vals as hpre hlay hrd hwl hlo
  obtain rfl : dV = .none := Dflts.none hD hdf
  obtain rfl : kV = .none := Dflts.noKw hD
  obtain ⟨a, vs, ns, rfl, rfl, hobj, hints, hlen⟩ := script_of hn hpre hwl
  refine enter_callW ?_
  refine call_cells_ret (o := o) (by rw [depth_caller]; decide) ho (fd_plain hd) G.T.nolimit hcd (hbind pm cd doc (.ref a)) (fun y hy => ?_) (fun h₁ tk F X => ?_) hco hgen hk
  · obtain rfl : y = (x, Value.ref a) := List.mem_singleton.mp hy
    rcases hx with e | e
    · exact .inl e
    · exact .inr ⟨e, cellsFrom_some _ _ _ (.inl e)⟩
  · refine wpAny_mono (body w s₀ s₁ { s₁ with heap := h₁, toks := tk } mg mb fa o pm cd doc a vs ns G Y ho (fd_plain hd) hcd hmg hobj hints hlen hg rfl F X) (fun f s' hq => ?_) (fun _ _ hq => hq)
    obtain ⟨rfl, h2, h3, h4⟩ := hq
    exact ⟨.inl ⟨.bool true, .bool true, [], rfl, fun _ => rfl, .bool true, post_true l _, fun _ => ⟨List.Pairwise.nil, fun _ hm => (nomatch hm)⟩⟩, h2, h3, h4⟩
section
variable {prog : Program} {w : World} {A : Around} {E : Value → Shared → Prop} {s : Shared} {K : Frag}
theorem call_fn {R : Result → Shared → Prop} {name qual : Str} {params : Arguments} {body : List Stmt} {scope : Scope} {dV kV doc pm cdv ct oc : Value} {an od : Option Addr} {osl : Array (Option Value)} {f : Addr} {args : Args} {binds : List (Str × Value)}
    (X : K.In s.heap) (hlim : s.heap.NoLimit) (ho : K.lookup f = some ⟨oc, od, .func (fnOf name qual params body scope dV kV doc pm an cdv ct), osl⟩) (hcd : codeIn K cdv qual = true) (hroom : A.depth < recursionLimit)
    (hbind : BindsTo s (fnOf name qual params body scope dV kV doc pm an cdv ct) args binds)
    (hkind : (binds.all fun y => scope.names.lookup y.1 == some .local || scope.names.lookup y.1 == some .cell) = true)
    (h : ∀ s₁, InCallC s s.heap.objs.size (bindL (envOfC qual scope s.heap.objs.size f cdv).kindOf binds fun _ => none) (cellsFrom (s.heap.objs.size + 1) scope.names [])
        (bindC (envOfC qual scope s.heap.objs.size f cdv).kindOf binds fun _ => none) s₁ →
      wpAny (model prog w) (A.deeper (envOfC qual scope s.heap.objs.size f cdv)) (execs body (envOfC qual scope s.heap.objs.size f cdv))
        (fun fl s' => R (.ok (.ret (match fl with | .ret v => v | _ => .none))) s')
        (fun e s' => wpAny (model prog w) (A.deeper (envOfC qual scope s.heap.objs.size f cdv)) (leaving (envOfC qual scope s.heap.objs.size f cdv) e) (fun _ s'' => R (.error e) s'') (fun e' s'' => R (.error e') s'') s') s₁)
    (hco : scope.isCoroutine = false) (hgen : scope.isGenerator = false) (hk : scope.kind = .function) : codeAny (model prog w) A (.call (.ref f) args) R s := by
  refine codeAny_call_function hroom (X _ _ ho) rfl hco hgen rfl (codeRec_of X hcd) (hbind _ _ _ _ ?_)
  refine wpAny_newFunctionEnv_cells hk (kindsX hkind _) fun env he s₁ x => ?_
  subst he
  exact ⟨hlim.keeps x.toInCall.keep, codeAny_func (h s₁ x)⟩
theorem make_obj {R : Result → Shared → Prop} {C fI : Addr} {rest : List Value} {kw : List (Str × Value)}
    (X : K.In s.heap) (hm : makesIn K C = true) (hi : findIn K (.ref C) "__init__" = some (some (.ref fI))) (hf : isFn K (.ref fI) = true)
    (h : codeAny (model prog w) (A.under (.builtin "type.__call__" ⟨.ref C :: rest, kw⟩)) (.call (.ref fI) ⟨.ref (s.heap.objs.size + 1) :: rest, kw⟩) (InitBack (s.heap.objs.size + 1) R)
      { s with heap := (s.heap.push emptyDict).push (instObj C s.heap.objs.size) }) : codeAny (model prog w) A (.call (.ref C) ⟨rest, kw⟩) R s := by
  obtain ⟨hh, g, d, t, os⟩ := s
  exact make_core (makes_of X hm) (looks_findIn X hi) (fun self => bind_fn X self (beq_iff_eq.mp hf)) (.inl rfl) h
theorem get_field {x C : Addr} {ox : Obj} {es : List DictEntry} {n : Nat} {name : Str} {expr : Bool} {v : Value} {Q : Value → Shared → Prop}
    (X : K.In s.heap) (I : PySem.W.InstAt s.heap x ox C (some (dictOf es n))) (hg : plainGet K C name = true) (hh : hasDictIn K C = true) (ha : findIn K (.ref C) name = some none)
    (hl : getL name es = some (some v)) (hv : handedIn v = true) (h : Q v { s with toks := s.toks + 1 }) : wpAny (model prog w) A (getAttr (.ref x) name expr) Q E s :=
  get_value X I (plainGet_of hg).1 (findObj_own hh ha rfl hl) hv h
theorem get_method {x C f : Addr} {ox : Obj} {es : List DictEntry} {n : Nat} {name : Str} {pl : Sem Bool} {Q : Value × List Value → Shared → Prop}
    (X : K.In s.heap) (I : PySem.W.InstAt s.heap x ox C (some (dictOf es n))) (hg : plainGet K C name = true) (hf : findIn K (.ref C) name = some (some (.ref f))) (ht : isFn K (.ref f) = true)
    (hl : getL name es = some none) (h : Q (.ref f, [.ref x]) s) : wpAny (model prog w) A (getMethod (.ref x) name pl) Q E s :=
  method_fn X I (plainGet_of hg).1 (plainGet_of hg).2 hf (beq_iff_eq.mp ht) (by show (lookIn name (dictOf es n)).map _ = _; rw [lookIn_dict, hl]; rfl) h
def noObjs (h : Heap) : Heap := { h with objs := #[] }
theorem noObjs_get (h : Heap) (b : Addr) : (noObjs h).get? b = none := by
  cases e : (noObjs h).get? b with
  | none => rfl
  | some o => exact absurd (Heap.lt_size e) (Nat.not_lt_zero _)
def ledger (h : Heap) (L d : Addr) : List (Addr × Obj) := (List.range h.objs.size).filterMap fun a => if a = L ∨ a = d then none else (h.get? a).map fun o => (a, o)
theorem mem_ledger {h : Heap} {L d a : Addr} {o : Obj} : (a, o) ∈ ledger h L d ↔ a ≠ L ∧ a ≠ d ∧ h.get? a = some o := by
  unfold ledger
  rw [List.mem_filterMap]
  constructor
  · rintro ⟨b, _, e⟩
    split at e
    · cases e
    · rename_i hb
      obtain ⟨o', ho, e'⟩ := Option.map_eq_some_iff.mp e
      cases e'
      exact ⟨fun q => hb (.inl q), fun q => hb (.inr q), ho⟩
  · rintro ⟨n1, n2, ho⟩
    refine ⟨a, List.mem_range.mpr (Heap.lt_size ho), ?_⟩
    rw [if_neg (show ¬ (a = L ∨ a = d) from fun q => q.elim n1 n2), ho] <;> rfl
theorem news_ledger {h : Heap} {L d : Addr} {od : Obj} (hne : d ≠ L) (ho : h.get? d = some od) : News (noObjs h) L h ([] ++ (d, od) :: ledger h L d) := by
  rintro ⟨a, o⟩ hp
  rcases List.mem_cons.mp hp with e | hp
  · cases e
    exact ⟨ho, hne, noObjs_get _ _⟩
  · obtain ⟨n1, n2, e⟩ := mem_ledger.mp hp
    exact ⟨e, n1, noObjs_get _ _⟩
theorem fr_all {h : Heap} {L : Addr} {m : Str → Option Value} (n : h.Ns L m) : Fr (noObjs h) L h m :=
  ⟨n, fun b o e => (by rw [noObjs_get] at e; cases e), Nat.zero_le _⟩
theorem upd_ledger {h : Heap} {L d : Addr} {o o' : Obj} : Upd d o o' ((d, o) :: ledger h L d) ((d, o') :: ledger h L d) :=
  .head fun ⟨_, _⟩ hp => (mem_ledger.mp hp).2.1
theorem set_field {x C dx L : Addr} {ox : Obj} {m : Str → Option Value} {es es' : List DictEntry} {n n' : Nat} {name : Str} {v : Value} {Q : Unit → Shared → Prop}
    (X : K.In s.heap) (I : PySem.W.InstAt s.heap x ox C (some (dictOf es n))) (hd : ox.dict = some dx) (hL : s.heap.Ns L m) (hne : dx ≠ L)
    (hs : findIn K (.ref C) "__setattr__" = some (some (.builtin "object.__setattr__"))) (hp : plainOver K C = true) (ht : takerIn K C name = some none) (hh : hasDictIn K C = true) (hl : (getL name es).isSome = true)
    (e : (putL name (PyData.keyHash w.params name) (.str name (s.toks + 1)) v es, putN name es n) = (es', n')) (hz : es'.length ≤ 1000)
    (h : ∀ h' : Heap, h'.Ns L m → h'.get? dx = some (dictOf es' n') → (∀ b o, b ≠ dx → b ≠ L → s.heap.get? b = some o → h'.get? b = some o) → Q () { s with heap := h', toks := s.toks + 2 }) :
    wpAny (model prog w) A (setAttr (.ref x) name v) Q E s := by
  obtain ⟨e1, e2⟩ := Prod.mk.inj e
  have hdx : s.heap.get? dx = some (dictOf es n) := by
    have := I.dict
    rw [hd] at this
    exact this
  refine set_plain X I hs (osa_dict (s := { s with toks := s.toks + 1 }) (h₀ := noObjs s.heap) (L := L) (m := m) (od := dictOf es n) (od' := dictOf es' n') (es := es') (n := n') (pre := []) (post := ledger s.heap L dx)
    (fr_all hL) (news_ledger hne hdx) X I hd hp ht hh hl (fun _ q => nomatch q) (fun ⟨_, _⟩ q => (mem_ledger.mp q).2.1) (by rw [putName_dict, e1, e2]) rfl hz fun h' F' N' => ?_)
  exact h h' F'.ns (N'.get (List.Mem.head _)) fun b o n1 n2 ho => N'.get (List.Mem.tail _ (mem_ledger.mpr ⟨n2, n1, ho⟩))
end
end Att
namespace L2
open PySem PySem.Spec PyProof.Rows
theorem vals_ints : ∀ {vs : List Value} {ns : List Int}, IntsAre vs ns → Vals (ns.map V.int) vs
  | _, _, .nil => .nil
  | _, _, .cons n t h => .cons ⟨t, rfl⟩ (vals_ints h)
def Only (H : Hp) : Prop := ∀ b, H b = none ∨ ∃ o xs, H b = some (.frz o (.lst xs))
theorem law_call {P : Program} {w : World} {K : PySem.W.Frag} {mg mb : Str → Option Value} {CX : CXT} {k : Nat} {fa a : Addr} {fd : FuncData} {x : Str} {sp : Sp} {s₁ : Shared} {vs : List Value} {ns : List Int}
    (KX : K.In s₁.heap) (hns : s₁.heap.Ns mainGlobals mg) (hb : s₁.heap.Ns builtinsNs mb) (hbb : ∀ x : Str, x ≠ "__name__" → mb x = bootBuiltins x) (hlim : s₁.heap.NoLimit) (hg : s₁.gens = #[])
    (ha : s₁.heap.get? a = some { cls := .type "list", data := .seq vs.toArray }) (hi : IntsAre vs ns) (hl : ns.length ≤ sizeLine) (hr : Room k callerA)
    (F : ∀ base : Heap, K.In base → base.Ns mainGlobals mg → FnOk P w K mg base CX k fa fd [x] sp) (hbind : ∀ (s : Shared) (u : Value), BindsTo s fd ⟨[u], []⟩ [(x, u)])
    (hsp : ∀ H : Hp, Only H → SqL K H a (ns.map V.int) → sp [.ref a] H (fun v _ => v = .bl true) fun _ _ _ => False)
    (hCX : ∀ H e s', CX [] H s₁ (fun _ _ _ => False) e s' → False) :
    codeAny (model P w) callerA (.call (.ref fa) ⟨[.ref a], []⟩) (fun r s' => r = .ok (.ret (.bool true)) ∧ OldK s₁.heap s'.heap ∧ s'.os = s₁.os ∧ AllBare s'.gens) s₁ := by
  have rv := vals_ints hi
  have lenV := hi.length
  have core : ∀ H : Hp, Only H → SqL K H a (ns.map V.int) → HOk P w H s₁.heap → (∀ b, H b ≠ none → b = a) → (H a ≠ none → K.lookup a = none) →
      codeAny (model P w) callerA (.call (.ref fa) ⟨[.ref a], []⟩) (fun r s' => r = .ok (.ret (.bool true)) ∧ OldK s₁.heap s'.heap ∧ s'.os = s₁.os ∧ AllBare s'.gens) s₁ := by
    intro H hO hS hok hA hK
    have base_of : ∀ {b : Addr} {o : Obj}, s₁.heap.get? b = some o → H b = none → (hidT s₁.heap H).get? b = some o := fun e n => hidT_get e n
    have noA : ∀ {b : Addr} {o : Obj} {es : Array DictEntry} {ep : Nat}, s₁.heap.get? b = some o → o.data = .dict es ep → H b = none := fun {b o es ep} e d => by
      cases q : H b with
      | none => rfl
      | some u =>
        have e' : b = a := hA b (by rw [q]; simp)
        subst e'
        rw [ha] at e; cases e
        have d' : Data.seq vs.toArray _ = Data.dict es ep := d
        cases d'
    have nsK : ∀ {b : Addr} {m : Str → Option Value}, s₁.heap.Ns b m → (hidT s₁.heap H).Ns b m := fun {b m} ⟨o, es, ep, e, d, r⟩ => ⟨o, es, ep, base_of e (noA e d), d, r⟩
    have hKb : K.In (hidT s₁.heap H) := fun b o e => base_of (KX b o e) (by
      cases q : H b with
      | none => rfl
      | some u =>
        have e' : b = a := hA b (by rw [q]; simp)
        subst e'
        rw [hK (by rw [q]; simp)] at e; cases e)
    have hM : Mod K mg (hidT s₁.heap H) := ⟨hKb, nsK hns, ⟨mb, nsK hb, hbb⟩, let ⟨mc, h1, h2⟩ := hlim; ⟨mc, nsK h1, h2⟩⟩
    have e0 : Env0 P w K mg (hidT s₁.heap H) callerA [] s₁ H := ⟨rfl, hM, fun b o e => of_hidT e, Nat.le_of_eq (hidT_size _ _), trivial, fun b hb => absurd (show b ∈ ([] : List Addr) from hb) (by simp), hok, .of_eq hg⟩
    refine codeAny_mono ((F _ hKb (nsK hns)).run callerA [] s₁ H ⟨[.ref a], []⟩ [.ref a] [.ref a] _ _ hr e0 (hbind s₁ (.ref a)) (.cons rfl .nil) (hsp H hO hS)) fun r s' h => ?_
    cases r with
    | error e => exact (hCX H e s' h).elim
    | ok fl =>
      cases fl with
      | next => exact False.elim h
      | brk => exact False.elim h
      | cont => exact False.elim h
      | ret u =>
        obtain ⟨v, H', os, bare, un, hok', r', q⟩ := h
        have q' : v = .bl true := q
        subst q'
        obtain rfl : u = Value.bool true := r'
        refine ⟨rfl, OldK.of_keep fun b o e => ?_, os, bare⟩
        cases q : H b with
        | none => exact un.keep b o e q (by intro z; exact absurd (show b ∈ ([] : List Addr) from z) (by simp)) (by simp)
        | some u =>
          rcases hO b with z | ⟨ob, xs, z⟩
          · rw [q] at z; cases z
          · have z2 := un.frzs b ob _ z
            obtain ⟨e1, _⟩ := hok b _ z
            obtain ⟨e2, _⟩ := hok' b _ z2
            rw [e] at e1; cases e1
            exact e2
  cases hk : K.lookup a with
  | some o =>
    have e := KX a o hk
    rw [ha] at e
    cases e
    refine core (fun _ => none) (fun _ => .inl rfl) (.inr ⟨_, vs.toArray, _, hk, rfl, rfl, rfl, by rw [List.size_toArray, lenV]; exact hl, by simpa using rv⟩) (fun b u z => by have z' : (none : Option HO) = some u := z; cases z') (fun b z => absurd rfl z) fun z => absurd rfl z
  | none =>
    refine core (fun b => if b = a then some (.frz { cls := .type "list", data := .seq vs.toArray } (.lst (ns.map V.int))) else none) (fun b => ?_) (.inl (.inr ⟨{ cls := .type "list", data := .seq vs.toArray }, if_pos rfl⟩)) (fun b u z => ?_) (fun b z => ?_) fun _ => hk
    · by_cases hb : b = a
      · exact .inr ⟨_, _, if_pos hb⟩
      · exact .inl (if_neg hb)
    · by_cases hb : b = a
      · have z' := (if_pos hb).symm.trans z
        cases z'
        subst hb
        exact ⟨ha, by rw [List.length_map]; exact hl, vs, _, rv, ha⟩
      · have z' := (if_neg hb).symm.trans z
        cases z'
    · by_cases hb : b = a
      · exact hb
      · exact absurd (if_neg hb) z
end L2
namespace L2
open PySem PySem.Spec PyProof.Rows
abbrev KOf {K : PySem.W.Frag} {h : Heap} (_ : K.In h) : PySem.W.Frag := K
theorem walk_of {l : PySem.W.OpenLaw} {n k : Nat} {q : Program} {loose : List Str} {XP : (Str → Option Value) → Heap → Prop} {YP : World → Heap → Prop} {d : DefRec} {K : Params → PySem.W.Frag} {CX : World → CXT} {sp : World → Sp} {x : Str}
    (hn : l.most = some n) (hn2 : n ≤ sizeLine) (hdf : d.params.defaults = []) (hr : Room k callerA)
    (hY : ∀ (w : World) (h : Heap), YP w h → (K w.params).In h)
    (F : ∀ (w : World) (mg : Str → Option Value) (fa : Addr) (h : Heap), (K w.params).In h → h.Ns mainGlobals mg → mg d.name = some (.ref fa) →
      ∃ fd : FuncData, (∀ (s : Shared) (u : Value), BindsTo s fd ⟨[u], []⟩ [(x, u)]) ∧
        ∀ base : Heap, (K w.params).In base → base.Ns mainGlobals mg → FnOk l.prog w (K w.params) mg base (CX w) k fa fd [x] (sp w))
    (hsp : ∀ (w : World) (H : Hp) (a : Addr) (ns : List Int), ns.length ≤ n → Only H → SqL (K w.params) H a (ns.map V.int) → sp w [.ref a] H (fun v _ => v = .bl true) fun _ _ _ => False)
    (hCX : ∀ (w : World) (H : Hp) (s : Shared) (e : Value) (s' : Shared), CX w [] H s (fun _ _ _ => False) e s' → False) :
    PySem.W.WalkO q loose XP YP l.row.toRowW d [] (fun f vs => PySem.call f vs) := by
  refine Att.attach_call hn hdf fun w s₀ s₁ mg mb fa o pm cd doc a vs ns G Y ho hd hcd hmg hobj hints hlen hg => ?_
  have KX := hY w _ Y
  obtain ⟨fd, hb, hF⟩ := F w mg fa _ KX G.T.g hmg
  exact law_call KX G.T.g G.T.b G.T.builtins G.T.nolimit hg hobj hints (Nat.le_trans hlen hn2) hr hF hb (fun H hO hS => hsp w H a ns hlen hO hS) fun H e s' => hCX w H s₁ e s'
theorem walk_ofK {l : PySem.W.OpenLaw} {n k : Nat} {q : Program} {loose : List Str} {XP : (Str → Option Value) → Heap → Prop} {YP : World → Heap → Prop} {d : DefRec} {K : Params → PySem.W.Frag} {CX : CXT} {sp : PySem.W.Frag → Sp} {x : Str}
    (hn : l.most = some n) (hn2 : n ≤ sizeLine) (hdf : d.params.defaults = []) (hr : Room k callerA)
    (hY : ∀ (w : World) (h : Heap), YP w h → (K w.params).In h)
    (F : ∀ (w : World) (mg : Str → Option Value) (fa : Addr) (h : Heap), (K w.params).In h → h.Ns mainGlobals mg → mg d.name = some (.ref fa) →
      ∃ fd : FuncData, (∀ (s : Shared) (u : Value), BindsTo s fd ⟨[u], []⟩ [(x, u)]) ∧
        ∀ base : Heap, (K w.params).In base → base.Ns mainGlobals mg → FnOk l.prog w (K w.params) mg base CX k fa fd [x] (sp (K w.params)))
    (hsp : ∀ (K : PySem.W.Frag) (H : Hp) (a : Addr) (ns : List Int), ns.length ≤ n → Only H → SqL K H a (ns.map V.int) → sp K [.ref a] H (fun v _ => v = .bl true) fun _ _ _ => False)
    (hCX : ∀ (H : Hp) (s : Shared) (e : Value) (s' : Shared), CX [] H s (fun _ _ _ => False) e s' → False) :
    PySem.W.WalkO q loose XP YP l.row.toRowW d [] (fun f vs => PySem.call f vs) :=
  walk_of (K := K) (CX := fun _ => CX) (sp := fun w => sp (K w.params)) hn hn2 hdf hr hY F (fun w H a ns h1 h2 h3 => hsp (K w.params) H a ns h1 h2 h3) fun _ H s e s' => hCX H s e s'
end L2
/- THE LAST THEOREM (shape; LID, My.* are yours):
   My.Adr: a structure of the addresses that your layer names (classes, functions); My.Txt K t: a structure (Prop) of the equations over K;
   My.txt_mk : {K} {implicit addresses ..} (e1 : nsIn K mainGlobals "law" = some (some (.ref f))) (e2 : K.lookup f = some ⟨oc, od, .func (fnOf "law" "law" params body scope dV kV doc pm an cdv ct), sl⟩) (e3 : codeIn K cdv "law" = true) .. : ∃ t, My.Txt K t
set_option maxRecDepth 100000 in
set_option maxHeartbeats 0 in
theorem PySem.Challenge.cw_LID_holds : PySem.Challenge.rw_LID.Holds := by
  w_on; o_law; k_head; (case hw => w_witness2)
  k_fill
  refine L2.walk_of (l := PySem.Challenge.rw_LID) (n := 63) (k := 40) (x := "script") (CX := fun w => ..) (sp := fun _ => My.sp_law) rfl (by decide) rfl ⟨rfl, by decide, by decide⟩ (fun w h Y => PySem.W.kIn_of Y) ?F ?S ?C
  case F =>
    intro w mg fa h KX G hmg
    have T : ∃ t, My.Txt (L2.KOf KX) t := by
      dsimp only [L2.KOf]                          -- K must stand as «<heap const> w.params» for k_is
      refine' My.txt_mk ?e1 ?e2 ?e3 ..
      (case e1 => PySem.W.k_is)                    -- in the order: a name -> its address -> its object -> its parts
      (case e2 => PySem.W.k_is)
      ..
    obtain ⟨t, T⟩ := T
    have e0 := hmg.symm.trans (PySem.W.mg_of KX G T.law)
    cases e0                                       -- fa is the law's own address
    exact ⟨_, fun s u => .of_eq rfl, fun base kb nb => My.law_fn T kb nb⟩     -- if «.of_eq rfl» comes too early: refine' ⟨_, ?b, fun base kb nb => My.law_fn T kb nb⟩; exact fun s u => .of_eq rfl
  case S => exact fun w H a ns hl hO hS => ..
  case C => exact ..
(the tactic k_is has no namespace: write k_is) -/
namespace L2
open PySem PySem.Spec PyProof.Rows
def inClass (s : Stmt) (j : Nat) : Stmt := match s with
  | .ClassDef _ _ _ body _ _ _ _ _ _ _ => body.getD j (.Pass ⟨0, 0, 0, 0⟩)
  | _ => .Pass ⟨0, 0, 0, 0⟩
def defArgs (s : Stmt) : Arguments := match s with
  | .FunctionDef _ a _ _ _ _ _ _ _ _ => a
  | _ => { posonlyargs := [], args := [], vararg := none, kwonlyargs := [], kw_defaults := [], kwarg := none, defaults := [] }
def defBody (s : Stmt) : List Stmt := match s with
  | .FunctionDef _ _ b _ _ _ _ _ _ _ => b
  | _ => []
def defScope (s : Stmt) : Scope := match s with
  | .FunctionDef _ _ _ _ _ _ sc _ _ _ => sc
  | _ => { kind := .function, names := [], isGenerator := false, isCoroutine := false }
abbrev CX0 : CXT := fun _ _ _ _ _ _ => False
abbrev E0 : XK := fun _ _ _ => False
theorem pass0 {X : Cx} : Passes CX0 X E0 := fun _ _ _ _ _ _ _ h => h.elim
structure Fun (K : PySem.W.Frag) (x qual : Str) (st : Stmt) (f : Addr) (fd : FuncData) : Prop where
  ex : ∃ (oc : Value) (od : Option Addr) (kV doc pm : Value) (an : Option Addr) (cdv ct : Value) (osl : Array (Option Value)),
    fd = PySem.W.fnOf x qual (defArgs st) (defBody st) (defScope st) .none kV doc pm an cdv ct ∧ K.lookup f = some ⟨oc, od, .func fd, osl⟩ ∧ PySem.W.codeIn K cdv qual = true
  kp : PySem.W.keepIn K (.ref f) = true
section
variable {P : Program} {w : World} {K : PySem.W.Frag} {mg : Str → Option Value} {base : Heap}
theorem Fun.ok {x qual : Str} {st : Stmt} {f : Addr} {fd : FuncData} {N ps : List Str} {k : Nat} {sp : Sp} (F : Fun K x qual st f fd) (S : FnScope N ps (defScope st)) (len : ∀ vs H Q E, sp vs H Q E → vs.length = ps.length)
    (hbody : ∀ (cdv : Value) (A : Around) (outer : List Env) (s : Shared) (H : Hp) (vs : List V) (Q : VK) (E : XK), Room k (A.deeper (envOfC qual (defScope st) s.heap.objs.size f cdv)) → sp vs H Q E →
      ∃ t, PSs (cxOf CX0 P w K mg base N qual (defScope st) f cdv A outer s H E).nox (defBody st) t ∧ t { nx := fun _ H' => Q .non H', rt := Q } (start N vs) H) : FnOk P w K mg base CX0 (k + 1) f fd ps sp := by
  obtain ⟨oc, od, kV, doc, pm, an, cdv, ct, osl, rfl, lk, hcd⟩ := F.ex
  refine fn_of lk hcd S len fun A outer s H vs Q E hr hsp => ?_
  obtain ⟨t, h, q⟩ := hbody cdv A outer s H vs Q E hr hsp
  exact ⟨t, h.nox, q⟩
theorem Fun.binds {x qual : Str} {st : Stmt} {f : Addr} {fd : FuncData} {ps : List Str} (F : Fun K x qual st f fd)
    (h : ∀ (kV doc pm : Value) (an : Option Addr) (cdv ct : Value) (us : List Value), us.length = ps.length → bindArgs (PySem.W.fnOf x qual (defArgs st) (defBody st) (defScope st) .none kV doc pm an cdv ct) ⟨us, []⟩ = pure (ps.zip us)) : Binds K fd ps [] := by
  obtain ⟨oc, od, kV, doc, pm, an, cdv, ct, osl, rfl, lk, hcd⟩ := F.ex
  exact .all (h kV doc pm an cdv ct)
theorem fun_mk {x qual : Str} {st : Stmt} {f : Addr} {oc : Value} {od an : Option Addr} {osl : Array (Option Value)} {kV doc pm cdv ct : Value} (l : K.lookup f = some ⟨oc, od, .func (PySem.W.fnOf x qual (defArgs st) (defBody st) (defScope st) .none kV doc pm an cdv ct), osl⟩)
    (c : PySem.W.codeIn K cdv qual = true) (k : PySem.W.keepIn K (.ref f) = true) : Fun K x qual st f (PySem.W.fnOf x qual (defArgs st) (defBody st) (defScope st) .none kV doc pm an cdv ct) := ⟨⟨oc, od, kV, doc, pm, an, cdv, ct, osl, rfl, l, c⟩, k⟩
end
theorem hu_of {A : Around} {k : Nat} (hr : Room k A) : A.units + 1 < cLine := Nat.lt_of_le_of_lt (Nat.add_le_add_left (by decide : 1 ≤ 64) _) hr.units
theorem small1000 {n : Nat} (h : n ≤ 1000) : n < sizeLine := Nat.lt_of_le_of_lt h (by decide)
section
variable {X : Cx}
theorem pv (i : Nat) {x : Str} {pos : Pos} (hN : X.N[i]? = some x := by rfl) (hv : Vis X.env.scope x := by first | exact Or.inl rfl | exact Or.inr (Or.inl rfl) | exact Or.inr (Or.inr rfl)) (hd : (x == ("__debug__" : Str)) = false := by decide)
    (hcd : (x == ("__classdict__" : Str)) = false := by decide) : PE X (.Name x pos) (tVar i) := pe_var hN hv hd hcd
end
theorem iteF {A B : Prop} (h : B) : if false = true then A else B := by
  rw [if_neg Bool.false_ne_true]
  exact h
theorem iteT {A B : Prop} (h : A) : if true = true then A else B := by
  rw [if_pos rfl]
  exact h
theorem ite2 {c A B : Prop} [Decidable c] (h1 : c → A) (h2 : ¬ c → B) : if c then A else B := by
  by_cases h : c
  · rw [if_pos h]
    exact h1 h
  · rw [if_neg h]
    exact h2 h
theorem iteNS {c A B : Prop} [Decidable c] (hc : c) (h : B) : if (!decide c) = true then A else B := by
  rw [decide_eq_true hc]
  exact iteF h
def Same (H H' : Hp) : Prop := ∀ b o, H b = some o → H' b = some o
theorem Same.refl (H : Hp) : Same H H := fun _ _ h => h
theorem Same.trans {H H1 H2 : Hp} (a : Same H H1) (b : Same H1 H2) : Same H H2 := fun c o h => b c o (a c o h)
theorem Same.free {H H' : Hp} (e : Same H H') {l : Addr} (h : H' l = Option.none) : H l = Option.none := by
  cases q : H l with
  | none => rfl
  | some o =>
    rw [e l o q] at h
    cases h
theorem Same.seq {K : PySem.W.Frag} {H H' : Hp} {a : Addr} {xs : List V} (e : Same H H') (h : SqL K H a xs) : SqL K H' a xs := by
  rcases h with (h | ⟨o, h⟩) | h
  · exact .inl (.inl (e _ _ h))
  · exact .inl (.inr ⟨o, e _ _ h⟩)
  · exact .inr h
end L2
end
section
set_option Elab.async false
set_option linter.all false
set_option maxRecDepth 100000
namespace L2
open PySem PySem.Spec PyProof.Rows
theorem forIn_all {α β : Type} (Iv : List α → β → Prop) {f : α → β → Sem (ForInStep β)} (h : ∀ x r c, Iv (x :: r) c → ∃ c', f x c = pure (.yield c') ∧ Iv r c') :
    ∀ (l : List α) (c : β), Iv l c → ∃ c', forIn l c f = pure c' ∧ Iv [] c'
  | [], c, i => ⟨c, rfl, i⟩
  | x :: l, c, i => by
    obtain ⟨c1, e, i1⟩ := h x l c i
    obtain ⟨c2, e2, i2⟩ := forIn_all Iv h l c1 i1
    exact ⟨c2, by rw [List.forIn_cons, e, pure_bind]; exact e2, i2⟩
theorem closureFor_of {scope : Scope} {env : Env} (h : ∀ y ∈ scope.names, y.2 = .free → ∃ c, env.cells.lookup y.1 = some c) :
    ∃ cl, closureFor scope env = pure cl ∧ (∀ y c, cl.lookup y = some c → env.cells.lookup y = some c) ∧ ∀ y, (y, NameKind.free) ∈ scope.names → ∃ c, cl.lookup y = some c := by
  have key := forIn_all (f := fun (x : Str × NameKind) (cs : List (Str × Addr)) => (match x with
      | (name, kind) => if kind == .free then (do let a ← cellOf env name; pure (ForInStep.yield ((name, a) :: cs))) else pure (ForInStep.yield cs) : Sem (ForInStep (List (Str × Addr)))))
    (fun rest cs => ∃ done, scope.names = done ++ rest ∧ (∀ y c, cs.lookup y = some c → env.cells.lookup y = some c) ∧ ∀ y, (y, NameKind.free) ∈ done → ∃ c, cs.lookup y = some c)
    (fun x r cs ⟨done, e, h1, h2⟩ => ?_) scope.names [] ⟨[], rfl, fun y c z => by simp at z, fun y z => by simp at z⟩
  · obtain ⟨cl, e, done, ed, h1, h2⟩ := key
    refine ⟨cl, ?_, h1, fun y hy => h2 y (by rw [ed, List.append_nil] at hy; exact hy)⟩
    unfold closureFor
    have : ∀ m : Sem (List (Str × Addr)), m = pure cl → (m >>= fun cs => pure cs) = (pure cl : Sem (List (Str × Addr))) := fun m q => by rw [q]; rfl
    exact this _ e
  · obtain ⟨name, kind⟩ := x
    by_cases hk : kind = .free
    · subst hk
      obtain ⟨c, hc⟩ := h (name, .free) (by rw [e]; simp) rfl
      refine ⟨(name, c) :: cs, ?_, done ++ [(name, .free)], by rw [e]; simp, fun y c' z => ?_, fun y hy => ?_⟩
      · show (if (NameKind.free == NameKind.free) = true then _ else _) = _
        rw [if_pos (show (NameKind.free == NameKind.free) = true from rfl)]
        unfold cellOf
        rw [show env.cells.lookup name = some c from hc]
        rfl
      · by_cases q : y = name
        · subst q
          rw [List.lookup_cons, show (y == y) = true from beq_self_eq_true y] at z
          cases z
          exact hc
        · rw [List.lookup_cons, show (y == name) = false from beq_eq_false_iff_ne.mpr q] at z
          exact h1 y c' z
      · by_cases q : y = name
        · subst q
          exact ⟨c, by rw [List.lookup_cons, show (y == y) = true from beq_self_eq_true y]⟩
        · rcases List.mem_append.mp hy with m | m
          · obtain ⟨c', e'⟩ := h2 y m
            exact ⟨c', by rw [List.lookup_cons, show (y == name) = false from beq_eq_false_iff_ne.mpr q]; exact e'⟩
          · have : (y, NameKind.free) = (name, NameKind.free) := by simpa using m
            exact absurd (congrArg Prod.fst this) q
    · refine ⟨cs, ?_, done ++ [(name, kind)], by rw [e]; simp, h1, fun y hy => ?_⟩
      · show (if (kind == NameKind.free) = true then _ else _) = _
        rw [if_neg (by simpa using hk)]
      · rcases List.mem_append.mp hy with m | m
        · exact h2 y m
        · have : (y, NameKind.free) = (name, kind) := by simpa using m
          exact absurd (congrArg Prod.snd this).symm hk
def cxComp (X : Cx) (scope : Scope) (cl : List (Str × Addr)) (C : Addr) (N : List Str) (s : Shared) (H : Hp) (fp : List Addr) : Cx :=
  { X with N := N, s₀ := s, H₀ := H, env := compEnvC scope cl C X.env, outer := X.stack, stack := X.stack, ex := fp, fn := fun _ => false, pn := [], xe := fun _ _ => False }
def capOk (NX : List Str) (sn names : List (Str × NameKind)) (fr : List Str) (js : List Nat) : Bool :=
  (fr.length == js.length) && (fr.zip js).all fun p => decide (NX[p.2]? = some p.1) && decide (names.lookup p.1 = some .free) && decide (sn.lookup p.1 = some .cell)
def scOk (sn names : List (Str × NameKind)) : Bool :=
  names.all fun y => (decide (y.2 = .local) && decide (names.lookup y.1 = some .local)) || (decide (y.2 = .free) && decide (sn.lookup y.1 = some .cell)) || decide (y.2 = .globalImplicit)
def cap (js : List Nat) (σ : St) : St := js.map fun j => (σ[j]?).join
def tComp (wi : TI) (g : TG) (tc : TT) (te : TE) (k : Nat) (js : List Nat) : TE := fun σ H Q => wi σ H fun J H1 => ∀ D, H1 D = none →
  ∃ W : Nat → Nat → List V → Hp → Prop, (∃ m, W 0 m [] (upd H1 D (.lst []))) ∧ ∀ i m ys H, W i m ys H → H D = some (.lst ys) →
    (J.stop i H ∧ Q (.ref D) H) ∨ (J.go i H ∧ ∀ x H', J.yld i H x H' → g x (List.replicate k none ++ cap js σ) H' fun σ2 H2 => σ2.drop k = cap js σ ∧ tc σ2 H2 fun b H3 =>
      if b = true then te σ2 H3 fun y H4 => H4 D = some (.lst ys) ∧ ys.length < sizeLine ∧ ∃ m', m' < m ∧ W (i + 1) m' (ys ++ [y]) (upd H4 D (.lst (ys ++ [y])))
      else H3 D = some (.lst ys) ∧ ∃ m', m' < m ∧ W (i + 1) m' ys H3)
section
variable {prog : Program} {w : World} {A : Around} {R : Result → Shared → Prop} {s : Shared}
theorem compLoop_any {elt target iter : Expr} {ifs : List Expr} {scope : Scope} {pos : Pos} {it acc : Value} {env : Env} (I : Nat → Shared → Prop)
    (turn : ∀ n s, I n s → wpAny (model prog w) A (pyNext it) (fun r s₁ => match r with
      | none => R (.ok .next) s₁
      | some v => wpAny (model prog w) A (letOwnedTupleGo target it v) (fun _ s₁' => wpAny (model prog w) A (assign target env v) (fun _ s₂ =>
          wpAny (model prog w) A (forIn ifs true fun c r => if r = true then do let ok ← isTrue c env (eval c env); pure (ForInStep.yield ok) else pure (ForInStep.yield r)) (fun ok s₃ =>
            if ok = true then wpAny (model prog w) A (eval elt env) (fun x s₄ =>
              wpAny (model prog w) A (call (.builtin "list.append") [acc, x]) (fun _ s₅ => ∃ m, m < n ∧ I m s₅) (fun _ _ => False) s₄) (fun _ _ => False) s₃
            else ∃ m, m < n ∧ I m s₃) (fun _ _ => False) s₂) (fun _ _ => False) s₁') (fun _ _ => False) s₁) (fun _ _ => False) s)
    (n : Nat) (h : I n s) :
    codeAny (model prog w) A (.compLoop (.ListComp elt [⟨target, iter, ifs, 0⟩] scope pos) 0 it acc env) R s := by
  refine codeAny_loop rfl I (fun n s hI => ?_) n h
  show wpAny _ A ((compTurn (.ListComp elt [⟨target, iter, ifs, 0⟩] scope pos) 0 it acc env).onRaise (fun x => do noteFrame x env; theTreesLotGoes x)) _ _ s
  refine wpAny_noted ?_
  rw [compTurn_list]
  refine wpAny_bind (wpAny_standAt (wpAny_bind (wpAny_mono (turn n s hI) (fun r s₁ h₁ => ?_) fun _ _ h' => h'.elim)))
  cases r with
  | none => exact wpAny_pure h₁
  | some v =>
    refine wpAny_bind (wpAny_mono h₁ (fun _ s₁' h₁' => ?_) fun _ _ h' => h'.elim)
    refine wpAny_bind (wpAny_mono h₁' (fun _ s₂ h₂ => wpAny_bind (wpAny_mono h₂ (fun ok s₃ h₃ => ?_) fun _ _ h' => h'.elim)) fun _ _ h' => h'.elim)
    cases ok with
    | false => exact wpAny_pure ⟨rfl, h₃⟩
    | true =>
      exact wpAny_bind (wpAny_bind (wpAny_mono h₃ (fun x s₄ h₄ => wpAny_bind (wpAny_mono h₄ (fun _ s₅ h₅ => wpAny_pure (wpAny_pure ⟨rfl, h₅⟩)) fun _ _ h' => h'.elim)) fun _ _ h' => h'.elim))
end
def PTs (X : Cx) (ifs : List Expr) (t : TT) : Prop :=
  ∀ (pins : List (Addr × Obj)) (s : Shared) (σ : St) (H : Hp) (Q : Bool → Hp → Prop), Inv X pins σ H s → t σ H Q →
    wpAny (model X.prog X.w) X.A (forIn ifs true fun c r => if r = true then do let ok ← isTrue c X.env (eval c X.env); pure (ForInStep.yield ok) else pure (ForInStep.yield r)) (TP X pins σ Q) X.xe s
def tAlways : TT := fun _ H Q => Q true H
theorem pts_nil {X : Cx} : PTs X [] tAlways := fun _ _ _ H _ I h => wpAny_tests_nil ⟨H, I, h⟩
theorem pts_one {X : Cx} {c : Expr} {t : TT} (h : PT X c t) : PTs X [c] t := fun pins s σ H Q I hw => wpAny_tests_one (h pins s σ H Q I hw)
theorem relabel_mem {scope : Scope} {env : Env} {y : Str} {k : NameKind} (h : (relabel scope env).names.lookup y = some k) : ∃ k0, (y, k0) ∈ scope.names ∧ (k = k0 ∨ (k0 = .free ∧ k = .cell)) := by
  have m := PySem.mem_of_lookup h
  obtain ⟨⟨n, k0⟩, hm, e⟩ := List.mem_map.mp (show (y, k) ∈ scope.names.map _ from m)
  by_cases c : (k0 == NameKind.free && env.scope.kind == .function && env.kindOf n == some .cell) = true
  · have e : (if (k0 == NameKind.free && env.scope.kind == .function && env.kindOf n == some .cell) = true then (n, NameKind.cell) else (n, k0)) = (y, k) := e
    rw [if_pos c] at e
    have e1 := congrArg Prod.fst e
    have e2 := congrArg Prod.snd e
    subst e1 e2
    refine ⟨k0, hm, .inr ⟨?_, rfl⟩⟩
    rw [Bool.and_eq_true, Bool.and_eq_true] at c
    simpa using c.1.1
  · have e : (if (k0 == NameKind.free && env.scope.kind == .function && env.kindOf n == some .cell) = true then (n, NameKind.cell) else (n, k0)) = (y, k) := e
    rw [if_neg c] at e
    have e1 := congrArg Prod.fst e
    have e2 := congrArg Prod.snd e
    subst e1 e2
    exact ⟨_, hm, .inl rfl⟩
section
variable {X : Cx}
structure CFree (X : Cx) (pins : List (Addr × Obj)) (H : Hp) (C : Addr) : Prop where
  fr : H C = none
  ne : C ≠ X.env.locals
  ab : X.s₀.heap.objs.size ≤ C
  ce : ∀ x c, X.env.cells.lookup x = some c → c ≠ C
  pn : ∀ p ∈ X.pn ++ pins, p.1 ≠ C
theorem CFree.turn {pins : List (Addr × Obj)} {σ : St} {H : Hp} {C : Addr} {s : Shared} {h' : Heap} (F : CFree X pins H C) (I : Inv X pins σ H s) (hs : Heap.SameBut C s.heap h') : Inv X pins σ H { s with heap := h' } :=
  I.turned (t' := s.toks) (it := C) (fun b o nb e => hs.extBut b o nb e) F.fr F.ne (.inr F.ab) F.ce F.pn
theorem comp_core {elt tg iter : Expr} {ifs : List Expr} {scope : Scope} {pos pos' : Pos} {wi : TI} {g : TG} {tc : TT} {te : TE} (own fr : List Str) (js : List Nat) (NX : List Str) (sn : List (Str × NameKind)) (hcalm : X.calm = true)
    (hi : PI X tg iter wi)
    (hg : ∀ cl C s H fp, PG (cxComp X scope cl C (own ++ fr) s H fp) tg g) (ht : ∀ cl C s H fp, PTs (cxComp X scope cl C (own ++ fr) s H fp) ifs tc) (he : ∀ cl C s H fp, PE (cxComp X scope cl C (own ++ fr) s H fp) elt te)
    (hN : X.N = NX) (hsn : X.env.scope.names = sn) (hkind : scope.kind = .function)
    (hcap : capOk NX sn scope.names fr js = true) (hsc : scOk sn scope.names = true)
    (hs : ∀ x, foldedSetIterable iter X.env x = pure x) {use : Option (Value → Sem Unit)} {QQ : Value → Shared → Prop}
    {pins : List (Addr × Obj)} {s : Shared} {σ : St} {H : Hp} {Q : VK} (I : Inv X pins σ H s) (h : tComp wi g tc te own.length js σ H Q)
    (fin : ∀ (D C : Addr) (H' : Hp) (s' : Shared) (m : Str → Option Value), Inv X pins σ H' s' → s'.heap.Ns C m → CFree X pins H' C → Q (.ref D) H' → compPost (model X.prog X.w) X.A X.xe use QQ (.ref D) C (.ok .next) s') :
    wpAny (model X.prog X.w) X.A (comprehension (.ListComp elt [⟨tg, iter, ifs, 0⟩] scope pos) scope X.env pos' (newList []) false (eval iter X.env) use) QQ X.xe s := by
  subst hN hsn
  unfold capOk at hcap
  rw [Bool.and_eq_true, List.all_eq_true] at hcap
  obtain ⟨hlen, hcap⟩ := hcap
  have hlen : fr.length = js.length := by simpa using hlen
  unfold scOk at hsc
  rw [List.all_eq_true] at hsc
  have names : ∀ y ∈ scope.names, (y.2 = .local ∧ scope.names.lookup y.1 = some .local) ∨ (y.2 = .free ∧ X.env.scope.names.lookup y.1 = some .cell) ∨ y.2 = .globalImplicit := fun y hy => by
    have := hsc y hy
    simpa [or_assoc] using this
  have hcell : ∀ y ∈ scope.names, y.2 ≠ .cell := fun y hy z => by
    rcases names y hy with ⟨q, _⟩ | ⟨q, _⟩ | q <;> rw [z] at q <;> cases q
  have hnames : ∀ y ∈ scope.names, y.2 = .local → scope.names.lookup y.1 = some .local := fun y hy z => by
    rcases names y hy with ⟨_, q⟩ | ⟨q, _⟩ | q
    · exact q
    · rw [z] at q; cases q
    · rw [z] at q; cases q
  have hfree : ∀ y ∈ scope.names, y.2 = .free → X.env.scope.names.lookup y.1 = some .cell := fun y hy z => by
    rcases names y hy with ⟨q, _⟩ | ⟨_, q⟩ | q
    · rw [z] at q; cases q
    · exact q
    · rw [z] at q; cases q
  obtain ⟨cl, hclos, hcl, hclh⟩ := closureFor_of (scope := scope) (env := X.env) fun y hy z => I.ok.has y.1 (.inl (hfree y hy z))
  refine wpAny_comprehension_free (use := use) rfl hs hclos hkind hnames (thn (hi pins s σ H _ I h) fun v s1 h1 => thn h1 fun itv s2 h2 => ?_)
  obtain ⟨it, fp, tn, J, H2, e, I2, T, st2, f2, h2⟩ := h2
  subst e
  have hD : H2 s2.heap.objs.size = none := I2.fresh
  obtain ⟨W, ⟨m0, w0⟩, turn⟩ := h2 s2.heap.objs.size hD
  refine wpAny_newObj_type (wpAny_newFunctionEnv hcell (by intro y hy; simp at hy) (fun h₁ hns₁ hsb₁ => ?_) hkind)
  dsimp only at hns₁ hsb₁ ⊢
  generalize hH2 : s2.heap.push { cls := .type "list", dict := none, data := .seq ([] : List Value).toArray } = G2 at hns₁ hsb₁ ⊢
  have hC : G2.objs.size = s2.heap.objs.size + 1 := by rw [← hH2, Heap.size_push]
  have hDC : s2.heap.objs.size ≠ G2.objs.size := by rw [hC]; exact Nat.ne_of_lt (Nat.lt_succ_self _)
  have ltC : ∀ b o, s2.heap.get? b = some o → b ≠ G2.objs.size := fun b o q => by
    have := Heap.lt_size q
    rw [hC]
    exact Nat.ne_of_lt (Nat.lt_succ_of_lt this)
  have old : ∀ b o, s2.heap.get? b = some o → h₁.get? b = some o := fun b o e =>
    hsb₁.extBut b o (ltC b o e) (Heap.get?_push_of_some _ (hH2 ▸ Heap.get?_push_of_some _ e))
  have hacc : h₁.get? s2.heap.objs.size = some { cls := .type "list", data := .seq ([] : List Value).toArray } := hsb₁.extBut _ _ hDC (Heap.get?_push_of_some _ (hH2 ▸ Heap.get?_push_size _ rfl))
  let Y : Cx := cxComp X scope cl G2.objs.size (own ++ fr) s2 H2 fp
  let σ0 : St := List.replicate own.length none ++ cap js σ
  have bfs : ∀ b ∈ fp, b ∉ frs X.stack := fun b hb z => (List.mem_cons.mp (I2.stkSub b z)).elim (f2 b hb).2.1 (f2 b hb).2.2.1
  have okY : Y.Ok := by
    refine ⟨I2.ok.mod, hkind, I2.ok.glob, I2.ok.blt, ?_, fun x y c h1 h2 => I2.ok.inj x y c (hcl x c h1) (hcl y c h2), fun y hy => ?_, fun x c q => ?_, I2.ok.hd, I2.ok.frames, .inl rfl, fun b hb => ⟨?_, fun x c q => (f2 b hb).2.2.2.2.1 x c (hcl x c q)⟩, I2.bs, Nat.le_trans I2.ok.bsz I2.sz, fun b o q hb => ?_, bfs, I2.stack, I2.stkFree⟩
    · show s2.heap.objs.size ≤ G2.objs.size
      rw [hC]; exact Nat.le_succ _
    · have hy : (relabel scope X.env).names.lookup y = some .cell ∨ (relabel scope X.env).names.lookup y = some .free := hy
      rcases hy with hy | hy
      · obtain ⟨k0, hm, q | ⟨q, _⟩⟩ := relabel_mem hy
        · exact absurd q.symm (hcell _ hm)
        · exact hclh y (q ▸ hm)
      · obtain ⟨k0, hm, q | ⟨q, _⟩⟩ := relabel_mem hy
        · exact hclh y (q ▸ hm)
        · exact hclh y (q ▸ hm)
    · exact absurd (show false = true from q) Bool.false_ne_true
    · obtain ⟨o, q, _⟩ := T.obj 0 s2.heap st2 b hb
      exact ltC b o q
    · have hb' := f2 b hb
      rcases hb'.2.2.2.1 with z | z
      · exact I2.ok.noex b o q z
      · exact absurd (Nat.lt_of_lt_of_le (Heap.lt_size q) (Nat.le_trans I2.ok.bsz z)) (Nat.lt_irrefl _)
  have pinX : ∀ p ∈ X.pn ++ pins, p.1 ≠ G2.objs.size ∧ p.1 ∉ frs X.stack := fun p hp => by
    obtain ⟨e, n, ne, nf, d⟩ := I2.pin p hp
    exact ⟨ltC _ _ e, fun z => (List.mem_cons.mp (I2.stkSub _ z)).elim ne nf⟩
  have lenY : σ0.length = (own ++ fr).length := by
    show (List.replicate own.length none ++ cap js σ).length = _
    rw [List.length_append, List.length_replicate, List.length_append, cap, List.length_map, hlen]
  have IY : ∀ tk, Inv Y (X.pn ++ pins) σ0 (upd H2 s2.heap.objs.size (.lst [])) { s2 with heap := h₁, toks := tk } := fun tk => by
    refine ⟨okY, rfl, I2.bare, Un.laid old (Nat.le_refl _) hD, ⟨_, hns₁, fun i y v e1 e2 e3 => ?_⟩, fun y c q => ?_, ?_, fun y c q => ?_, fun p hp => ?_, I2.hok.laid old (Nat.le_refl _) ⟨Nat.zero_le _, [], 0, .nil, hacc⟩, lenY⟩
    · -- a captured name
      have e2 : (List.replicate own.length none ++ cap js σ)[i]? = some (some v) := e2
      have e1 : (own ++ fr)[i]? = some y := e1
      have hi : own.length ≤ i := by
        refine Nat.le_of_not_lt fun z => ?_
        rw [List.getElem?_append_left (by simpa using z), List.getElem?_replicate] at e2
        split at e2 <;> cases e2
      rw [List.getElem?_append_right (by simpa using hi), List.length_replicate, cap, List.getElem?_map] at e2
      rw [List.getElem?_append_right hi] at e1
      cases ej : js[i - own.length]? with
      | none => rw [ej] at e2; cases e2
      | some j =>
        rw [ej] at e2
        have e2 : (σ[j]?).join = some v := Option.some.inj e2
        have eσ : σ[j]? = some (some v) := by
          cases q : σ[j]? with
          | none => rw [q] at e2; cases e2
          | some o => rw [q] at e2; rw [show o = some v from e2]
        have hm : (y, j) ∈ fr.zip js := List.mem_of_getElem? (i := i - own.length) (by rw [List.getElem?_zip_eq_some]; exact ⟨e1, ej⟩)
        have hc := hcap _ hm
        simp only [Bool.and_eq_true, decide_eq_true_eq] at hc
        obtain ⟨⟨c1, c2⟩, c3⟩ := hc
        obtain ⟨m, hn, hl⟩ := I2.loc
        obtain ⟨u, r, l⟩ := hl j y v c1 eσ (.inr (.inl c3))
        rcases l with ⟨hk, _⟩ | ⟨_, c, hcc, hv⟩
        · exact absurd (c3.symm.trans hk) (by intro z; cases z)
        · obtain ⟨c', ec'⟩ := hclh y (PySem.mem_of_lookup c2)
          have : c' = c := Option.some.inj ((hcl y c' ec').symm.trans hcc)
          subst this
          refine ⟨u, r, .inr ⟨?_, c', ec', ?_⟩⟩
          · have e3 : Vis (relabel scope X.env) y := e3
            rcases e3 with q | q | q
            · obtain ⟨k0, hm, z | ⟨_, z⟩⟩ := relabel_mem q
              · have := hnames _ hm z.symm
                rw [c2] at this; cases this
              · cases z
            · exact .inl q
            · exact .inr q
          · obtain ⟨o, ho, hd⟩ := hv
            exact ⟨o, old _ _ ho, hd⟩
    · obtain ⟨v, o, ho, hd⟩ := I2.cell y c (hcl y c q)
      exact ⟨v, o, old _ _ ho, hd⟩
    · show upd H2 s2.heap.objs.size (.lst []) G2.objs.size = none
      rw [upd_ne (Ne.symm hDC)]
      exact I2.hok.fresh (by rw [hC]; exact Nat.le_succ _)
    · obtain ⟨v, o, ho, hd⟩ := I2.cell y c (hcl y c q)
      rw [upd_ne (Nat.ne_of_lt (Heap.lt_size ho))]
      exact I2.freeC y c (hcl y c q)
    · have hp : p ∈ X.pn ++ pins := by simpa [Y, cxComp] using hp
      obtain ⟨e, n, ne, nf, d⟩ := I2.pin p hp
      exact ⟨old _ _ e, by rw [upd_ne (Nat.ne_of_lt (Heap.lt_size e))]; exact n, (pinX p hp).1, (pinX p hp).2, d⟩
  have fpY : ∀ {H' : Hp}, (∀ b ∈ fp, H' b = none) → ∀ b ∈ fp, FpOk Y (X.pn ++ pins) H' b := fun {H'} hn b hb => by
    refine ⟨hn b hb, (okY.exf b hb).1, bfs b hb, .inl hb, (okY.exf b hb).2, fun p hp => ?_⟩
    have hp : p ∈ X.pn ++ pins := by simpa [Y, cxComp] using hp
    exact (f2 b hb).2.2.2.2.2 p hp
  have fin' : ∀ (H' : Hp) (s' : Shared), Inv Y (X.pn ++ pins) σ0 H' s' → Q (.ref s2.heap.objs.size) H' → compPost (model X.prog X.w) X.A X.xe use QQ (.ref s2.heap.objs.size) G2.objs.size (.ok .next) s' := fun H' s' J q => by
    obtain ⟨m, hn, _⟩ := J.loc
    have un : Un (frs X.stack) fp H2 H' s2.heap s'.heap := J.base
    refine fin _ _ H' s' m (I2.call' (s' := s') (ch := fp) J.os un J.hok J.bare fun b hb => ⟨(f2 b hb).2.2.2.1, (f2 b hb).2.1, (f2 b hb).2.2.2.2.1, (f2 b hb).2.2.2.2.2⟩) hn ⟨J.free, ?_, ?_, fun x c e z => ?_, fun p hp => (pinX p hp).1⟩ q
    · intro z
      obtain ⟨m2, ⟨o, _, _, ho, _⟩, _⟩ := I2.loc
      exact ltC _ o ho z.symm
    · exact Nat.le_trans I2.sz (by rw [hC]; exact Nat.le_succ _)
    · obtain ⟨v, o, ho, _⟩ := I2.cell x c e
      exact ltC c o ho z
  have frs0 : ∀ b ∈ fp, upd H2 s2.heap.objs.size (.lst []) b = none := fun b hb => by
    obtain ⟨o, q, _⟩ := T.obj 0 s2.heap st2 b hb
    rw [upd_ne (Nat.ne_of_lt (Heap.lt_size q))]
    exact (f2 b hb).1
  have loop : ∀ tk, codeAny (model X.prog X.w) X.A (.compLoop (.ListComp elt [⟨tg, iter, ifs, 0⟩] scope pos) 0 (.ref it) (.ref s2.heap.objs.size) (compEnvC scope cl G2.objs.size X.env))
      (compPost (model X.prog X.w) X.A X.xe use QQ (.ref s2.heap.objs.size) G2.objs.size) { s2 with heap := h₁, toks := tk } := fun tk => by
    refine compLoop_any (fun n s' => ∃ i ys H', Inv Y (X.pn ++ pins) σ0 H' s' ∧ tn i s'.heap ∧ (∀ b ∈ fp, H' b = none) ∧ H' s2.heap.objs.size = some (.lst ys) ∧ W i n ys H') ?_ m0
      ⟨0, [], _, IY tk, T.keep _ _ _ st2 (fun b hb o q => old b o q), frs0, upd_same, w0⟩
    rintro n s3 ⟨i, ys, H3, I3, st3, fr3, hD3, w3⟩
    rcases turn i n ys H3 w3 hD3 with ⟨stop, qn⟩ | ⟨go, step⟩
    · refine thn (T.done Y rfl rfl rfl hcalm i _ s3 σ0 H3 _ I3 (fpY fr3) st3 stop) fun r s4 ⟨hr, I4⟩ => ?_
      subst hr
      exact fin' H3 s4 I4 qn
    · refine thn (T.item Y rfl rfl rfl hcalm i _ s3 σ0 H3 _ I3 (fpY fr3) st3 go) fun r s4 ⟨u, hr, h4⟩ => ?_
      subst hr
      refine thn h4 fun _ s5 ⟨x, H5, I5, r5, y5, st5, fr5⟩ => ?_
      have I5' := I5.pinned (fpY fr5) (T.obj _ _ st5)
      refine thn (hg cl _ s2 H2 fp _ s5 σ0 H5 x u _ I5' r5 (step x H5 y5)) fun _ s6 ⟨σ6, H6, I6, d6, q6⟩ => ?_
      refine thn (ht cl _ s2 H2 fp _ s6 σ6 H6 _ I6 q6) fun b s7 ⟨H7, I7, q7⟩ => ?_
      have back : ∀ {σ8 : St} {H8 : Hp} {s8 : Shared} {zs : List V} {m' : Nat}, Inv Y (X.pn ++ pins ++ pinsAt fp s5.heap) σ8 H8 s8 → σ8.drop own.length = cap js σ → m' < n → H8 s2.heap.objs.size = some (.lst zs) → W (i + 1) m' zs H8 →
          ∃ m, m < n ∧ ∃ i ys H', Inv Y (X.pn ++ pins) σ0 H' s8 ∧ tn i s8.heap ∧ (∀ b ∈ fp, H' b = none) ∧ H' s2.heap.objs.size = some (.lst ys) ∧ W i m ys H' := fun {σ8 H8 s8 zs m'} I8 d8 hm hd w8 => by
        have pin8 : ∀ b o, b ∈ fp → s5.heap.get? b = some o → s8.heap.get? b = some o ∧ H8 b = none := fun b o hb e =>
          let z := I8.pin (b, o) (List.mem_append_right _ (List.mem_append_right _ (mem_pinsAt hb e)))
          ⟨z.1, z.2.1⟩
        have I8' := I8.unpinned
        refine ⟨m', hm, i + 1, zs, H8, ?_, T.keep _ _ _ st5 fun b hb o e => (pin8 b o hb e).1, fun b hb => ?_, hd, w8⟩
        · refine I8'.weak (lenY.trans I8'.len.symm) fun j v ej => ?_
          have ej : (List.replicate own.length none ++ cap js σ)[j]? = some (some v) := ej
          have hj : own.length ≤ j := by
            refine Nat.le_of_not_lt fun z => ?_
            rw [List.getElem?_append_left (by simpa using z), List.getElem?_replicate] at ej
            split at ej <;> cases ej
          rw [List.getElem?_append_right (by simpa using hj), List.length_replicate, ← d8, List.getElem?_drop] at ej
          rw [show j = own.length + (j - own.length) by omega]
          exact ej
        · obtain ⟨o, e, d⟩ := T.obj _ _ st5 b hb
          exact (pin8 b o hb e).2
      cases b with
      | false =>
        obtain ⟨hd, m', hm, w8⟩ := q7
        exact back I7 d6 hm hd w8
      | true =>
        refine thn (he cl _ s2 H2 fp _ s7 σ6 H7 _ I7 q7) fun v s8 ⟨y, H8, I8, r8, hd8, hz, m', hm, w8⟩ => ?_
        refine thn (mt_append (X := Y) _ s8 σ6 H8 (.ref s2.heap.objs.size) [y] (.ref s2.heap.objs.size) [v] (fun _ H9 => H9 = upd H8 s2.heap.objs.size (.lst (ys ++ [y]))) I8 rfl (.cons r8 .nil) ⟨_, ys, y, rfl, rfl, hd8, hz, rfl⟩) fun _ s9 ⟨_, H9, I9, _, e9⟩ => ?_
        subst e9
        exact back I9 d6 hm upd_same w8
  exact codeAny_compStart_list (loop _) (T.self _ 0 _ _ _ (T.keep _ _ _ st2 (fun b hb o q => old b o q)) (loop _))
theorem pe_comp {elt tg iter : Expr} {ifs : List Expr} {scope : Scope} {pos : Pos} {wi : TI} {g : TG} {tc : TT} {te : TE} (own fr : List Str) (js : List Nat) (NX : List Str) (sn : List (Str × NameKind)) (hcalm : X.calm = true)
    (hi : PI X tg iter wi)
    (hg : ∀ cl C s H fp, PG (cxComp X scope cl C (own ++ fr) s H fp) tg g) (ht : ∀ cl C s H fp, PTs (cxComp X scope cl C (own ++ fr) s H fp) ifs tc) (he : ∀ cl C s H fp, PE (cxComp X scope cl C (own ++ fr) s H fp) elt te)
    (hN : X.N = NX := by rfl) (hsn : X.env.scope.names = sn := by rfl) (hkind : scope.kind = .function := by rfl)
    (hcap : capOk NX sn scope.names fr js = true := by decide +kernel) (hsc : scOk sn scope.names = true := by decide +kernel)
    (hs : ∀ x, foldedSetIterable iter X.env x = pure x := by intro _; rfl) :
    PE X (.ListComp elt [⟨tg, iter, ifs, 0⟩] scope pos) (tComp wi g tc te own.length js) := by
  intro pins s σ H Q I h
  rw [eval_ListComp]
  refine comp_core own fr js NX sn hcalm hi hg ht he hN hsn hkind hcap hsc hs I h fun D C H' s' m I' hn F q => ?_
  exact ⟨m, hn, fun h' hsb => ⟨.ref D, H', F.turn I' hsb, rfl, q⟩⟩
theorem ps_comp {i : Nat} {y : Str} {py spos : Pos} {elt tg iter : Expr} {ifs : List Expr} {scope : Scope} {pos : Pos} {wi : TI} {g : TG} {tc : TT} {te : TE} (own fr : List Str) (js : List Nat) (NX : List Str) (sn : List (Str × NameKind)) (hcalm : X.calm = true)
    (hnd : X.N.Nodup) (hyi : X.N[i]? = some y) (hy : Loc X.env.scope y)
    (hi : PI X tg iter wi)
    (hg : ∀ cl C s H fp, PG (cxComp X scope cl C (own ++ fr) s H fp) tg g) (ht : ∀ cl C s H fp, PTs (cxComp X scope cl C (own ++ fr) s H fp) ifs tc) (he : ∀ cl C s H fp, PE (cxComp X scope cl C (own ++ fr) s H fp) elt te)
    (hsw : swapsWith (.ListComp elt [⟨tg, iter, ifs, 0⟩] scope pos) (some (.Name y py)) spos.line X.env = pure true := by rfl)
    (hN : X.N = NX := by rfl) (hsn : X.env.scope.names = sn := by rfl) (hkind : scope.kind = .function := by rfl)
    (hcap : capOk NX sn scope.names fr js = true := by decide +kernel) (hsc : scOk sn scope.names = true := by decide +kernel)
    (hs : ∀ x, foldedSetIterable iter X.env x = pure x := by intro _; rfl) (hf : X.fn y = true ∨ X.env.scope.names.lookup y = some .local := by first | exact .inl rfl | exact .inr rfl) :
    PS X (.Assign [.Name y py] (.ListComp elt [⟨tg, iter, ifs, 0⟩] scope pos) spos) (tAsg (tComp wi g tc te own.length js) (gName i)) := by
  intro pins s σ H D I h
  rw [exec_Assign_Name_used _ _ _ _ hsw]
  refine wpAny_bind (wpAny_standAt (wpAny_bind ?_))
  show wpAny _ X.A (do let _ ← comprehension (.ListComp elt [⟨tg, iter, ifs, 0⟩] scope pos) scope X.env _ (newList []) false (eval iter X.env) (some (assign (.Name y py) X.env))) _ _ s
  refine wpAny_bind (thn (comp_core own fr js NX sn hcalm hi hg ht he hN hsn hkind hcap hsc hs (use := some (assign (.Name y py) X.env)) (QQ := fun _ s' => SP X pins D .next s') I h fun A C H' s' m I' hn F q => ?_) fun _ s' hq => wpAny_pure (wpAny_pure hq))
  show wpAny _ X.A (assign (.Name y py) X.env (.ref A)) _ _ s'
  refine wpAny_assign_Name (store_ok2 (v := .ref A) I' hnd hyi hy rfl (fun s2 I2 ⟨a, hsb, ha⟩ => ?_) hf)
  have nC : a ≠ C := by
    rcases ha with z | z
    · rw [z]; exact Ne.symm F.ne
    · exact F.ce y a z
  exact ⟨m, hn.sameBut hsb nC.symm, fun h' hsb' => ⟨_, H', F.turn I2 hsb', q⟩⟩
end
end L2
end
section
set_option Elab.async false
set_option linter.all false
set_option maxRecDepth 100000
namespace L2
open PySem PySem.Spec PyProof.Rows
section
variable {κ : Type} [DecidableEq κ]
def valV (kvs : List (κ × V)) (k : κ) : Option V := (kvs.find? fun kv => decide (kv.1 = k)).map (·.2)
def putK (kvs : List (κ × V)) (k : κ) (v : V) : List (κ × V) :=
  if (kvs.any fun kv => decide (kv.1 = k)) = true then kvs.map (fun kv => if kv.1 = k then (kv.1, v) else kv) else kvs ++ [(k, v)]
def dropK (kvs : List (κ × V)) (k : κ) : List (κ × V) := kvs.filter fun kv => decide (kv.1 ≠ k)
theorem valV_nil {k : κ} : valV ([] : List (κ × V)) k = none := rfl
theorem valV_pos {p : κ × V} {r : List (κ × V)} {k : κ} (e : p.1 = k) : valV (p :: r) k = some p.2 := by simp [valV, List.find?_cons, e]
theorem valV_neg {p : κ × V} {r : List (κ × V)} {k : κ} (e : ¬ p.1 = k) : valV (p :: r) k = valV r k := by simp [valV, List.find?_cons, e]
theorem valV_any (k : κ) : ∀ kvs : List (κ × V), (kvs.any fun kv => decide (kv.1 = k)) = (valV kvs k).isSome
  | [] => rfl
  | p :: r => by
    rw [List.any_cons]
    by_cases e : p.1 = k
    · simp only [valV_pos e, decide_eq_true e, Bool.true_or, Option.isSome_some]
    · rw [valV_neg e, decide_eq_false e, Bool.false_or]; exact valV_any k r
theorem valV_map (k j : κ) (y : V) : ∀ kvs : List (κ × V), valV (kvs.map fun kv => if kv.1 = k then (kv.1, y) else kv) j = (valV kvs j).map fun x => if j = k then y else x
  | [] => rfl
  | p :: r => by
    have ih := valV_map k j y r
    rw [List.map_cons]
    by_cases h : p.1 = k
    · rw [if_pos h]
      by_cases e : p.1 = j
      · rw [valV_pos (p := (p.1, y)) e, valV_pos e, Option.map_some, if_pos (e.symm.trans h)]
      · rw [valV_neg (p := (p.1, y)) e, valV_neg e, ih]
    · rw [if_neg h]
      by_cases e : p.1 = j
      · rw [valV_pos (p := p) e, valV_pos e, Option.map_some, if_neg (fun z => h (e.trans z))]
      · rw [valV_neg (p := p) e, valV_neg e, ih]
theorem valV_snoc (k j : κ) (y : V) : ∀ kvs : List (κ × V), valV kvs k = none → valV (kvs ++ [(k, y)]) j = if j = k then some y else valV kvs j
  | [], _ => by
    by_cases e : k = j
    · rw [if_pos e.symm]; exact valV_pos (p := (k, y)) e
    · rw [if_neg (fun z => e z.symm)]; exact valV_neg (p := (k, y)) e
  | p :: r, hn => by
    rw [List.cons_append]
    have hk : ¬ p.1 = k := fun z => by rw [valV_pos z] at hn; cases hn
    rw [valV_neg hk] at hn
    have ih := valV_snoc k j y r hn
    by_cases e : p.1 = j
    · rw [valV_pos e, valV_pos e, if_neg (fun z => hk (e.trans z))]
    · rw [valV_neg e, valV_neg e, ih]
theorem valV_put (kvs : List (κ × V)) (k j : κ) (y : V) : valV (putK kvs k y) j = if j = k then some y else valV kvs j := by
  unfold putK
  by_cases a : (kvs.any fun kv => decide (kv.1 = k)) = true
  · rw [if_pos a, valV_map]
    rw [valV_any] at a
    by_cases e : j = k
    · obtain ⟨x, hx⟩ := Option.isSome_iff_exists.mp a
      rw [if_pos e, e, hx, Option.map_some, if_pos rfl]
    · rw [if_neg e]
      cases valV kvs j with
      | none => rfl
      | some x => rw [Option.map_some, if_neg e]
  · rw [if_neg a]
    refine valV_snoc k j y kvs ?_
    rw [valV_any] at a
    cases q : valV kvs k with
    | none => rfl
    | some x => rw [q] at a; exact (a rfl).elim
theorem length_putK (kvs : List (κ × V)) (k : κ) (v : V) : (putK kvs k v).length ≤ kvs.length + 1 := by
  unfold putK
  split
  · rw [List.length_map]; omega
  · rw [List.length_append, List.length_cons, List.length_nil]; omega
theorem putK_new {kvs : List (κ × V)} {k : κ} (v : V) (h : valV kvs k = none) : putK kvs k v = kvs ++ [(k, v)] := by
  unfold putK
  rw [valV_any, h]
  exact if_neg (by decide)
theorem RelO.isSome_eq {o : Option V} {u : Option Value} (r : RelO o u) : o.isSome = u.isSome := by
  cases o with
  | none => cases u with
    | none => rfl
    | some _ => exact (show False from r).elim
  | some _ => cases u with
    | none => exact (show False from r).elim
    | some _ => rfl
theorem RelO.getD {o : Option V} {u : Option Value} {d : V} {d' : Value} (r : RelO o u) (rd : RelV d d') : RelV (o.getD d) (u.getD d') := by
  cases o with
  | none => cases u with
    | none => exact rd
    | some _ => exact (show False from r).elim
  | some _ => cases u with
    | none => exact (show False from r).elim
    | some _ => exact r
theorem KV.val {kvs : List (κ × V)} {vs : List (κ × Value)} (r : KV kvs vs) (k : κ) : RelO (valV kvs k) (valueAt vs k) := by
  unfold KV at r
  induction r with
  | nil => exact True.intro
  | @cons p q ps qs h t ih =>
    obtain ⟨h1, h2⟩ := h
    by_cases e : p.1 = k
    · have e' : q.1 = k := h1.symm.trans e
      have b : valueAt (q :: qs) k = some q.2 := by simp [valueAt, List.find?_cons, e']
      rw [valV_pos e, b]; exact h2
    · have e' : ¬ q.1 = k := fun z => e (h1.trans z)
      have b : valueAt (q :: qs) k = valueAt qs k := by simp [valueAt, List.find?_cons, e']
      rw [valV_neg e, b]; exact ih
theorem KV.any {kvs : List (κ × V)} {vs : List (κ × Value)} (r : KV kvs vs) (k : κ) : (kvs.any fun kv => decide (kv.1 = k)) = vs.any fun kv => decide (kv.1 = k) := by
  unfold KV at r
  induction r with
  | nil => rfl
  | cons h t ih => rw [List.any_cons, List.any_cons, ih, h.1]
theorem KV.repl {kvs : List (κ × V)} {vs : List (κ × Value)} (r : KV kvs vs) (k : κ) {y : V} {u : Value} (ry : RelV y u) :
    KV (kvs.map fun kv => if kv.1 = k then (kv.1, y) else kv) (vs.map fun kv => if kv.1 = k then (kv.1, u) else kv) := by
  unfold KV at r ⊢
  induction r with
  | nil => exact .nil
  | @cons p q ps qs h t ih =>
    rw [List.map_cons, List.map_cons]
    refine .cons ?_ ih
    obtain ⟨h1, h2⟩ := h
    by_cases e : p.1 = k
    · rw [if_pos e, if_pos (h1.symm.trans e)]; exact ⟨h1, ry⟩
    · rw [if_neg e, if_neg (fun z => e (h1.trans z))]; exact ⟨h1, h2⟩
theorem KV.put {kvs : List (κ × V)} {vs : List (κ × Value)} (r : KV kvs vs) (k : κ) {y : V} {u : Value} (ry : RelV y u) : KV (putK kvs k y) (stored vs k u) := by
  unfold putK stored
  rw [r.any k]
  by_cases e : (vs.any fun kv => decide (kv.1 = k)) = true
  · rw [if_pos e, if_pos e]; exact r.repl k ry
  · rw [if_neg e, if_neg e]; exact Paired.snoc r ⟨rfl, ry⟩
theorem KV.drop {kvs : List (κ × V)} {vs : List (κ × Value)} (r : KV kvs vs) (k : κ) : KV (dropK kvs k) (without vs k) := by
  unfold KV at r ⊢
  unfold dropK without
  induction r with
  | nil => exact .nil
  | @cons p q ps qs h t ih =>
    obtain ⟨h1, h2⟩ := h
    rw [List.filter_cons, List.filter_cons]
    by_cases e : p.1 = k
    · have a : ¬ decide (p.1 ≠ k) = true := by simp [e]
      have b : ¬ decide (q.1 ≠ k) = true := by simp [h1.symm.trans e]
      rw [if_neg a, if_neg b]; exact ih
    · have e' : ¬ q.1 = k := fun z => e (h1.trans z)
      have a : decide (p.1 ≠ k) = true := by simp [e]
      have b : decide (q.1 ≠ k) = true := by simp [e']
      rw [if_pos a, if_pos b]; exact .cons ⟨h1, h2⟩ ih
theorem KV.keys {kvs : List (κ × V)} {vs : List (κ × Value)} (r : KV kvs vs) : kvs.map (·.1) = vs.map (·.1) := by
  unfold KV at r
  induction r with
  | nil => rfl
  | cons h t ih => rw [List.map_cons, List.map_cons, ih, h.1]
theorem KV.length {kvs : List (κ × V)} {vs : List (κ × Value)} (r : KV kvs vs) : kvs.length = vs.length := Paired.length r
theorem dropK_le (kvs : List (κ × V)) (k : κ) : (dropK kvs k).length ≤ kvs.length := List.length_filter_le _ _
end
theorem kV_is {P : Program} {w : World} {k : Key} {u : Value} (r : RelV (kV k) u) : (mixKind P w).is k u = true := by
  cases k with
  | inl i => obtain ⟨t, e⟩ := (show ∃ t, u = Value.int i t from r); subst e; exact mixKind_int P w i t
  | inr x => obtain ⟨t, e⟩ := (show ∃ t, u = Value.str x t from r); subst e; exact mixKind_str P w x t
theorem kV_inj {a b : Key} (e : kV a = kV b) : a = b := by
  cases a with
  | inl i => cases b with
    | inl j => have e' : V.int i = V.int j := e; injection e' with e'; rw [e']
    | inr y => exact nomatch (show V.int i = V.str y from e)
  | inr x => cases b with
    | inl j => exact nomatch (show V.str x = V.int j from e)
    | inr y => have e' : V.str x = V.str y := e; injection e' with e'; rw [e']
theorem kVs_inj : ∀ {a b : List Key}, a.map kV = b.map kV → a = b
  | [], [], _ => rfl
  | [], _ :: _, e => by simp at e
  | _ :: _, [], e => by simp at e
  | x :: xs, y :: ys, e => by
    rw [List.map_cons, List.map_cons] at e
    injection e with e1 e2
    rw [kV_inj e1, kVs_inj e2]
theorem items_are {P : Program} {w : World} : ∀ {ks : List Key} {us : List Value}, Vals (ks.map kV) us → ItemsAre (mixKind P w) ks us
  | [], _, r => by rw [List.map_nil] at r; cases r; exact .nil
  | k :: ks, _, r => by
    rw [List.map_cons] at r
    cases r with
    | cons h t => exact .cons (kV_is h) (items_are t)
abbrev KT (H : Hp) : List (List Key × V) → List (List Key × Addr × Value) → Prop := Paired fun p q => p.1 = q.1 ∧ H q.2.1 = some (.tup (p.1.map kV)) ∧ RelV p.2 q.2.2
theorem KT.val {H : Hp} {kvs : List (List Key × V)} {xs : List (List Key × Addr × Value)} (r : KT H kvs xs) (k : List Key) : RelO (valV kvs k) ((atKey xs k).map (·.2)) := by
  induction r with
  | nil => exact True.intro
  | @cons p q ps qs h t ih =>
    obtain ⟨h1, _, h2⟩ := h
    by_cases e : p.1 = k
    · have e' : q.1 = k := h1.symm.trans e
      have b : atKey (q :: qs) k = some q.2 := by simp [atKey, List.find?_cons, e']
      rw [valV_pos e, b]; exact h2
    · have e' : ¬ q.1 = k := fun z => e (h1.trans z)
      have b : atKey (q :: qs) k = atKey qs k := by simp [atKey, List.find?_cons, e']
      rw [valV_neg e, b]; exact ih
theorem KT.repl {H : Hp} {kvs : List (List Key × V)} {xs : List (List Key × Addr × Value)} (r : KT H kvs xs) (k : List Key) {y : V} {u : Value} (ry : RelV y u) :
    KT H (kvs.map fun kv => if kv.1 = k then (kv.1, y) else kv) (xs.map (putAt k u)) := by
  induction r with
  | nil => exact .nil
  | @cons p q ps qs h t ih =>
    rw [List.map_cons, List.map_cons]
    refine .cons ?_ ih
    obtain ⟨h1, h2, h3⟩ := h
    unfold putAt
    by_cases e : p.1 = k
    · rw [if_pos e, if_pos (h1.symm.trans e)]; exact ⟨h1, h2, ry⟩
    · rw [if_neg e, if_neg (fun z => e (h1.trans z))]; exact ⟨h1, h2, h3⟩
theorem KT.put {H : Hp} {kvs : List (List Key × V)} {xs : List (List Key × Addr × Value)} (r : KT H kvs xs) (k : List Key) {b : Addr} {y : V} {u : Value} (hb : H b = some (.tup (k.map kV))) (ry : RelV y u) :
    KT H (putK kvs k y) (storedH xs k b u) := by
  have e : (kvs.any fun kv => decide (kv.1 = k)) = (atKey xs k).isSome := by
    rw [valV_any, (r.val k).isSome_eq, Option.isSome_map]
  unfold putK storedH
  rw [e]
  by_cases q : (atKey xs k).isSome = true
  · rw [if_pos q, if_pos q]; exact r.repl k ry
  · rw [if_neg q, if_neg q]; exact Paired.snoc r ⟨rfl, hb, ry⟩
theorem KT.keeps {H H' : Hp} {kvs : List (List Key × V)} {xs : List (List Key × Addr × Value)} (r : KT H kvs xs) (ht : ∀ b ys, H b = some (.tup ys) → H' b = some (.tup ys)) : KT H' kvs xs :=
  Paired.mapP r fun _ _ z => ⟨z.1, ht _ _ z.2.1, z.2.2⟩
section
variable {P : Program} {w : World} {H : Hp} {h : Heap} {a : Addr}
theorem rd_of {u : HO} (ok : HOk P w H h) (e : Rd H a u) : ObjOk P w H h a u := e.ok ok
theorem dk_rd {kvs : List (Key × V)} (ok : HOk P w H h) (e : Rd H a (.dK kvs)) : kvs.length ≤ sizeLine ∧ (a == sysModules) = false ∧ ∃ vs, KV kvs vs ∧ h.DictOf (mixKind P w) a vs :=
  show ObjOk P w H h a (.dK kvs) from rd_of ok e
theorem dk_of {kvs : List (Key × V)} (ok : HOk P w H h) (e : H a = some (.dK kvs)) : kvs.length ≤ sizeLine ∧ (a == sysModules) = false ∧ ∃ vs, KV kvs vs ∧ h.DictOf (mixKind P w) a vs := dk_rd ok (.inl e)
theorem key_of {ks : List Key} (ok : HOk P w H h) (e : H a = some (.tup (ks.map kV))) : (tupleKind (mixKind P w)).is h ks a := by
  obtain ⟨_, its, r, o, h1, h2, n, h3⟩ := (show ObjOk P w H h a (.tup (ks.map kV)) from ok a _ e)
  exact ⟨o, its.toArray, n, h1, h2, h3, by simpa using items_are r⟩
theorem dt_rd {kvs : List (List Key × V)} (ok : HOk P w H h) (e : Rd H a (.dT kvs)) : kvs.length ≤ sizeLine ∧ (a == sysModules) = false ∧
    ∃ xs, KT H kvs xs ∧ h.DictOfH (tupleKind (mixKind P w)) a xs := by
  obtain ⟨z, y, xs, r, o, es, ep, h1, h2, h3, h4, h5⟩ := (show ObjOk P w H h a (.dT kvs) from rd_of ok e)
  refine ⟨z, y, xs, r, o, es, ep, h1, h2, h3, h4, fun x hx => ?_, h5⟩
  have all : ∀ {l : List (List Key × V)} {m : List (List Key × Addr × Value)}, KT H l m → ∀ x ∈ m, (tupleKind (mixKind P w)).is h x.1 x.2.1 := by
    intro l m q
    induction q with
    | nil => intro x hx; exact nomatch hx
    | @cons p q ps qs hq t ih =>
      intro x hx
      rcases List.mem_cons.mp hx with e | hx
      · subst e
        exact key_of ok (by rw [← hq.1]; exact hq.2.1)
      · exact ih x hx
  exact all r x hx
theorem dt_of {kvs : List (List Key × V)} (ok : HOk P w H h) (e : H a = some (.dT kvs)) : kvs.length ≤ sizeLine ∧ (a == sysModules) = false ∧
    ∃ xs, KT H kvs xs ∧ h.DictOfH (tupleKind (mixKind P w)) a xs := dt_rd ok (.inl e)
end
def DGet (H : Hp) (a : Addr) (y : V) (r : Option V) : Prop :=
  (∃ kvs k, Rd H a (.dK kvs) ∧ y = kV k ∧ r = valV kvs k) ∨ ∃ kvs k b, Rd H a (.dT kvs) ∧ y = .ref b ∧ H b = some (.tup (k.map kV)) ∧ r = valV kvs k
def DPut (H : Hp) (a : Addr) (y v : V) (H' : Hp) : Prop :=
  (∃ kvs k, H a = some (.dK kvs) ∧ y = kV k ∧ kvs.length < sizeLine ∧ H' = upd H a (.dK (putK kvs k v))) ∨
  ∃ kvs k b, H a = some (.dT kvs) ∧ y = .ref b ∧ H b = some (.tup (k.map kV)) ∧ kvs.length < sizeLine ∧ H' = upd H a (.dT (putK kvs k v))
theorem DGet.k {H : Hp} {a : Addr} {kvs : List (Key × V)} {k : Key} (e : H a = some (.dK kvs)) : DGet H a (kV k) (valV kvs k) := .inl ⟨kvs, k, .inl e, rfl, rfl⟩
theorem DGet.t {H : Hp} {a b : Addr} {kvs : List (List Key × V)} {k : List Key} (e : H a = some (.dT kvs)) (eb : H b = some (.tup (k.map kV))) : DGet H a (.ref b) (valV kvs k) := .inr ⟨kvs, k, b, .inl e, rfl, eb, rfl⟩
theorem DPut.k {H : Hp} {a : Addr} {kvs : List (Key × V)} {k : Key} {v : V} (e : H a = some (.dK kvs)) (hl : kvs.length < sizeLine) : DPut H a (kV k) v (upd H a (.dK (putK kvs k v))) := .inl ⟨kvs, k, e, rfl, hl, rfl⟩
theorem DPut.t {H : Hp} {a b : Addr} {kvs : List (List Key × V)} {k : List Key} {v : V} (e : H a = some (.dT kvs)) (eb : H b = some (.tup (k.map kV))) (hl : kvs.length < sizeLine) :
    DPut H a (.ref b) v (upd H a (.dT (putK kvs k v))) := .inr ⟨kvs, k, b, e, rfl, eb, hl, rfl⟩
section
variable {X : Cx} {pins : List (Addr × Obj)} {σ : St} {H : Hp} {s : Shared} {a : Addr} {y v : V} {u r : Value} {o : Option V} {A : Around} {E : Value → Shared → Prop}
theorem Inv.big (I : Inv X pins σ H s) : sysModules < s.heap.objs.size := by
  have h : mainGlobals < s.heap.objs.size := (I.mod.glob.keeps I.bk).lt
  exact Nat.lt_trans (by decide) h
theorem d_getItem {Q : Value → Shared → Prop} (hu : A.units + 1 < cLine) (I : Inv X pins σ H s) (g : DGet H a y (some v)) (ry : RelV y u) (h : ∀ w' s', Inv X pins σ H s' → RelV v w' → Q w' s') :
    wpAny (model X.prog X.w) A (getItem (.ref a) u) Q E s := by
  rcases g with ⟨kvs, k, e, ey, l⟩ | ⟨kvs, k, b, e, ey, eb, l⟩
  · subst ey
    obtain ⟨z, hd, vs, rel, dd⟩ := dk_rd I.hok e
    obtain ⟨w', hw, rw'⟩ := RelO.some_of (v := v) (o := valueAt vs k) (by rw [l]; exact rel.val k)
    exact wpAny_getItem_of (kV_is ry) dd.mapOf hw (h w' _ (I.tok _) rw')
  · subst ey
    cases (show u = Value.ref b from ry)
    obtain ⟨z, hd, xs, rel, dd⟩ := dt_rd I.hok e
    obtain ⟨w', hw, rw'⟩ := RelO.some_of (v := v) (o := (atKey xs k).map (·.2)) (by rw [l]; exact rel.val k)
    obtain ⟨p, hp, hp2⟩ := Option.map_eq_some_iff.mp hw
    refine wpAny_getItem_heap (tupleKind_room_in1 hu) (key_of I.hok eb) dd hp ?_
    rw [hp2]
    exact h w' _ (I.tok _) rw'
theorem d_in {Q : Value → Shared → Prop} (hu : A.units + 1 < cLine) (I : Inv X pins σ H s) (g : DGet H a y o) (ry : RelV y u) (h : ∀ s', Inv X pins σ H s' → Q (.bool o.isSome) s') :
    wpAny (model X.prog X.w) A (compareOp .In u (.ref a)) Q E s := by
  rcases g with ⟨kvs, k, e, ey, l⟩ | ⟨kvs, k, b, e, ey, eb, l⟩
  · subst ey
    obtain ⟨z, hd, vs, rel, dd⟩ := dk_rd I.hok e
    refine wpAny_in_of (kV_is ry) hd dd.mapOf ?_
    rw [← (rel.val k).isSome_eq, ← l]
    exact h _ (I.tok _)
  · subst ey
    cases (show u = Value.ref b from ry)
    obtain ⟨z, hd, xs, rel, dd⟩ := dt_rd I.hok e
    refine wpAny_in_heap (tupleKind_room_in1 hu) (key_of I.hok eb) hd dd ?_
    have q := (rel.val k).isSome_eq
    rw [Option.isSome_map] at q
    rw [← q, ← l]
    exact h _ (I.tok _)
theorem d_notIn {Q : Value → Shared → Prop} (hu : A.units + 1 < cLine) (I : Inv X pins σ H s) (g : DGet H a y o) (ry : RelV y u) (h : ∀ s', Inv X pins σ H s' → Q (.bool (!o.isSome)) s') :
    wpAny (model X.prog X.w) A (compareOp .NotIn u (.ref a)) Q E s := by
  rcases g with ⟨kvs, k, e, ey, l⟩ | ⟨kvs, k, b, e, ey, eb, l⟩
  · subst ey
    obtain ⟨z, hd, vs, rel, dd⟩ := dk_rd I.hok e
    refine wpAny_notIn_of (kV_is ry) hd dd.mapOf ?_
    rw [← (rel.val k).isSome_eq, ← l]
    exact h _ (I.tok _)
  · subst ey
    cases (show u = Value.ref b from ry)
    obtain ⟨z, hd, xs, rel, dd⟩ := dt_rd I.hok e
    refine wpAny_notIn_heap (tupleKind_room_in1 hu) (key_of I.hok eb) hd dd ?_
    have q := (rel.val k).isSome_eq
    rw [Option.isSome_map] at q
    rw [← q, ← l]
    exact h _ (I.tok _)
theorem d_write {h' : Heap} {t' : Nat} {ob : HO} (I : Inv X pins σ H s) (mu : Mut (H a)) (hs : Heap.SameBut a s.heap h') (he : ∃ q, h'.get? a = some q) (new : ObjOk X.prog X.w (upd H a ob) h' a ob) :
    Inv X pins σ (upd H a ob) { s with heap := h', toks := t' } :=
  I.write (x := a) (e := a) mu (.inl rfl) (fun b q hb z => (hs.2 b hb).trans z) he new
theorem dk_new {P : Program} {w : World} {H' : Hp} {h' : Heap} {kvs : List (Key × V)} {vs : List (Key × Value)} (z : kvs.length ≤ sizeLine) (hd : (a == sysModules) = false) (rel : KV kvs vs) (dd : h'.DictOf (mixKind P w) a vs) :
    ObjOk P w H' h' a (.dK kvs) := ⟨z, hd, vs, rel, dd⟩
theorem d_setItem {H' : Hp} {Q : Unit → Shared → Prop} (hu : A.units + 1 < cLine) (I : Inv X pins σ H s) (g : DPut H a y v H') (ry : RelV y u) (rv : RelV v r) (h : ∀ s', Inv X pins σ H' s' → Q () s') :
    wpAny (model X.prog X.w) A (setItem (.ref a) u r) Q E s := by
  rcases g with ⟨kvs, k, e, ey, l, eH⟩ | ⟨kvs, k, b, e, ey, eb, l, eH⟩
  · subst ey eH
    obtain ⟨z, hd, vs, rel, dd⟩ := dk_of I.hok e
    have hz : vs.length ≤ sizeLine := by rw [← rel.length]; exact z
    have hl : (putK kvs k v).length ≤ sizeLine := by have := length_putK kvs k v; omega
    refine wpAny_setItem_pairs (hsz := hz) (kV_is ry) dd fun h' dd' hs => h _ ?_
    have he : ∃ q, h'.get? a = some q := let ⟨q, _, _, hq, _⟩ := dd'; ⟨q, hq⟩
    exact d_write I (by rw [e]; exact True.intro) hs he (dk_new hl hd (rel.put k rv) dd')
  · subst ey eH
    cases (show u = Value.ref b from ry)
    obtain ⟨z, hd, xs, rel, dd⟩ := dt_of I.hok e
    have hz : xs.length ≤ sizeLine := by rw [← Paired.length rel]; exact z
    have hl : (putK kvs k v).length ≤ sizeLine := by have := length_putK kvs k v; omega
    refine wpAny_setItem_heap (hsz := hz) (tupleKind_room_in1 hu) (key_of I.hok eb) dd fun h' dd' hs => h _ ?_
    obtain ⟨q, es, ep, hq, h2, h3, h4, _, h5⟩ := dd'
    refine d_write I (by rw [e]; exact True.intro) hs ⟨q, hq⟩ ⟨hl, hd, _, (rel.put k eb rv).keeps fun c ys ec => ?_, q, es, ep, hq, h2, h3, h4, h5⟩
    rw [upd_ne (ne_of ec e (fun z => nomatch z))]
    exact ec
end
section
variable {X : Cx} {pins : List (Addr × Obj)} {σ : St} {H : Hp} {s : Shared} {a : Addr} {kvs : List (Key × V)} {k : Key} {u : Value} {A : Around} {E : Value → Shared → Prop}
theorem d_delItem {Q : Unit → Shared → Prop} (I : Inv X pins σ H s) (e : H a = some (.dK kvs)) (ry : RelV (kV k) u) (l : (valV kvs k).isSome = true) (h : ∀ s', Inv X pins σ (upd H a (.dK (dropK kvs k))) s' → Q () s') :
    wpAny (model X.prog X.w) A (delItem (.ref a) u) Q E s := by
  obtain ⟨z, hd, vs, rel, dd⟩ := dk_of I.hok e
  refine wpAny_delItem_slot dd.typeIs (by decide) PySem.F.slot_dict_delitem
    (call_meetsIn PySem.F.slot_dict_delitem dd.typeIs PySem.F.entry_dict_delitem (PySem.F.args_dict_delitem_2 _ _) (meets_dict_delitem_pairs (mixKind X.prog X.w) a (kV_is ry)) ⟨vs, dd, by rw [← rel.length]; exact z, by rw [← (rel.val k).isSome_eq]; exact l, fun h' dd' hs => h _ ?_⟩)
  have he : ∃ q, h'.get? a = some q := let ⟨q, _, _, hq, _⟩ := dd'; ⟨q, hq⟩
  exact d_write I (by rw [e]; exact True.intro) hs he (dk_new (Nat.le_trans (dropK_le kvs k) z) hd (rel.drop k) dd')
theorem d_pop {v : V} {more : List Value} {Q : Value → Shared → Prop} (I : Inv X pins σ H s) (e : H a = some (.dK kvs)) (ry : RelV (kV k) u) (l : valV kvs k = some v) (hm : more = [] ∨ ∃ x, more = [x])
    (h : ∀ w' s', Inv X pins σ (upd H a (.dK (dropK kvs k))) s' → RelV v w' → Q w' s') : wpAny (model X.prog X.w) A (call (.builtin "dict.pop") (.ref a :: u :: more)) Q E s := by
  obtain ⟨z, hd, vs, rel, dd⟩ := dk_of I.hok e
  obtain ⟨w', hw, rw'⟩ := RelO.some_of (v := v) (o := valueAt vs k) (by rw [← l]; exact rel.val k)
  have hp : (keyPart u).isSome = true := by
    cases k with
    | inl i => obtain ⟨t, q⟩ := (show ∃ t, u = Value.int i t from ry); subst q; rfl
    | inr x => obtain ⟨t, q⟩ := (show ∃ t, u = Value.str x t from ry); subst q; rfl
  have ha : argsOk "dict.pop" ⟨.ref a :: u :: more, []⟩ := by
    rcases hm with q | ⟨x, q⟩
    · subst q; exact PySem.F.args_dict_pop_2 _ _
    · subst q; exact PySem.F.args_dict_pop_3 _ _ _
  refine call_meetsIn PySem.F.slot_dict_pop dd.typeIs PySem.F.entry_dict_pop ha (meets_dict_pop_there (mixKind X.prog X.w) a (kV_is ry) more hm hp)
    ⟨vs, w', dd, by rw [← rel.length]; exact z, hw, fun h' dd' hs => h w' _ ?_ rw'⟩
  have he : ∃ q, h'.get? a = some q := let ⟨q, _, _, hq, _⟩ := dd'; ⟨q, hq⟩
  exact d_write I (by rw [e]; exact True.intro) hs he (dk_new (Nat.le_trans (dropK_le kvs k) z) hd (rel.drop k) dd')
theorem d_popD {r : Value} {Q : Value → Shared → Prop} (I : Inv X pins σ H s) (e : H a = some (.dK kvs)) (ry : RelV (kV k) u) (l : valV kvs k = none) (h : ∀ s', Inv X pins σ H s' → Q r s') :
    wpAny (model X.prog X.w) A (call (.builtin "dict.pop") [.ref a, u, r]) Q E s := by
  obtain ⟨z, hd, vs, rel, dd⟩ := dk_of I.hok e
  have hn : valueAt vs k = none := RelO.none_of (by rw [← l]; exact rel.val k)
  have hp : (keyPart u).isSome = true := by
    cases k with
    | inl i => obtain ⟨t, q⟩ := (show ∃ t, u = Value.int i t from ry); subst q; rfl
    | inr x => obtain ⟨t, q⟩ := (show ∃ t, u = Value.str x t from ry); subst q; rfl
  exact call_meetsIn PySem.F.slot_dict_pop dd.typeIs PySem.F.entry_dict_pop (PySem.F.args_dict_pop_3 _ _ _) (meets_dict_pop_default (mixKind X.prog X.w) a (kV_is ry) hd hp r) ⟨vs, dd, hn, h _ (I.tok _)⟩
theorem d_clear {Q : Value → Shared → Prop} (I : Inv X pins σ H s) (e : H a = some (.dK kvs)) (h : ∀ s', Inv X pins σ (upd H a (.dK [])) s' → Q .none s') : wpAny (model X.prog X.w) A (call (.builtin "dict.clear") [.ref a]) Q E s := by
  obtain ⟨z, hd, vs, rel, dd⟩ := dk_of I.hok e
  refine call_meetsIn PySem.F.slot_dict_clear dd.typeIs PySem.F.entry_dict_clear (PySem.F.args_dict_clear_1 _) (meets_dict_clear (mixKind X.prog X.w) a) ⟨vs, dd, by rw [← rel.length]; exact z, fun h' dd' hs => h _ ?_⟩
  have he : ∃ q, h'.get? a = some q := let ⟨q, _, _, hq, _⟩ := dd'; ⟨q, hq⟩
  exact d_write (t' := s.toks) I (by rw [e]; exact True.intro) hs he (dk_new (Nat.zero_le _) hd .nil dd')
theorem d_len {Q : Value → Shared → Prop} (I : Inv X pins σ H s) (e : Rd H a (.dK kvs)) (h : ∀ t s', Inv X pins σ H s' → Q (.int kvs.length t) s') : wpAny (model X.prog X.w) A (call (.builtin "len") [.ref a]) Q E s := by
  obtain ⟨z, hd, vs, rel, dd⟩ := dk_rd I.hok e
  refine call_len_dict hd dd (by rw [← rel.length]; rw [sizeLine_eq] at z; omega) ?_
  rw [← rel.length]
  exact h _ _ (I.tok _)
theorem d_truth {Q : Bool → Shared → Prop} (I : Inv X pins σ H s) (e : Rd H a (.dK kvs)) (h : ∀ s', Inv X pins σ H s' → Q (!kvs.isEmpty) s') : wpAny (model X.prog X.w) A (truthy (.ref a)) Q E s := by
  obtain ⟨z, hd, vs, rel, dd⟩ := dk_rd I.hok e
  refine wpAny_truthy_dict hd dd (by rw [← rel.length]; rw [sizeLine_eq] at z; omega) ?_
  have q : kvs.isEmpty = vs.isEmpty := by cases rel <;> rfl
  rw [← q]
  exact h _ (I.tok _)
end
def NoSl (i : Expr) : Prop := ∀ ov iv, subscripted i false ov iv = operate [ov, iv] (getItem ov iv)
theorem subD_of {prog : Program} {w : World} {A : Around} {E : Value → Shared → Prop} {s : Shared} {env : Env} {value slice : Expr} {pos : Pos} {T id : String} {Q : Value → Shared → Prop}
    (hl : typeLookup (.type T) "__getitem__" = pure (some (.builtin id))) (hs : NoSl slice)
    (h : wpAny (model prog w) A (eval value env) (fun o s₁ => wpAny (model prog w) A (eval slice env) (fun i s₂ => s₂.TypeIs o T ∧ wpAny (model prog w) A (getItem o i) Q E s₂) E s₁) E s) :
    wpAny (model prog w) A (eval (.Subscript value slice pos) env) Q E s := by
  refine Subscript_ (wpAny_mono h (fun o s₁ h₁ => wpAny_mono h₁ (fun i s₂ h₂ => ?_) fun _ _ x => x) fun _ _ x => x)
  obtain ⟨hT, h₂⟩ := h₂
  unfold subscriptTail
  refine wpAny_bind ?_
  rw [getitemInPython_of_ne hT.not_modules]
  refine wpAny_bind (wpAny_specialOf hT hl ?_)
  have fin : wpAny (model prog w) A (subscripted slice false o i) (fun r s₃ => wpAny (model prog w) A (letTemporaryGo value o r >>= fun _ => pure r) Q E s₃) E s₂ := by
    rw [hs o i]
    exact wpAny_operating (wpAny_mono h₂ (fun r s₃ h₃ => wpAny_bind (wpAny_letTemporaryGo (wpAny_pure h₃))) fun _ _ x => x)
  first
    | exact wpAny_pure (wpAny_bind fin)
    | exact wpAny_bind (wpAny_pure (wpAny_bind fin))
    | exact wpAny_bind fin
theorem dict_typeIs {X : Cx} {pins : List (Addr × Obj)} {σ : St} {H : Hp} {s : Shared} {a : Addr} {y : V} {o : Option V} (I : Inv X pins σ H s) (g : DGet H a y o) : s.TypeIs (.ref a) "dict" := by
  rcases g with ⟨kvs, k, e, _, _⟩ | ⟨kvs, k, b, e, _, _, _⟩
  · obtain ⟨_, _, vs, _, dd⟩ := dk_rd I.hok e
    exact dd.typeIs
  · obtain ⟨_, _, xs, _, dd⟩ := dt_rd I.hok e
    exact dd.typeIs
theorem dict_noDict {X : Cx} {pins : List (Addr × Obj)} {σ : St} {H : Hp} {s : Shared} {a : Addr} {y : V} {o : Option V} (I : Inv X pins σ H s) (g : DGet H a y o) :
    ∀ b, Value.ref a = .ref b → ∃ ob, s.heap.get? b = some ob ∧ ob.dict = none := fun b q => by
  cases q
  rcases g with ⟨kvs, k, e, _, _⟩ | ⟨kvs, k, b, e, _, _, _⟩
  · obtain ⟨_, _, vs, _, ob, _, _, h1, h2, _⟩ := dk_rd I.hok e
    exact ⟨ob, h1, h2.2.1⟩
  · obtain ⟨_, _, xs, _, ob, _, _, h1, h2, _⟩ := dt_rd I.hok e
    exact ⟨ob, h1, h2.2.1⟩
def tDGet (td ty : TE) : TE := fun σ H Q => td σ H fun x H1 => ty σ H1 fun y H2 => ∃ a v, x = .ref a ∧ DGet H2 a y (some v) ∧ Q v H2
def tDIn (ty td : TE) : TE := fun σ H Q => ty σ H fun y H1 => td σ H1 fun x H2 => ∃ a o, x = .ref a ∧ DGet H2 a y o ∧ Q (.bl o.isSome) H2
def tDNotIn (ty td : TE) : TE := fun σ H Q => ty σ H fun y H1 => td σ H1 fun x H2 => ∃ a o, x = .ref a ∧ DGet H2 a y o ∧ Q (.bl (!o.isSome)) H2
def sDPut (td ty tv : TE) : TS := fun D σ H => tv σ H fun v H1 => td σ H1 fun x H2 => ty σ H2 fun y H3 => ∃ a H4, x = .ref a ∧ DPut H3 a y v H4 ∧ D.nx σ H4
def sDAug (td ty tv : TE) (rd : V → V → Hp → VK → Prop) : TS := fun D σ H => td σ H fun x H1 => ty σ H1 fun y H2 => ∃ a v, x = .ref a ∧ DGet H2 a y (some v) ∧
  tv σ H2 fun y2 H3 => rd v y2 H3 fun z H4 => ∃ H5, DPut H4 a y z H5 ∧ D.nx σ H5
def sDDel (td ty : TE) : TS := fun D σ H => td σ H fun x H1 => ty σ H1 fun y H2 => ∃ a kvs k, x = .ref a ∧ H2 a = some (.dK kvs) ∧ y = kV k ∧ (valV kvs k).isSome = true ∧ D.nx σ (upd H2 a (.dK (dropK kvs k)))
section
variable {X : Cx} {o i e value : Expr} {pos pos' tpos : Pos} {td ty tv : TE}
theorem pe_dget (hu : X.A.units + 1 < cLine) (ho : PE X o td) (hi : PE X i ty) (hs : NoSl i) : PE X (.Subscript o i pos) (tDGet td ty) := by
  intro pins s σ H Q I h
  refine subD_of PySem.F.slot_dict_getitem.lookup hs (thn (ho pins s σ H _ I h) fun u s1 ⟨x, H1, I1, rx, q1⟩ => thn (hi pins s1 σ H1 _ I1 q1) fun iv s2 ⟨y, H2, I2, ry, a, v, ex, g, q2⟩ => ?_)
  subst ex
  obtain rfl : u = Value.ref a := rx
  exact ⟨dict_typeIs I2 g, d_getItem hu I2 g ry fun w' s3 I3 rw' => ⟨v, H2, I3, rw', q2⟩⟩
theorem pc_din (hu : X.A.units + 1 < cLine) (hi : PE X i ty) (ho : PE X o td) : PC X .In i o (tDIn ty td) := by
  intro pins s σ H Q I h
  refine thn (hi pins s σ H _ I h) fun iv s1 ⟨y, H1, I1, ry, q1⟩ => thn (ho pins s1 σ H1 _ I1 q1) fun u s2 ⟨x, H2, I2, rx, a, ov, ex, g, q2⟩ => ?_
  subst ex
  obtain rfl : u = Value.ref a := rx
  exact d_in hu I2 g ry fun s3 I3 => ⟨.bl ov.isSome, H2, I3, rfl, q2⟩
theorem pc_dnotin (hu : X.A.units + 1 < cLine) (hi : PE X i ty) (ho : PE X o td) : PC X .NotIn i o (tDNotIn ty td) := by
  intro pins s σ H Q I h
  refine thn (hi pins s σ H _ I h) fun iv s1 ⟨y, H1, I1, ry, q1⟩ => thn (ho pins s1 σ H1 _ I1 q1) fun u s2 ⟨x, H2, I2, rx, a, ov, ex, g, q2⟩ => ?_
  subst ex
  obtain rfl : u = Value.ref a := rx
  exact d_notIn hu I2 g ry fun s3 I3 => ⟨.bl (!ov.isSome), H2, I3, rfl, q2⟩
theorem ps_dput (hu : X.A.units + 1 < cLine) (ho : PE X o td) (hi : PE X i ty) (hv : PE X value tv) (hs : swapsWith value (some (.Subscript o i pos')) pos.line X.env = pure false) :
    PS X (.Assign [.Subscript o i pos'] value pos) (sDPut td ty tv) := by
  intro pins s σ H D I h
  refine wpAny_Assign_Subscript (thn (hv pins s σ H _ I h) fun r s1 ⟨v, H1, I1, rv, q1⟩ => thn (ho pins s1 σ H1 _ I1 q1) fun u s2 ⟨x, H2, I2, rx, q2⟩ => thn (hi pins s2 σ H2 _ I2 q2) fun iv s3 ⟨y, H3, I3, ry, a, H4, ex, g, q3⟩ => ?_) hs
  subst ex
  obtain rfl : u = Value.ref a := rx
  exact d_setItem hu I3 g ry rv fun s4 I4 => ⟨σ, H4, I4, q3⟩
theorem ps_daug {op : Operator} {rd : V → V → Hp → VK → Prop} (hu : X.A.units + 1 < cLine) (ho : PE X o td) (hi : PE X i ty) (hv : PE X value tv) (hop : InOp X op rd)
    (ha : ∀ ov iv new, augStore i ov iv new = (do holding [new, ov, iv] (setItem ov iv new); release [new, ov, iv] []; pure .next)) : PS X (.AugAssign (.Subscript o i tpos) op value pos) (sDAug td ty tv rd) := by
  intro pins s σ H D I h
  refine wpAny_AugAssign_SubscriptAny (thn (ho pins s σ H _ I h) fun u s1 ⟨x, H1, I1, rx, q1⟩ => thn (hi pins s1 σ H1 _ I1 q1) fun iv s2 ⟨y, H2, I2, ry, a, v, ex, g, q2⟩ => ?_) ha
  subst ex
  obtain rfl : u = Value.ref a := rx
  refine d_getItem hu I2 g ry fun w' s3 I3 rw' => thn (hv pins s3 σ H2 _ I3 q2) fun w2 s4 ⟨y2, H3, I4, ry2, q3⟩ => thn (hop pins s4 σ H3 v y2 w' w2 _ I4 rw' ry2 q3) fun w3 s5 ⟨z, H4, I5, rz, H5, g5, q4⟩ => ?_
  exact d_setItem hu I5 g5 ry rz fun s6 I6 => ⟨σ, H5, I6, q4⟩
theorem ps_ddel (ho : PE X o td) (hi : PE X i ty) : PS X (.Delete [.Subscript o i tpos] pos) (sDDel td ty) := by
  intro pins s σ H D I h
  refine wpAny_Delete (wpAny_deleteEach_cons (wpAny_delete_Subscript (thn (ho pins s σ H _ I h) fun u s1 ⟨x, H1, I1, rx, q1⟩ => thn (hi pins s1 σ H1 _ I1 q1) fun iv s2 ⟨y, H2, I2, ry, a, kvs, k, ex, e, ey, l, q2⟩ => ?_)))
  subst ex ey
  obtain rfl : u = Value.ref a := rx
  exact d_delItem I2 e ry l fun s3 I3 => wpAny_deleteEach_nil ⟨σ, _, I3, q2⟩
end
theorem dk_empty {P : Program} {w : World} {H : Hp} (h : Heap) (hb : sysModules < h.objs.size) : ObjOk P w H (h.push { cls := .type "dict", data := .dict #[] }) h.objs.size (.dK []) :=
  ⟨Nat.zero_le _, beq_eq_false_iff_ne.mpr (Ne.symm (Nat.ne_of_lt hb)), [], .nil, Heap.DictOf.new h⟩
theorem dt_empty {P : Program} {w : World} {H : Hp} (h : Heap) (hb : sysModules < h.objs.size) : ObjOk P w H (h.push { cls := .type "dict", data := .dict #[] }) h.objs.size (.dT []) :=
  ⟨Nat.zero_le _, beq_eq_false_iff_ne.mpr (Ne.symm (Nat.ne_of_lt hb)), [], .nil, _, #[], 0, Heap.get?_push_size _ rfl, ⟨rfl, rfl, rfl⟩, rfl, rfl, List.nodup_nil⟩
def tDNewK : TE := fun _ H Q => ∀ p, H p = none → Q (.ref p) (upd H p (.dK []))
def tDNewT : TE := fun _ H Q => ∀ p, H p = none → Q (.ref p) (upd H p (.dT []))
section
variable {X : Cx} {pos : Pos}
theorem pe_dnewK : PE X (.Dict [] [] pos) tDNewK := fun pins s σ H Q I h =>
  wpAny_Dict_empty ⟨.ref s.heap.objs.size, _, I.laid (a := s.heap.objs.size) (o := .dK []) (t' := s.toks) (fun _ _ q => Heap.get?_push_of_some _ q) (Nat.le_refl _) (dk_empty s.heap I.big), rfl, h _ (I.hok.fresh (Nat.le_refl _))⟩
theorem pe_dnewT : PE X (.Dict [] [] pos) tDNewT := fun pins s σ H Q I h =>
  wpAny_Dict_empty ⟨.ref s.heap.objs.size, _, I.laid (a := s.heap.objs.size) (o := .dT []) (t' := s.toks) (fun _ _ q => Heap.get?_push_of_some _ q) (Nat.le_refl _) (dt_empty s.heap I.big), rfl, h _ (I.hok.fresh (Nat.le_refl _))⟩
end
def tPairs : List (TE × TE) → St → Hp → (List (V × V) → Hp → Prop) → Prop
  | [], _, H, Q => Q [] H
  | (tk, tv) :: r, σ, H, Q => tk σ H fun x H1 => tv σ H1 fun y H2 => tPairs r σ H2 fun ps H3 => Q ((x, y) :: ps) H3
abbrev VV : List (V × V) → List (Value × Value) → Prop := Paired fun p q => RelV p.1 q.1 ∧ RelV p.2 q.2
def PPs (X : Cx) (pos : Pos) (keys : List (Option Expr)) (values : List Expr) (trs : List (TE × TE)) : Prop :=
  ∀ (pins : List (Addr × Obj)) (s : Shared) (σ : St) (H : Hp) (Q : List (V × V) → Hp → Prop), Inv X pins σ H s → tPairs trs σ H Q →
    wpAny (model X.prog X.w) X.A (evalPairs (pairTrees keys values X.env pos)) (fun vs s' => ∃ ps H', Inv X pins σ H' s' ∧ VV ps vs ∧ Q ps H') X.xe s
theorem pps_nil {X : Cx} {pos : Pos} : PPs X pos [] [] [] := fun pins s σ H Q I h => pairTrees_nil_walk ⟨[], H, I, .nil, h⟩
theorem pps_cons {X : Cx} {pos : Pos} {k v : Expr} {ks : List (Option Expr)} {vs : List Expr} {tk tv : TE} {trs : List (TE × TE)} (hk : PE X k tk) (hv : PE X v tv) (hr : PPs X pos ks vs trs) :
    PPs X pos (some k :: ks) (v :: vs) ((tk, tv) :: trs) := fun pins s σ H Q I h =>
  pairTrees_cons_walk (thn (hk pins s σ H _ I h) fun u s1 ⟨x, H1, I1, rx, q1⟩ => thn (hv pins s1 σ H1 _ I1 q1) fun w2 s2 ⟨y, H2, I2, ry, q2⟩ =>
    thn (hr pins s2 σ H2 _ I2 q2) fun ws s3 ⟨ps, H3, I3, rel, q3⟩ => ⟨(x, y) :: ps, H3, I3, .cons ⟨rx, ry⟩ rel, q3⟩)
def mergeK (kvs more : List (Key × V)) : List (Key × V) := more.foldl (fun acc kv => putK acc kv.1 kv.2) kvs
theorem KV.merge : ∀ {more : List (Key × V)} {rs : List (Key × Value)} {kvs : List (Key × V)} {vs : List (Key × Value)}, KV more rs → KV kvs vs → KV (mergeK kvs more) (merged vs rs) := by
  intro more rs kvs vs r
  unfold KV at r
  induction r generalizing kvs vs with
  | nil => intro q; exact q
  | @cons p q ps qs h t ih =>
    intro r0
    have e : KV (putK kvs p.1 p.2) (stored vs q.1 q.2) := by
      have := r0.put p.1 h.2
      rw [← h.1]; exact this
    exact ih e
theorem length_mergeK : ∀ (more kvs : List (Key × V)), (mergeK kvs more).length ≤ kvs.length + more.length
  | [], kvs => by show kvs.length ≤ kvs.length + 0; omega
  | p :: r, kvs => by
    have h1 := length_mergeK r (putK kvs p.1 p.2)
    have h2 := length_putK kvs p.1 p.2
    show (mergeK (putK kvs p.1 p.2) r).length ≤ _
    rw [List.length_cons]; omega
theorem carries_of {P : Program} {w : World} : ∀ {kvs : List (Key × V)} {ws : List (Value × Value)}, VV (kvs.map fun kv => (kV kv.1, kv.2)) ws → ∃ rs, Carries (mixKind P w) ws rs ∧ KV kvs rs
  | [], _, r => by rw [List.map_nil] at r; cases r; exact ⟨[], True.intro, .nil⟩
  | p :: kvs, _, r => by
    rw [List.map_cons] at r
    cases r with
    | @cons a b as bs h t =>
      obtain ⟨rs, c, q⟩ := carries_of (P := P) (w := w) t
      obtain ⟨b1, b2⟩ := b
      exact ⟨(p.1, b2) :: rs, ⟨kV_is h.1, rfl, c⟩, .cons ⟨rfl, h.2⟩ q⟩
def tDisp (trs : List (TE × TE)) : TE := fun σ H Q => ∀ p, H p = none → tPairs trs σ (upd H p (.dK [])) fun ps H2 => H2 p = some (.dK []) ∧ ∃ kvs : List (Key × V), ps = kvs.map (fun kv => (kV kv.1, kv.2)) ∧ kvs.length ≤ 15 ∧ Q (.ref p) (upd H2 p (.dK (mergeK [] kvs)))
theorem pe_disp {X : Cx} {pos : Pos} {keys : List (Option Expr)} {values : List Expr} {trs : List (TE × TE)} (h : PPs X pos keys values trs) (hall : keys.all (·.isSome) = true) (hl : keys.length = values.length) (h0 : keys ≠ [])
    (h15 : keys.length ≤ 15) : PE X (.Dict keys values pos) (tDisp trs) := by
  intro pins s σ H Q I q
  have hn := I.hok.fresh (Nat.le_refl s.heap.objs.size)
  have I1 := I.laid (a := s.heap.objs.size) (o := .dK []) (h' := s.heap.push { cls := .type "dict", data := .dict #[] }) (t' := s.toks) (fun _ _ q => Heap.get?_push_of_some _ q) (Nat.le_refl _) (dk_empty s.heap I.big)
  refine wpAny_Dict_walk (knd := mixKind X.prog X.w) hall hl h0 h15 (thn (h pins _ σ _ _ I1 (q _ hn)) fun ws s2 ⟨ps, H2, I2, rel, e, kvs, ep, lk, q2⟩ => ?_)
  subst ep
  obtain ⟨rs, c, rk⟩ := carries_of (P := X.prog) (w := X.w) rel
  obtain ⟨z, hd, vs0, r0, dd⟩ := dk_of I2.hok e
  cases r0
  refine ⟨rs, c, dd, fun h' dd' hs => ⟨.ref s.heap.objs.size, _, ?_, rfl, q2⟩⟩
  have hz : (mergeK [] kvs).length ≤ sizeLine := by
    have h1 := length_mergeK kvs []
    rw [List.length_nil] at h1
    rw [sizeLine_eq]; omega
  have he : ∃ q, h'.get? s.heap.objs.size = some q := let ⟨q, _, _, hq, _⟩ := dd'; ⟨q, hq⟩
  exact d_write I2 (by rw [e]; exact True.intro) hs he (dk_new hz hd (rk.merge .nil) dd')
structure M1 (X : Cx) (o : Expr) (m : Str) (apos : Pos) (e : Expr) (cpos : Pos) : Prop where
  base : attributeBase o m X.env (eval o X.env) = eval o X.env
  few : ((backTo cpos (starEach [e] X.env)).all (fun x => !x.1) && (backToKw cpos (keywordEach [] X.env)).all (fun x => x.1.isSome)
    && decide (([e] : List Expr).length + ([] : List Keyword).length + (if ([] : List Keyword).isEmpty then 0 else 1) < 30)) = true
  line : (apos.endLine == cpos.line) = true
  trees : backTo cpos (starEach [e] X.env) = [(false, eval e X.env)]
structure M2 (X : Cx) (o : Expr) (m : Str) (apos : Pos) (e f : Expr) (cpos : Pos) : Prop where
  base : attributeBase o m X.env (eval o X.env) = eval o X.env
  few : ((backTo cpos (starEach [e, f] X.env)).all (fun x => !x.1) && (backToKw cpos (keywordEach [] X.env)).all (fun x => x.1.isSome)
    && decide (([e, f] : List Expr).length + ([] : List Keyword).length + (if ([] : List Keyword).isEmpty then 0 else 1) < 30)) = true
  line : (apos.endLine == cpos.line) = true
  trees : backTo cpos (starEach [e, f] X.env) = [(false, eval e X.env), (false, eval f X.env)]
def IsD (H : Hp) (a : Addr) : Prop := (∃ kvs, Rd H a (.dK kvs)) ∨ ∃ kvs, Rd H a (.dT kvs)
theorem isD_at {X : Cx} {pins : List (Addr × Obj)} {σ : St} {H : Hp} {s : Shared} {a : Addr} (I : Inv X pins σ H s) (d : IsD H a) :
    s.TypeIs (.ref a) "dict" ∧ (∀ b, Value.ref a = .ref b → ∃ ob, s.heap.get? b = some ob ∧ ob.dict = none) ∧ (a == sysModules) = false := by
  rcases d with ⟨kvs, e⟩ | ⟨kvs, e⟩
  · obtain ⟨_, hd, vs, _, dd⟩ := dk_rd I.hok e
    refine ⟨dd.typeIs, fun b q => ?_, hd⟩
    cases q
    obtain ⟨ob, _, _, h1, h2, _⟩ := dd
    exact ⟨ob, h1, h2.2.1⟩
  · obtain ⟨_, hd, xs, _, dd⟩ := dt_rd I.hok e
    refine ⟨dd.typeIs, fun b q => ?_, hd⟩
    cases q
    obtain ⟨ob, _, _, h1, h2, _⟩ := dd
    exact ⟨ob, h1, h2.2.1⟩
section
variable {X : Cx} {pins : List (Addr × Obj)} {σ : St} {H : Hp} {s : Shared} {a : Addr} {y d : V} {u r : Value} {o : Option V} {A : Around} {E : Value → Shared → Prop}
theorem d_get1 {Q : Value → Shared → Prop} (hu : A.units + 1 < cLine) (I : Inv X pins σ H s) (g : DGet H a y o) (ry : RelV y u) (h : ∀ w' s', Inv X pins σ H s' → RelV (o.getD .non) w' → Q w' s') :
    wpAny (model X.prog X.w) A (call (.builtin "dict.get") [.ref a, u]) Q E s := by
  rcases g with ⟨kvs, k, e, ey, l⟩ | ⟨kvs, k, b, e, ey, eb, l⟩
  · subst ey
    obtain ⟨z, hd, vs, rel, dd⟩ := dk_rd I.hok e
    refine call_meetsIn PySem.F.slot_dict_get dd.typeIs PySem.F.entry_dict_get (PySem.F.args_dict_get_2 _ _) (meets_dict_get (mixKind X.prog X.w) a (kV_is ry) hd) ⟨_, dd.mapOf, h _ _ (I.tok _) ?_⟩
    rw [l]
    exact (rel.val k).getD rfl
  · subst ey
    cases (show u = Value.ref b from ry)
    obtain ⟨z, hd, xs, rel, dd⟩ := dt_rd I.hok e
    refine call_meetsIn PySem.F.slot_dict_get dd.typeIs PySem.F.entry_dict_get (PySem.F.args_dict_get_2 _ _) (meetsH_dict_get (tupleKind (mixKind X.prog X.w)) a b hd) ⟨tupleKind_room_in1 hu, k, xs, key_of I.hok eb, dd, h _ _ (I.tok _) ?_⟩
    rw [l]
    exact (rel.val k).getD rfl
theorem d_get2 {Q : Value → Shared → Prop} (hu : A.units + 1 < cLine) (I : Inv X pins σ H s) (g : DGet H a y o) (ry : RelV y u) (rd : RelV d r) (h : ∀ w' s', Inv X pins σ H s' → RelV (o.getD d) w' → Q w' s') :
    wpAny (model X.prog X.w) A (call (.builtin "dict.get") [.ref a, u, r]) Q E s := by
  rcases g with ⟨kvs, k, e, ey, l⟩ | ⟨kvs, k, b, e, ey, eb, l⟩
  · subst ey
    obtain ⟨z, hd, vs, rel, dd⟩ := dk_rd I.hok e
    refine call_meetsIn PySem.F.slot_dict_get dd.typeIs PySem.F.entry_dict_get (PySem.F.args_dict_get_3 _ _ _) (meets_dict_get_default (mixKind X.prog X.w) a (kV_is ry) hd r) ⟨_, dd.mapOf, h _ _ (I.tok _) ?_⟩
    rw [l]
    exact (rel.val k).getD rd
  · subst ey
    cases (show u = Value.ref b from ry)
    obtain ⟨z, hd, xs, rel, dd⟩ := dt_rd I.hok e
    refine call_meetsIn PySem.F.slot_dict_get dd.typeIs PySem.F.entry_dict_get (PySem.F.args_dict_get_3 _ _ _) (meetsH_dict_get_default (tupleKind (mixKind X.prog X.w)) a b hd r) ⟨tupleKind_room_in1 hu, k, xs, key_of I.hok eb, dd, h _ _ (I.tok _) ?_⟩
    rw [l]
    exact (rel.val k).getD rd
end
def tDGet1 (td ty : TE) : TE := fun σ H Q => td σ H fun x H1 => ∃ a, x = .ref a ∧ IsD H1 a ∧ ty σ H1 fun y H2 => ∃ o, DGet H2 a y o ∧ Q (o.getD .non) H2
def tDGet2 (td ty tx : TE) : TE := fun σ H Q => td σ H fun x H1 => ∃ a, x = .ref a ∧ IsD H1 a ∧ ty σ H1 fun y H2 => tx σ H2 fun z H3 => ∃ o, DGet H3 a y o ∧ Q (o.getD z) H3
def tDPop1 (td ty : TE) : TE := fun σ H Q => td σ H fun x H1 => ∃ a, x = .ref a ∧ IsD H1 a ∧ ty σ H1 fun y H2 => ∃ kvs k v, H2 a = some (.dK kvs) ∧ y = kV k ∧ valV kvs k = some v ∧ Q v (upd H2 a (.dK (dropK kvs k)))
def tDPop2 (td ty tx : TE) : TE := fun σ H Q => td σ H fun x H1 => ∃ a, x = .ref a ∧ IsD H1 a ∧ ty σ H1 fun y H2 => tx σ H2 fun z H3 => ∃ kvs k, H3 a = some (.dK kvs) ∧ y = kV k ∧
  (∀ v, valV kvs k = some v → Q v (upd H3 a (.dK (dropK kvs k)))) ∧ (valV kvs k = none → Q z H3)
section
variable {X : Cx} {o e f : Expr} {apos cpos : Pos} {td ty tx : TE}
theorem pe_dget1 (hu : X.A.units + 1 < cLine) (ho : PE X o td) (he : PE X e ty) (m : M1 X o "get" apos e cpos) : PE X (.Call (.Attribute o "get" apos) [e] [] cpos) (tDGet1 td ty) := by
  intro pins s σ H Q I h
  refine wpAny_Call_method m.base m.few m.line PySem.F.plainAttrs_dict PySem.F.slot_dict_get PySem.F.type_dict_get (thn (ho pins s σ H _ I h) fun u s1 ⟨x, H1, I1, rx, a, ex, d, q1⟩ => ?_)
  subst ex
  obtain rfl : u = Value.ref a := rx
  obtain ⟨t1, t2, _⟩ := isD_at I1 d
  refine ⟨t1, t2, ?_⟩
  rw [m.trees]
  refine Calls.callWith_builtin rfl (Calls.evalArgs_plain (Calls.spliced_cons (thn (he pins s1 σ H1 _ I1 q1) fun iv s2 ⟨y, H2, I2, ry, ov, g, q2⟩ => Calls.spliced_nil ?_)))
  exact d_get1 hu I2 g ry fun w' s3 I3 rw' => ⟨_, H2, I3, rw', q2⟩
theorem pe_dget2 (hu : X.A.units + 1 < cLine) (ho : PE X o td) (he : PE X e ty) (hf : PE X f tx) (m : M2 X o "get" apos e f cpos) : PE X (.Call (.Attribute o "get" apos) [e, f] [] cpos) (tDGet2 td ty tx) := by
  intro pins s σ H Q I h
  refine wpAny_Call_method m.base m.few m.line PySem.F.plainAttrs_dict PySem.F.slot_dict_get PySem.F.type_dict_get (thn (ho pins s σ H _ I h) fun u s1 ⟨x, H1, I1, rx, a, ex, d, q1⟩ => ?_)
  subst ex
  obtain rfl : u = Value.ref a := rx
  obtain ⟨t1, t2, _⟩ := isD_at I1 d
  refine ⟨t1, t2, ?_⟩
  rw [m.trees]
  refine Calls.callWith_builtin rfl (Calls.evalArgs_plain (Calls.spliced_cons (thn (he pins s1 σ H1 _ I1 q1) fun iv s2 ⟨y, H2, I2, ry, q2⟩ =>
    Calls.spliced_cons (thn (hf pins s2 σ H2 _ I2 q2) fun fv s3 ⟨z, H3, I3, rz, ov, g, q3⟩ => Calls.spliced_nil ?_))))
  exact d_get2 hu I3 g ry rz fun w' s4 I4 rw' => ⟨_, H3, I4, rw', q3⟩
theorem pe_dpop1 (ho : PE X o td) (he : PE X e ty) (m : M1 X o "pop" apos e cpos) : PE X (.Call (.Attribute o "pop" apos) [e] [] cpos) (tDPop1 td ty) := by
  intro pins s σ H Q I h
  refine wpAny_Call_method m.base m.few m.line PySem.F.plainAttrs_dict PySem.F.slot_dict_pop PySem.F.type_dict_pop (thn (ho pins s σ H _ I h) fun u s1 ⟨x, H1, I1, rx, a, ex, d, q1⟩ => ?_)
  subst ex
  obtain rfl : u = Value.ref a := rx
  obtain ⟨t1, t2, _⟩ := isD_at I1 d
  refine ⟨t1, t2, ?_⟩
  rw [m.trees]
  refine Calls.callWith_builtin rfl (Calls.evalArgs_plain (Calls.spliced_cons (thn (he pins s1 σ H1 _ I1 q1) fun iv s2 ⟨y, H2, I2, ry, kvs, k, v, ea, ey, l, q2⟩ => Calls.spliced_nil ?_)))
  subst ey
  exact d_pop I2 ea ry l (.inl rfl) fun w' s3 I3 rw' => ⟨v, _, I3, rw', q2⟩
theorem pe_dpop2 (ho : PE X o td) (he : PE X e ty) (hf : PE X f tx) (m : M2 X o "pop" apos e f cpos) : PE X (.Call (.Attribute o "pop" apos) [e, f] [] cpos) (tDPop2 td ty tx) := by
  intro pins s σ H Q I h
  refine wpAny_Call_method m.base m.few m.line PySem.F.plainAttrs_dict PySem.F.slot_dict_pop PySem.F.type_dict_pop (thn (ho pins s σ H _ I h) fun u s1 ⟨x, H1, I1, rx, a, ex, d, q1⟩ => ?_)
  subst ex
  obtain rfl : u = Value.ref a := rx
  obtain ⟨t1, t2, _⟩ := isD_at I1 d
  refine ⟨t1, t2, ?_⟩
  rw [m.trees]
  refine Calls.callWith_builtin rfl (Calls.evalArgs_plain (Calls.spliced_cons (thn (he pins s1 σ H1 _ I1 q1) fun iv s2 ⟨y, H2, I2, ry, q2⟩ =>
    Calls.spliced_cons (thn (hf pins s2 σ H2 _ I2 q2) fun fv s3 ⟨z, H3, I3, rz, kvs, k, ea, ey, q3, q4⟩ => Calls.spliced_nil ?_))))
  subst ey
  cases l : valV kvs k with
  | some v => exact d_pop I3 ea ry l (.inr ⟨fv, rfl⟩) fun w' s4 I4 rw' => ⟨v, _, I4, rw', q3 v l⟩
  | none => exact d_popD I3 ea ry l fun s4 I4 => ⟨z, H3, I4, rz, q4 l⟩
end
section
variable {X : Cx} {pins : List (Addr × Obj)} {σ : St} {H : Hp} {s : Shared} {a : Addr} {kvs : List (Key × V)} {A : Around} {E : Value → Shared → Prop}
theorem d_copyOf {Q : Value → Shared → Prop} (I : Inv X pins σ H s) (e : Rd H a (.dK kvs)) (h : ∀ p s', H p = none → Inv X pins σ (upd H p (.dK kvs)) s' → Q (.ref p) s') : wpAny (model X.prog X.w) A (call (.type "dict") [.ref a]) Q E s := by
  obtain ⟨z, hd, vs, rel, dd⟩ := dk_rd I.hok e
  refine kt_call_dict hd dd (by rw [← rel.length]; exact z) fun h' dd' hs => ?_
  refine h _ _ (I.hok.fresh (Nat.le_refl _)) (I.laid (a := s.heap.objs.size) (o := .dK kvs) (t' := s.toks) (fun b q hq => ?_) (Nat.le_refl _) (dk_new z (beq_eq_false_iff_ne.mpr (Ne.symm (Nat.ne_of_lt I.big))) rel dd'))
  exact (hs.2 b (Nat.ne_of_lt (Heap.lt_size hq))).trans (Heap.get?_push_of_some _ hq)
end
section
variable {X : Cx} {pins : List (Addr × Obj)} {σ : St} {H : Hp} {s : Shared} {a : Addr} {y : V} {u : Value} {A : Around} {E : Value → Shared → Prop}
theorem d_missing {Q : Value → Shared → Prop} (hu : A.units + 1 < cLine) (hh : A.handled = none) (I : Inv X pins σ H s) (g : DGet H a y none) (ry : RelV y u)
    (h : ∀ h' e t', Heap.NewExc s.heap h' e "KeyError" → E (.ref e) { s with heap := h', toks := t' }) : wpAny (model X.prog X.w) A (getItem (.ref a) u) Q E s := by
  rcases g with ⟨kvs, k, e, ey, l⟩ | ⟨kvs, k, b, e, ey, eb, l⟩
  · subst ey
    obtain ⟨z, hd, vs, rel, dd⟩ := dk_rd I.hok e
    have hn : valueAt vs k = none := RelO.none_of (by rw [l]; exact rel.val k)
    exact wpAny_getItem_missing_of (kV_is ry) hd hh dd.mapOf hn fun h' ex ne => h h' ex _ ne
  · subst ey
    cases (show u = Value.ref b from ry)
    obtain ⟨z, hd, xs, rel, dd⟩ := dt_rd I.hok e
    have hn : (atKey xs k).map (·.2) = none := RelO.none_of (by rw [l]; exact rel.val k)
    exact wpAny_getItem_missing_heap (tupleKind_room_in1 hu) (key_of I.hok eb) hd hh dd (Option.map_eq_none_iff.mp hn) fun h' ex ne => h h' ex _ ne
end
end L2
end
section
set_option Elab.async false
set_option linter.all false
set_option maxRecDepth 100000
namespace L2
open PySem PySem.Spec PyProof.Rows
def isStar : Expr → Bool
  | .Starred .. => true
  | _ => false
theorem starEach_plain {e : Expr} {es : List Expr} {env : Env} (h : isStar e = false) : starEach (e :: es) env = (false, eval e env) :: starEach es env := by
  cases e <;> first | rfl | exact absurd h (by intro z; cases z)
theorem pa_cn {X : Cx} {e : Expr} {es : List Expr} {te : TE} {t : TA} (ha : PE X e te) (hr : PA X es t) (hs : isStar e = false := by rfl) : PA X (e :: es) (tCons te t) := pa_cons ha hr (starEach_plain hs)
section
variable {X : Cx}
theorem pa1 {e0 : Expr} {t0 : TE} (h0 : PE X e0 t0) (s0 : isStar e0 = false := by rfl) : PA X [e0] (tCons t0 tNil) := (pa_cn h0 pa_nil s0)
theorem pa2 {e0 e1 : Expr} {t0 t1 : TE} (h0 : PE X e0 t0) (h1 : PE X e1 t1) (s0 : isStar e0 = false := by rfl) (s1 : isStar e1 = false := by rfl) : PA X [e0, e1] (tCons t0 (tCons t1 tNil)) := (pa_cn h0 (pa_cn h1 pa_nil s1) s0)
theorem pa3 {e0 e1 e2 : Expr} {t0 t1 t2 : TE} (h0 : PE X e0 t0) (h1 : PE X e1 t1) (h2 : PE X e2 t2) (s0 : isStar e0 = false := by rfl) (s1 : isStar e1 = false := by rfl) (s2 : isStar e2 = false := by rfl) : PA X [e0, e1, e2] (tCons t0 (tCons t1 (tCons t2 tNil))) := (pa_cn h0 (pa_cn h1 (pa_cn h2 pa_nil s2) s1) s0)
theorem pa4 {e0 e1 e2 e3 : Expr} {t0 t1 t2 t3 : TE} (h0 : PE X e0 t0) (h1 : PE X e1 t1) (h2 : PE X e2 t2) (h3 : PE X e3 t3) (s0 : isStar e0 = false := by rfl) (s1 : isStar e1 = false := by rfl) (s2 : isStar e2 = false := by rfl) (s3 : isStar e3 = false := by rfl) : PA X [e0, e1, e2, e3] (tCons t0 (tCons t1 (tCons t2 (tCons t3 tNil)))) := (pa_cn h0 (pa_cn h1 (pa_cn h2 (pa_cn h3 pa_nil s3) s2) s1) s0)
theorem pa5 {e0 e1 e2 e3 e4 : Expr} {t0 t1 t2 t3 t4 : TE} (h0 : PE X e0 t0) (h1 : PE X e1 t1) (h2 : PE X e2 t2) (h3 : PE X e3 t3) (h4 : PE X e4 t4) (s0 : isStar e0 = false := by rfl) (s1 : isStar e1 = false := by rfl) (s2 : isStar e2 = false := by rfl) (s3 : isStar e3 = false := by rfl) (s4 : isStar e4 = false := by rfl) : PA X [e0, e1, e2, e3, e4] (tCons t0 (tCons t1 (tCons t2 (tCons t3 (tCons t4 tNil))))) := (pa_cn h0 (pa_cn h1 (pa_cn h2 (pa_cn h3 (pa_cn h4 pa_nil s4) s3) s2) s1) s0)
theorem pa6 {e0 e1 e2 e3 e4 e5 : Expr} {t0 t1 t2 t3 t4 t5 : TE} (h0 : PE X e0 t0) (h1 : PE X e1 t1) (h2 : PE X e2 t2) (h3 : PE X e3 t3) (h4 : PE X e4 t4) (h5 : PE X e5 t5) (s0 : isStar e0 = false := by rfl) (s1 : isStar e1 = false := by rfl) (s2 : isStar e2 = false := by rfl) (s3 : isStar e3 = false := by rfl) (s4 : isStar e4 = false := by rfl) (s5 : isStar e5 = false := by rfl) : PA X [e0, e1, e2, e3, e4, e5] (tCons t0 (tCons t1 (tCons t2 (tCons t3 (tCons t4 (tCons t5 tNil)))))) := (pa_cn h0 (pa_cn h1 (pa_cn h2 (pa_cn h3 (pa_cn h4 (pa_cn h5 pa_nil s5) s4) s3) s2) s1) s0)
theorem pss2 {e0 e1 : Stmt} {t0 t1 : TS} (h0 : PS X e0 t0) (h1 : PS X e1 t1) : PSs X [e0, e1] (tSeq t0 t1) := (pss_cons h0 (pss_one h1))
theorem pss3 {e0 e1 e2 : Stmt} {t0 t1 t2 : TS} (h0 : PS X e0 t0) (h1 : PS X e1 t1) (h2 : PS X e2 t2) : PSs X [e0, e1, e2] (tSeq t0 (tSeq t1 t2)) := (pss_cons h0 (pss_cons h1 (pss_one h2)))
theorem pss4 {e0 e1 e2 e3 : Stmt} {t0 t1 t2 t3 : TS} (h0 : PS X e0 t0) (h1 : PS X e1 t1) (h2 : PS X e2 t2) (h3 : PS X e3 t3) : PSs X [e0, e1, e2, e3] (tSeq t0 (tSeq t1 (tSeq t2 t3))) := (pss_cons h0 (pss_cons h1 (pss_cons h2 (pss_one h3))))
theorem pss5 {e0 e1 e2 e3 e4 : Stmt} {t0 t1 t2 t3 t4 : TS} (h0 : PS X e0 t0) (h1 : PS X e1 t1) (h2 : PS X e2 t2) (h3 : PS X e3 t3) (h4 : PS X e4 t4) : PSs X [e0, e1, e2, e3, e4] (tSeq t0 (tSeq t1 (tSeq t2 (tSeq t3 t4)))) := (pss_cons h0 (pss_cons h1 (pss_cons h2 (pss_cons h3 (pss_one h4)))))
theorem pss6 {e0 e1 e2 e3 e4 e5 : Stmt} {t0 t1 t2 t3 t4 t5 : TS} (h0 : PS X e0 t0) (h1 : PS X e1 t1) (h2 : PS X e2 t2) (h3 : PS X e3 t3) (h4 : PS X e4 t4) (h5 : PS X e5 t5) : PSs X [e0, e1, e2, e3, e4, e5] (tSeq t0 (tSeq t1 (tSeq t2 (tSeq t3 (tSeq t4 t5))))) := (pss_cons h0 (pss_cons h1 (pss_cons h2 (pss_cons h3 (pss_cons h4 (pss_one h5))))))
theorem pss7 {e0 e1 e2 e3 e4 e5 e6 : Stmt} {t0 t1 t2 t3 t4 t5 t6 : TS} (h0 : PS X e0 t0) (h1 : PS X e1 t1) (h2 : PS X e2 t2) (h3 : PS X e3 t3) (h4 : PS X e4 t4) (h5 : PS X e5 t5) (h6 : PS X e6 t6) : PSs X [e0, e1, e2, e3, e4, e5, e6] (tSeq t0 (tSeq t1 (tSeq t2 (tSeq t3 (tSeq t4 (tSeq t5 t6)))))) := (pss_cons h0 (pss_cons h1 (pss_cons h2 (pss_cons h3 (pss_cons h4 (pss_cons h5 (pss_one h6)))))))
theorem pss8 {e0 e1 e2 e3 e4 e5 e6 e7 : Stmt} {t0 t1 t2 t3 t4 t5 t6 t7 : TS} (h0 : PS X e0 t0) (h1 : PS X e1 t1) (h2 : PS X e2 t2) (h3 : PS X e3 t3) (h4 : PS X e4 t4) (h5 : PS X e5 t5) (h6 : PS X e6 t6) (h7 : PS X e7 t7) : PSs X [e0, e1, e2, e3, e4, e5, e6, e7] (tSeq t0 (tSeq t1 (tSeq t2 (tSeq t3 (tSeq t4 (tSeq t5 (tSeq t6 t7))))))) := (pss_cons h0 (pss_cons h1 (pss_cons h2 (pss_cons h3 (pss_cons h4 (pss_cons h5 (pss_cons h6 (pss_one h7))))))))
theorem pss9 {e0 e1 e2 e3 e4 e5 e6 e7 e8 : Stmt} {t0 t1 t2 t3 t4 t5 t6 t7 t8 : TS} (h0 : PS X e0 t0) (h1 : PS X e1 t1) (h2 : PS X e2 t2) (h3 : PS X e3 t3) (h4 : PS X e4 t4) (h5 : PS X e5 t5) (h6 : PS X e6 t6) (h7 : PS X e7 t7) (h8 : PS X e8 t8) : PSs X [e0, e1, e2, e3, e4, e5, e6, e7, e8] (tSeq t0 (tSeq t1 (tSeq t2 (tSeq t3 (tSeq t4 (tSeq t5 (tSeq t6 (tSeq t7 t8)))))))) := (pss_cons h0 (pss_cons h1 (pss_cons h2 (pss_cons h3 (pss_cons h4 (pss_cons h5 (pss_cons h6 (pss_cons h7 (pss_one h8)))))))))
theorem pss10 {e0 e1 e2 e3 e4 e5 e6 e7 e8 e9 : Stmt} {t0 t1 t2 t3 t4 t5 t6 t7 t8 t9 : TS} (h0 : PS X e0 t0) (h1 : PS X e1 t1) (h2 : PS X e2 t2) (h3 : PS X e3 t3) (h4 : PS X e4 t4) (h5 : PS X e5 t5) (h6 : PS X e6 t6) (h7 : PS X e7 t7) (h8 : PS X e8 t8) (h9 : PS X e9 t9) : PSs X [e0, e1, e2, e3, e4, e5, e6, e7, e8, e9] (tSeq t0 (tSeq t1 (tSeq t2 (tSeq t3 (tSeq t4 (tSeq t5 (tSeq t6 (tSeq t7 (tSeq t8 t9))))))))) := (pss_cons h0 (pss_cons h1 (pss_cons h2 (pss_cons h3 (pss_cons h4 (pss_cons h5 (pss_cons h6 (pss_cons h7 (pss_cons h8 (pss_one h9))))))))))
theorem pss11 {e0 e1 e2 e3 e4 e5 e6 e7 e8 e9 e10 : Stmt} {t0 t1 t2 t3 t4 t5 t6 t7 t8 t9 t10 : TS} (h0 : PS X e0 t0) (h1 : PS X e1 t1) (h2 : PS X e2 t2) (h3 : PS X e3 t3) (h4 : PS X e4 t4) (h5 : PS X e5 t5) (h6 : PS X e6 t6) (h7 : PS X e7 t7) (h8 : PS X e8 t8) (h9 : PS X e9 t9) (h10 : PS X e10 t10) : PSs X [e0, e1, e2, e3, e4, e5, e6, e7, e8, e9, e10] (tSeq t0 (tSeq t1 (tSeq t2 (tSeq t3 (tSeq t4 (tSeq t5 (tSeq t6 (tSeq t7 (tSeq t8 (tSeq t9 t10)))))))))) := (pss_cons h0 (pss_cons h1 (pss_cons h2 (pss_cons h3 (pss_cons h4 (pss_cons h5 (pss_cons h6 (pss_cons h7 (pss_cons h8 (pss_cons h9 (pss_one h10)))))))))))
theorem pss12 {e0 e1 e2 e3 e4 e5 e6 e7 e8 e9 e10 e11 : Stmt} {t0 t1 t2 t3 t4 t5 t6 t7 t8 t9 t10 t11 : TS} (h0 : PS X e0 t0) (h1 : PS X e1 t1) (h2 : PS X e2 t2) (h3 : PS X e3 t3) (h4 : PS X e4 t4) (h5 : PS X e5 t5) (h6 : PS X e6 t6) (h7 : PS X e7 t7) (h8 : PS X e8 t8) (h9 : PS X e9 t9) (h10 : PS X e10 t10) (h11 : PS X e11 t11) : PSs X [e0, e1, e2, e3, e4, e5, e6, e7, e8, e9, e10, e11] (tSeq t0 (tSeq t1 (tSeq t2 (tSeq t3 (tSeq t4 (tSeq t5 (tSeq t6 (tSeq t7 (tSeq t8 (tSeq t9 (tSeq t10 t11))))))))))) := (pss_cons h0 (pss_cons h1 (pss_cons h2 (pss_cons h3 (pss_cons h4 (pss_cons h5 (pss_cons h6 (pss_cons h7 (pss_cons h8 (pss_cons h9 (pss_cons h10 (pss_one h11))))))))))))
theorem pss13 {e0 e1 e2 e3 e4 e5 e6 e7 e8 e9 e10 e11 e12 : Stmt} {t0 t1 t2 t3 t4 t5 t6 t7 t8 t9 t10 t11 t12 : TS} (h0 : PS X e0 t0) (h1 : PS X e1 t1) (h2 : PS X e2 t2) (h3 : PS X e3 t3) (h4 : PS X e4 t4) (h5 : PS X e5 t5) (h6 : PS X e6 t6) (h7 : PS X e7 t7) (h8 : PS X e8 t8) (h9 : PS X e9 t9) (h10 : PS X e10 t10) (h11 : PS X e11 t11) (h12 : PS X e12 t12) : PSs X [e0, e1, e2, e3, e4, e5, e6, e7, e8, e9, e10, e11, e12] (tSeq t0 (tSeq t1 (tSeq t2 (tSeq t3 (tSeq t4 (tSeq t5 (tSeq t6 (tSeq t7 (tSeq t8 (tSeq t9 (tSeq t10 (tSeq t11 t12)))))))))))) := (pss_cons h0 (pss_cons h1 (pss_cons h2 (pss_cons h3 (pss_cons h4 (pss_cons h5 (pss_cons h6 (pss_cons h7 (pss_cons h8 (pss_cons h9 (pss_cons h10 (pss_cons h11 (pss_one h12)))))))))))))
end
section
variable {X : Cx} {pos : Pos}
theorem call_isinst : CallR X (.builtin "isinstance") (fun xs H Q => ∃ x n t b, xs = [x, .ty n] ∧ TyOf X.K H x t ∧ PySem.W.kitOne X.K t (.type n) = some b ∧ Q (.bl b) H) := by
  intro pins s σ H xs us Q I r h
  obtain ⟨x, n, t, b, rfl, ty, e, q⟩ := h
  obtain ⟨u, w', rfl, ru, rw'⟩ := vals2 r
  cases (show w' = Value.type n from rw')
  exact isinst_ok I ru ty e fun tk => ⟨.bl b, H, I.tok tk, rfl, q⟩
theorem call_isinstC : CallR X (.builtin "isinstance") (fun xs H Q => ∃ x C t b, xs = [x, .ref C] ∧ TyOf X.K H x t ∧ PySem.W.kitOne X.K t (.ref C) = some b ∧ Q (.bl b) H) := by
  intro pins s σ H xs us Q I r h
  obtain ⟨x, n, t, b, rfl, ty, e, q⟩ := h
  obtain ⟨u, w', rfl, ru, rw'⟩ := vals2 r
  cases (show w' = Value.ref n from rw')
  exact isinst_ok I ru ty e fun tk => ⟨.bl b, H, I.tok tk, rfl, q⟩
theorem vals_bools : ∀ {bs : List Bool} {us : List Value}, Vals (bs.map V.bl) us → us = bs.map Value.bool
  | [], _, .nil => rfl
  | b :: bs, _, .cons r t => by
    rw [show _ = Value.bool b from r, vals_bools t]
    rfl
theorem range_all_map (bs : List Bool) : (List.range bs.length).all (fun i => bs.getD i true) = bs.all id := by
  induction bs with
  | nil => rfl
  | cons b bs ih =>
    rw [List.length_cons, List.range_succ_eq_map, List.all_cons, List.all_map, List.all_cons, ← ih]
    rfl
theorem call_all_list (hc : X.A.handled = none) : CallR X (.builtin "all") (fun xs H Q => ∃ (p : Addr) (bs : List Bool), xs = [.ref p] ∧ SqL X.K H p (bs.map V.bl) ∧ Q (.bl (bs.all id)) H) := by
  intro pins s σ H xs us Q I r h
  obtain ⟨p, bs, rfl, hq, q⟩ := h
  obtain ⟨u, rfl, ru⟩ := vals1 r
  cases ru
  obtain ⟨its, rv, pl, hz⟩ := I.list hq
  have ei := vals_bools rv
  subst ei
  have hl : s.heap.IsList p (bs.map Value.bool).toArray := pl.isList
  have hne : p ≠ s.heap.objs.size := by
    obtain ⟨o, ho, _⟩ := hl
    exact Nat.ne_of_lt (Heap.lt_size ho)
  refine call_all_walk (wpAny_pyIter_list hl ?_)
  refine ⟨s.heap.objs.size, _, _, _, _, _, fun i => bs.getD i true, rfl, Walks.list (A := X.A.in1) hc _ p hne (bs.map Value.bool).toArray, ⟨⟨_, Heap.get?_push_size _ rfl, rfl, rfl⟩, ?_⟩, ?_, fun h' tk hk => ?_⟩
  · obtain ⟨o, ho, hr⟩ := hl
    exact ⟨o, Heap.get?_push_of_some _ ho, hr⟩
  · intro i v s' Q' E' hv hQ'
    have hv : (bs.map Value.bool).toArray[i]? = some v := hv
    rw [List.getElem?_toArray, List.getElem?_map] at hv
    cases eb : bs[i]? with
    | none => rw [eb] at hv; cases hv
    | some b =>
      rw [eb] at hv
      have : Value.bool b = v := Option.some.inj hv
      subst this
      have eg : bs.getD i true = b := by rw [List.getD_eq_getElem?_getD, eb]; rfl
      have hQ' : Q' (bs.getD i true) s' := hQ'
      rw [eg] at hQ'
      exact wpAny_truthy_bool hQ'
  · refine ⟨.bl (bs.all id), H, I.kept (t' := tk) fun b o e => hk b o (fun z => ?_) (Heap.get?_push_of_some _ e), ?_, q⟩
    · have z : b = s.heap.objs.size := by simpa using z
      exact absurd (Heap.lt_size e) (by rw [z]; exact Nat.lt_irrefl _)
    · show Value.bool _ = Value.bool _
      rw [← range_all_map bs]
      simp
theorem call_sum_list (hc : X.A.handled = none) : CallR X (.builtin "sum") (fun xs H Q => ∃ (p : Addr) (ns : List Int), xs = [.ref p] ∧ SqL X.K H p (ns.map V.int) ∧ Q (.int ns.sum) H) := by
  intro pins s σ H xs us Q I r h
  obtain ⟨p, ns, rfl, hq, q⟩ := h
  obtain ⟨u, rfl, ru⟩ := vals1 r
  cases ru
  obtain ⟨its, rv, pl, hz⟩ := I.list hq
  have hi : IntsAre its ns := intsAre_of rv
  obtain ⟨xs, ex⟩ := hi.allInts.items
  have hl : s.heap.IsList p its.toArray := pl.isList
  have hs : ns.sum = preSum (numAt xs) xs.size := by
    rw [preSum_eq, List.take_of_length_le (by simp), ← nums_intItems, ← ex, hi.numsOf]
  rw [ex] at hl
  refine sum_intListG hc hl fun h' tk t' hk => ?_
  exact ⟨.int ns.sum, H, I.kept hk, ⟨t', by rw [hs]⟩, q⟩
theorem call_min_list (hc : X.A.handled = none) : CallR X (.builtin "min") (fun xs H Q => ∃ (p : Addr) (ns : List Int), xs = [.ref p] ∧ SqL X.K H p (ns.map V.int) ∧ ns ≠ [] ∧ ∀ M, M ∈ ns → (∀ a ∈ ns, M ≤ a) → Q (.int M) H) := by
  intro pins s σ H xs us Q I r h
  obtain ⟨p, ns, rfl, hq, hn, q⟩ := h
  obtain ⟨u, rfl, ru⟩ := vals1 r
  cases ru
  obtain ⟨its, rv, pl, hz⟩ := I.list hq
  have hi : IntsAre its ns := intsAre_of rv
  obtain ⟨xs, ex⟩ := hi.allInts.items
  have hl : s.heap.IsList p its.toArray := pl.isList
  have hns : ns = xs.toList.map (·.1) := by rw [← hi.numsOf, ← nums_intItems, ← ex]
  have hsz : 0 < xs.size := by
    have h3 := List.length_pos_iff.mpr hn
    rw [hns, List.length_map, Array.length_toList] at h3
    exact h3
  rw [ex] at hl
  refine min_intList hc hl hsz fun v h' tk hv hk => ?_
  obtain ⟨t, rfl⟩ := intItems_at hv
  obtain ⟨h1, h2⟩ := argBest_lt (numAt xs) (xs.size - 1)
  refine ⟨.int _, H, I.kept hk, ⟨t, rfl⟩, q _ ?_ fun a ha => ?_⟩
  · rw [hns, numAt_eq]
    exact getD_mem (by rw [List.length_map, Array.length_toList]; omega)
  · rw [hns] at ha
    obtain ⟨j, hj, rfl⟩ := mem_getD ha
    rw [List.length_map, Array.length_toList] at hj
    rw [← numAt_eq]
    exact h2 j (by omega)
theorem call_max_list (hc : X.A.handled = none) : CallR X (.builtin "max") (fun xs H Q => ∃ (p : Addr) (ns : List Int), xs = [.ref p] ∧ SqL X.K H p (ns.map V.int) ∧ ns ≠ [] ∧ ∀ M, M ∈ ns → (∀ a ∈ ns, a ≤ M) → Q (.int M) H) := by
  intro pins s σ H xs us Q I r h
  obtain ⟨p, ns, rfl, hq, hn, q⟩ := h
  obtain ⟨u, rfl, ru⟩ := vals1 r
  cases ru
  obtain ⟨its, rv, pl, hz⟩ := I.list hq
  have hi : IntsAre its ns := intsAre_of rv
  obtain ⟨xs, ex⟩ := hi.allInts.items
  have hl : s.heap.IsList p its.toArray := pl.isList
  have hns : ns = xs.toList.map (·.1) := by rw [← hi.numsOf, ← nums_intItems, ← ex]
  have hsz : 0 < xs.size := by
    have h3 := List.length_pos_iff.mpr hn
    rw [hns, List.length_map, Array.length_toList] at h3
    exact h3
  rw [ex] at hl
  refine max_intList hc hl hsz fun v h' tk hv hk => ?_
  obtain ⟨t, rfl⟩ := intItems_at hv
  obtain ⟨h1, h2⟩ := argBest_gt (numAt xs) (xs.size - 1)
  refine ⟨.int _, H, I.kept hk, ⟨t, rfl⟩, q _ ?_ fun a ha => ?_⟩
  · rw [hns, numAt_eq]
    exact getD_mem (by rw [List.length_map, Array.length_toList]; omega)
  · rw [hns] at ha
    obtain ⟨j, hj, rfl⟩ := mem_getD ha
    rw [List.length_map, Array.length_toList] at hj
    rw [← numAt_eq]
    exact h2 j (by omega)
theorem strsAre_of : ∀ {ys : List Str} {us : List Value}, Vals (ys.map V.str) us → StrsAre us ys
  | [], _, .nil => .nil
  | y :: ys, _, .cons r t => by
    obtain ⟨tk, rfl⟩ := r
    exact .cons y tk (strsAre_of t)
def rJoin (K : PySem.W.Frag) : V → List V → Hp → VK → Prop := fun x vs H Q => ∃ (z : Str) (p : Addr) (ys : List Str), x = .str z ∧ vs = [.ref p] ∧ SqL K H p (ys.map V.str) ∧ (ys.map (·.length)).sum + ys.length * z.length ≤ 16777216 ∧ Q (.str (Txt.join z ys)) H
theorem mt_join : MtR X "str.join" (rJoin X.K) := by
  intro pins s σ H x xs v us Q I rx rs h
  obtain ⟨z, p, ys, rfl, rfl, hq, hz, q⟩ := h
  obtain ⟨t, rfl⟩ := rx
  obtain ⟨u, rfl, ru⟩ := vals1 rs
  cases ru
  obtain ⟨its, rv, pl, _⟩ := I.list hq
  exact join_list pl.isList (strsAre_of rv) hz fun t' k => ⟨.str _, H, I.tok k, ⟨t', rfl⟩, q⟩
def rSlS : V → Option Int → Option Int → Hp → VK → Prop := fun x lo hi H Q => ∃ z : Str, x = .str z ∧ z.length ≤ sizeLine ∧ Q (.str (Txt.slice z lo hi)) H
theorem sl_str : SlR X rSlS := by
  intro pins s σ H x v vl vu lo hi sl Q I rx hs pl pu h
  obtain ⟨z, rfl, hz, q⟩ := h
  obtain ⟨t, rfl⟩ := rx
  refine ⟨"str", _, F.slot_str_getitem.lookup, typeIs_str _ _ _, ?_⟩
  have fin : ∀ t' k, EP X pins σ Q (.str (Txt.slice z lo hi) t') { s with toks := k } := fun t' k => ⟨.str _, H, I.tok k, ⟨t', rfl⟩, q⟩
  cases pl with
  | none =>
    cases pu with
    | none => exact wpAny_getItem_str_slice (l := none) (u := none) (st := none) hs rfl (post_val_or_str ⟨Nat.le_trans (Txt.slice_le z _ _) hz, fin⟩)
    | int j tj => exact wpAny_getItem_str_slice (l := none) (u := some (j, tj)) (st := none) hs rfl (post_val_or_str ⟨Nat.le_trans (Txt.slice_le z _ _) hz, fin⟩)
  | int i ti =>
    cases pu with
    | none => exact wpAny_getItem_str_slice (l := some (i, ti)) (u := none) (st := none) hs rfl (post_val_or_str ⟨Nat.le_trans (Txt.slice_le z _ _) hz, fin⟩)
    | int j tj => exact wpAny_getItem_str_slice (l := some (i, ti)) (u := some (j, tj)) (st := none) hs rfl (post_val_or_str ⟨Nat.le_trans (Txt.slice_le z _ _) hz, fin⟩)
def rGetL (K : PySem.W.Frag) : V → V → Hp → VK → Prop := fun o i H Q => ∃ (p : Addr) (xs : List V) (j : Nat) (v : V), o = .ref p ∧ i = .int j ∧ SqL K H p xs ∧ xs[j]? = some v ∧ Q v H
theorem get_list : PGet X (rGetL X.K) := by
  intro pins s σ H o i ov iv Q I ro ri h
  obtain ⟨p, xs, j, v, rfl, rfl, hq, he, q⟩ := h
  cases ro
  obtain ⟨t, rfl⟩ := ri
  obtain ⟨its, r, pl, hz⟩ := I.list hq
  obtain ⟨w', ew, rw'⟩ := r.get he
  have hj : j < xs.length := (List.getElem?_eq_some_iff.mp he).1
  have hn := line63
  exact wpAny_getItem_list pl.isList (by omega) (by omega) (by simpa using ew) ⟨v, H, I, rw', q⟩
theorem op_mulB : OpR X (binaryOp .Mult) (rI IntMulOk fun i j => .int (i * j)) := opI fun _ _ _ _ _ _ _ hc q => mul_int q hc
theorem op_powB : OpR X (binaryOp .Pow) (rI (fun i j => 0 ≤ j ∧ (Builtin.Int.intBits i : Int) * j ≤ 2 ^ 27) fun i j => .int (i ^ j.toNat)) := opI fun _ _ _ _ _ _ _ hc q => pow_int hc.1 hc.2 q
def eqL : List V → List V → Bool
  | [], [] => true
  | x :: xs, y :: ys => eqV x y && eqL xs ys
  | _, _ => false
theorem eqL_len : ∀ {xs ys : List V}, xs.length ≠ ys.length → eqL xs ys = false
  | [], [], h => absurd rfl h
  | [], _ :: _, _ => rfl
  | _ :: _, [], _ => rfl
  | x :: xs, y :: ys, h => by
    show (eqV x y && eqL xs ys) = false
    rw [eqL_len (by simpa using h), Bool.and_false]
theorem eqL_range : ∀ {xs ys : List V}, xs.length = ys.length → (List.range xs.length).all (fun i => eqV (xs.getD i .non) (ys.getD i .non)) = eqL xs ys
  | [], [], _ => rfl
  | [], _ :: _, h => by simp at h
  | _ :: _, [], h => by simp at h
  | x :: xs, y :: ys, h => by
    rw [List.length_cons, List.range_succ_eq_map, List.all_cons, List.all_map]
    show (eqV x y && (List.range xs.length).all (fun i => eqV (xs.getD i .non) (ys.getD i .non))) = (eqV x y && eqL xs ys)
    rw [eqL_range (by simpa using h)]
theorem eqL_ints : ∀ ns ms : List Int, eqL (ns.map V.int) (ms.map V.int) = decide (ns = ms)
  | [], [] => rfl
  | [], _ :: _ => by simp [eqL]
  | _ :: _, [] => by simp [eqL]
  | n :: ns, m :: ms => by
    show ((n == m) && eqL (ns.map V.int) (ms.map V.int)) = _
    rw [eqL_ints ns ms]
    rw [Bool.eq_iff_iff]
    simp
def rEqL (K : PySem.W.Frag) (neg : Bool) : R2 := fun x y H Q => ∃ (a b : Addr) (xs ys : List V), x = .ref a ∧ y = .ref b ∧ SqL K H a xs ∧ SqL K H b ys ∧ xs.all flatV = true ∧ ys.all flatV = true ∧ Q (.bl (if neg then !eqL xs ys else eqL xs ys)) H
theorem flat_get {xs : List V} (h : xs.all flatV = true) {i : Nat} {x : V} (e : xs[i]? = some x) : flatV x = true := List.all_eq_true.mp h x (List.mem_of_getElem? e)
theorem getD_of {α : Type} {xs : List α} {i : Nat} {x d : α} (e : xs[i]? = some x) : xs.getD i d = x := by rw [List.getD_eq_getElem?_getD, e]; rfl
theorem items_eqAt {A : Around} {s : Shared} {xs ys : List V} {us ws : List Value} (r : Vals xs us) (r' : Vals ys ws) (fx : xs.all flatV = true) (fy : ys.all flatV = true) :
    ∀ j (h1 : j < us.toArray.size) (h2 : j < ws.toArray.size), SeqAt.EqAt A s us.toArray[j] ws.toArray[j] (eqV (xs.getD j .non) (ys.getD j .non)) := fun j h1 h2 => by
  have l1 := r.length
  have l2 := r'.length
  have h1' : j < us.length := by simpa using h1
  have h2' : j < ws.length := by simpa using h2
  have e1 : xs[j]? = some (xs[j]'(by omega)) := List.getElem?_eq_getElem _
  have e2 : ys[j]? = some (ys[j]'(by omega)) := List.getElem?_eq_getElem _
  obtain ⟨u, eu, ru⟩ := r.get e1
  obtain ⟨w', ew, rw'⟩ := r'.get e2
  rw [getD_of e1, getD_of e2]
  have q1 : us.toArray[j] = u := by
    rw [List.getElem?_eq_getElem h1'] at eu
    simpa using Option.some.inj eu
  have q2 : ws.toArray[j] = w' := by
    rw [List.getElem?_eq_getElem h2'] at ew
    simpa using Option.some.inj ew
  rw [q1, q2]
  exact eqAt_V ru rw' (flat_get fx e1) (flat_get fy e2)
theorem op_eqL (hu : X.A.units < cLine) : OpR X (compareOp .Eq) (rEqL X.K false) := by
  intro pins s σ H x y v u Q I rx ry h
  obtain ⟨a, b, xs, ys, rfl, rfl, ha, hb, fx, fy, q⟩ := h
  cases rx
  cases ry
  obtain ⟨its, r1, p1, _⟩ := I.list ha
  obtain ⟨its2, r2, p2, _⟩ := I.list hb
  have l1 := r1.length
  have l2 := r2.length
  by_cases e : xs.length = ys.length
  · refine SeqAt.eq_listAt p1.isList p2.isList (by simp; omega) hu (items_eqAt r1 r2 fx fy) (fin_bl I q ?_)
    rw [← eqL_range e]
    simp [l1]
  · refine SeqAt.eq_list_lengthsAt p1.isList p2.isList (by simp; omega) hu (fin_bl I q ?_)
    simp [eqL_len e]
theorem op_neL (hu : X.A.units < cLine) : OpR X (compareOp .NotEq) (rEqL X.K true) := by
  intro pins s σ H x y v u Q I rx ry h
  obtain ⟨a, b, xs, ys, rfl, rfl, ha, hb, fx, fy, q⟩ := h
  cases rx
  cases ry
  obtain ⟨its, r1, p1, _⟩ := I.list ha
  obtain ⟨its2, r2, p2, _⟩ := I.list hb
  have l1 := r1.length
  have l2 := r2.length
  by_cases e : xs.length = ys.length
  · refine PySem.EqBoolInt.of_rcne (SeqAt.RcNeAt.lists p1.isList p2.isList (by simp; omega) hu (items_eqAt r1 r2 fx fy)) (fin_bl I q ?_)
    rw [← eqL_range e]
    simp [l1]
  · refine PySem.EqBoolInt.of_rcne (SeqAt.RcNeAt.lists_lengths p1.isList p2.isList (by simp; omega) hu) (fin_bl I q ?_)
    simp [eqL_len e]
end
def Nx (n i : Nat) (P : Prop) : Prop := ∃ m', m' < n - i ∧ m' = n - (i + 1) ∧ i + 1 ≤ n ∧ P
theorem nx {n i : Nat} {P : Prop} (h : i < n) (p : P) : Nx n i P := ⟨_, by omega, rfl, h, p⟩
theorem comp_list {K : PySem.W.Frag} {a : Addr} {xs : List V} {g : TG} {tc : TT} {te : TE} {k : Nat} {js : List Nat} {σ : St} {H : Hp} {Fin : Hp → Prop} {D : Addr} (Pv : Nat → List V → Hp → Prop) (h0 : Pv 0 [] (upd H D (.lst [])))
    (hl : ∀ i ys H, i ≤ xs.length → Pv i ys H → SqL K H a xs) (hd : ∀ ys H, Pv xs.length ys H → H D = some (.lst ys) → Fin H)
    (hs : ∀ i x ys H, xs[i]? = some x → Pv i ys H → H D = some (.lst ys) → g x (List.replicate k none ++ cap js σ) H fun σ2 H2 => σ2.drop k = cap js σ ∧ tc σ2 H2 fun b H3 =>
      if b = true then te σ2 H3 fun y H4 => H4 D = some (.lst ys) ∧ ys.length < sizeLine ∧ Nx xs.length i (Pv (i + 1) (ys ++ [y]) (upd H4 D (.lst (ys ++ [y])))) else H3 D = some (.lst ys) ∧ Nx xs.length i (Pv (i + 1) ys H3)) :
    ∃ W : Nat → Nat → List V → Hp → Prop, (∃ m, W 0 m [] (upd H D (.lst []))) ∧ ∀ i m ys H, W i m ys H → H D = some (.lst ys) →
    ((Itl K a).stop i H ∧ Fin H) ∨ ((Itl K a).go i H ∧ ∀ x H', (Itl K a).yld i H x H' → g x (List.replicate k none ++ cap js σ) H' fun σ2 H2 => σ2.drop k = cap js σ ∧ tc σ2 H2 fun b H3 =>
      if b = true then te σ2 H3 fun y H4 => H4 D = some (.lst ys) ∧ ys.length < sizeLine ∧ ∃ m', m' < m ∧ W (i + 1) m' (ys ++ [y]) (upd H4 D (.lst (ys ++ [y])))
      else H3 D = some (.lst ys) ∧ ∃ m', m' < m ∧ W (i + 1) m' ys H3) := by
  refine ⟨fun i m ys H => m = xs.length - i ∧ i ≤ xs.length ∧ Pv i ys H, ⟨xs.length, by simp, Nat.zero_le _, h0⟩, ?_⟩
  rintro i m ys H ⟨rfl, hi, p⟩ hD
  have q := hl i ys H hi p
  by_cases hlt : i < xs.length
  · refine .inr ⟨⟨xs, xs[i], q, by simp [hlt]⟩, fun x H' y => ?_⟩
    obtain ⟨e, y⟩ := y
    subst e
    exact hs i x ys _ (y xs q) p hD
  · have e : i = xs.length := by omega
    subst e
    exact .inl ⟨⟨xs, q, Nat.le_refl _⟩, hd ys H p hD⟩
theorem comp_tup {K : PySem.W.Frag} {a : Addr} {xs : List V} {g : TG} {tc : TT} {te : TE} {k : Nat} {js : List Nat} {σ : St} {H : Hp} {Fin : Hp → Prop} {D : Addr} (Pv : Nat → List V → Hp → Prop) (h0 : Pv 0 [] (upd H D (.lst [])))
    (hl : ∀ i ys H, i ≤ xs.length → Pv i ys H → SqT K H a xs) (hd : ∀ ys H, Pv xs.length ys H → H D = some (.lst ys) → Fin H)
    (hs : ∀ i x ys H, xs[i]? = some x → Pv i ys H → H D = some (.lst ys) → g x (List.replicate k none ++ cap js σ) H fun σ2 H2 => σ2.drop k = cap js σ ∧ tc σ2 H2 fun b H3 =>
      if b = true then te σ2 H3 fun y H4 => H4 D = some (.lst ys) ∧ ys.length < sizeLine ∧ Nx xs.length i (Pv (i + 1) (ys ++ [y]) (upd H4 D (.lst (ys ++ [y])))) else H3 D = some (.lst ys) ∧ Nx xs.length i (Pv (i + 1) ys H3)) :
    ∃ W : Nat → Nat → List V → Hp → Prop, (∃ m, W 0 m [] (upd H D (.lst []))) ∧ ∀ i m ys H, W i m ys H → H D = some (.lst ys) →
    ((Itt K a).stop i H ∧ Fin H) ∨ ((Itt K a).go i H ∧ ∀ x H', (Itt K a).yld i H x H' → g x (List.replicate k none ++ cap js σ) H' fun σ2 H2 => σ2.drop k = cap js σ ∧ tc σ2 H2 fun b H3 =>
      if b = true then te σ2 H3 fun y H4 => H4 D = some (.lst ys) ∧ ys.length < sizeLine ∧ ∃ m', m' < m ∧ W (i + 1) m' (ys ++ [y]) (upd H4 D (.lst (ys ++ [y])))
      else H3 D = some (.lst ys) ∧ ∃ m', m' < m ∧ W (i + 1) m' ys H3) := by
  refine ⟨fun i m ys H => m = xs.length - i ∧ i ≤ xs.length ∧ Pv i ys H, ⟨xs.length, by simp, Nat.zero_le _, h0⟩, ?_⟩
  rintro i m ys H ⟨rfl, hi, p⟩ hD
  have q := hl i ys H hi p
  by_cases hlt : i < xs.length
  · refine .inr ⟨⟨xs, xs[i], q, by simp [hlt]⟩, fun x H' y => ?_⟩
    obtain ⟨e, y⟩ := y
    subst e
    exact hs i x ys _ (y xs q) p hD
  · have e : i = xs.length := by omega
    subst e
    exact .inl ⟨⟨xs, q, Nat.le_refl _⟩, hd ys H p hD⟩
theorem comp_range {lo : Int} {n : Nat} {g : TG} {tc : TT} {te : TE} {k : Nat} {js : List Nat} {σ : St} {H : Hp} {Fin : Hp → Prop} {D : Addr} (Pv : Nat → List V → Hp → Prop) (h0 : Pv 0 [] (upd H D (.lst [])))
    (hd : ∀ ys H, Pv n ys H → H D = some (.lst ys) → Fin H)
    (hs : ∀ i ys H, i < n → Pv i ys H → H D = some (.lst ys) → g (.int (lo + i)) (List.replicate k none ++ cap js σ) H fun σ2 H2 => σ2.drop k = cap js σ ∧ tc σ2 H2 fun b H3 =>
      if b = true then te σ2 H3 fun y H4 => H4 D = some (.lst ys) ∧ ys.length < sizeLine ∧ Nx n i (Pv (i + 1) (ys ++ [y]) (upd H4 D (.lst (ys ++ [y])))) else H3 D = some (.lst ys) ∧ Nx n i (Pv (i + 1) ys H3)) :
    ∃ W : Nat → Nat → List V → Hp → Prop, (∃ m, W 0 m [] (upd H D (.lst []))) ∧ ∀ i m ys H, W i m ys H → H D = some (.lst ys) →
    ((Itr lo n).stop i H ∧ Fin H) ∨ ((Itr lo n).go i H ∧ ∀ x H', (Itr lo n).yld i H x H' → g x (List.replicate k none ++ cap js σ) H' fun σ2 H2 => σ2.drop k = cap js σ ∧ tc σ2 H2 fun b H3 =>
      if b = true then te σ2 H3 fun y H4 => H4 D = some (.lst ys) ∧ ys.length < sizeLine ∧ ∃ m', m' < m ∧ W (i + 1) m' (ys ++ [y]) (upd H4 D (.lst (ys ++ [y])))
      else H3 D = some (.lst ys) ∧ ∃ m', m' < m ∧ W (i + 1) m' ys H3) := by
  refine ⟨fun i m ys H => m = n - i ∧ i ≤ n ∧ Pv i ys H, ⟨n, by simp, Nat.zero_le _, h0⟩, ?_⟩
  rintro i m ys H ⟨rfl, hi, p⟩ hD
  by_cases hlt : i < n
  · refine .inr ⟨hlt, fun x H' y => ?_⟩
    obtain ⟨e, y⟩ := y
    subst e y
    exact hs i ys _ hlt p hD
  · have e : i = n := by omega
    subst e
    exact .inl ⟨Nat.le_refl _, hd ys H p hD⟩
def Its (x : Str) : It := ⟨fun i _ => i < x.cps.size, fun i H v H' => H' = H ∧ ∃ c, x.cps[i]? = some c ∧ v = .str ⟨#[c]⟩, fun i _ => x.cps.size ≤ i⟩
theorem turn_ascii {P : Program} {w : World} {K : PySem.W.Frag} {tg : Expr} (x : Str) (t : Tok) (it : Addr) : Turn P w K tg (Its x) [it] it (fun i h => h.IsStrIter it "str_ascii_iterator" x t i) where
  mem := by simp
  obj := fun i h st b hb => by
    have e : b = it := by simpa using hb
    subst e
    obtain ⟨o, e, c, d⟩ := st
    exact ⟨o, e, fun v z => by rw [d] at z; cases z⟩
  keep := fun i h h' st k => by
    obtain ⟨o, e, r⟩ := st
    exact ⟨o, k it (by simp) o e, r⟩
  item := by
    intro X hP hw hK hc i pins s σ H E I hf st hg
    subst hP hw hK
    have hg : i < x.cps.size := hg
    obtain ⟨f0, f1, f2, f3, f4, f5⟩ := hf it (by simp)
    refine wpAny_pyNext_ascii_item st (c := x.cps[i]) (by simp [hg]) fun h' st' sb => ?_
    have I1 : Inv X pins σ H { s with heap := h', toks := s.toks + 1 } := I.turned (t' := s.toks + 1) (fun b o hb e => (sb.2 b hb).trans e) f0 f1 f3 f4 f5
    obtain ⟨o, e, c, d⟩ := id st'
    exact ⟨_, rfl, go_of (s := { s with heap := h', toks := s.toks + 1 }) e c d (by decide) ⟨.str ⟨#[x.cps[i]]⟩, H, I1, ⟨_, rfl⟩, ⟨rfl, x.cps[i], by simp [hg], rfl⟩, st', fun b hb => (hf b hb).1⟩⟩
  done := by
    intro X hP hw hK hc i pins s σ H E I hf st hg
    subst hP hw hK
    have hg : x.cps.size ≤ i := hg
    obtain ⟨f0, f1, f2, f3, f4, f5⟩ := hf it (by simp)
    exact wpAny_pyNext_ascii_end (I.ok.hd hc) st (by simp; omega) fun h' eb => ⟨rfl, I.turned (t' := s.toks) (fun b o hb e => eb b o hb e) f0 f1 f3 f4 f5⟩
  self := fun _ _ _ _ _ st h => wpAny_pyIter_striter_ascii st h
theorem turn_wide {P : Program} {w : World} {K : PySem.W.Frag} {tg : Expr} (x : Str) (t : Tok) (it : Addr) : Turn P w K tg (Its x) [it] it (fun i h => h.IsStrIter it "str_iterator" x t i) where
  mem := by simp
  obj := fun i h st b hb => by
    have e : b = it := by simpa using hb
    subst e
    obtain ⟨o, e, c, d⟩ := st
    exact ⟨o, e, fun v z => by rw [d] at z; cases z⟩
  keep := fun i h h' st k => by
    obtain ⟨o, e, r⟩ := st
    exact ⟨o, k it (by simp) o e, r⟩
  item := by
    intro X hP hw hK hc i pins s σ H E I hf st hg
    subst hP hw hK
    have hg : i < x.cps.size := hg
    obtain ⟨f0, f1, f2, f3, f4, f5⟩ := hf it (by simp)
    refine wpAny_pyNext_wide_item st (c := x.cps[i]) (by simp [hg]) fun h' st' sb => ?_
    have I1 : Inv X pins σ H { s with heap := h', toks := s.toks + 1 } := I.turned (t' := s.toks + 1) (fun b o hb e => (sb.2 b hb).trans e) f0 f1 f3 f4 f5
    obtain ⟨o, e, c, d⟩ := id st'
    exact ⟨_, rfl, go_of (s := { s with heap := h', toks := s.toks + 1 }) e c d (by decide) ⟨.str ⟨#[x.cps[i]]⟩, H, I1, ⟨_, rfl⟩, ⟨rfl, x.cps[i], by simp [hg], rfl⟩, st', fun b hb => (hf b hb).1⟩⟩
  done := by
    intro X hP hw hK hc i pins s σ H E I hf st hg
    subst hP hw hK
    have hg : x.cps.size ≤ i := hg
    obtain ⟨f0, f1, f2, f3, f4, f5⟩ := hf it (by simp)
    exact wpAny_pyNext_wide_end (I.ok.hd hc) st (by simp; omega) fun h' eb => ⟨rfl, I.turned (t' := s.toks) (fun b o hb e => eb b o hb e) f0 f1 f3 f4 f5⟩
  self := fun _ _ _ _ _ st h => wpAny_pyIter_striter_wide st h
def iStr (tl : TE) : TI := fun σ H R => tl σ H fun x H1 => ∃ z, x = .str z ∧ R (Its z) H1
theorem pi_str {X : Cx} {tg l : Expr} {tl : TE} (hl : PE X l tl) : PI X tg l (iStr tl) := by
  intro pins s σ H R I h
  refine thn (hl pins s σ H _ I h) fun v s1 ⟨x, H1, I1, r1, q1⟩ => ?_
  obtain ⟨z, e, q⟩ := q1
  subst e
  obtain ⟨t, rfl⟩ := r1
  have hf : ∀ b ∈ [s1.heap.objs.size], FpOk X pins H1 b := fun b hb => by
    have e : b = s1.heap.objs.size := by simpa using hb
    subst e
    exact I1.fpOk (Nat.le_refl _) (I1.hok.fresh (Nat.le_refl _))
  cases ha : z.cps.all (· < 128) with
  | false => exact wpAny_pyIter_wide ha ⟨s1.heap.objs.size, [s1.heap.objs.size], _, _, H1, rfl, I1.kept (t' := s1.toks) fun b o e => Heap.get?_push_of_some _ e, turn_wide z t _, ⟨_, Heap.get?_push_size _ rfl, rfl, rfl⟩, hf, q⟩
  | true => exact wpAny_pyIter_ascii ha ⟨s1.heap.objs.size, [s1.heap.objs.size], _, _, H1, rfl, I1.kept (t' := s1.toks) fun b o e => Heap.get?_push_of_some _ e, turn_ascii z t _, ⟨_, Heap.get?_push_size _ rfl, rfl, rfl⟩, hf, q⟩
theorem comp_str {z : Str} {g : TG} {tc : TT} {te : TE} {k : Nat} {js : List Nat} {σ : St} {H : Hp} {Fin : Hp → Prop} {D : Addr} (Pv : Nat → List V → Hp → Prop) (h0 : Pv 0 [] (upd H D (.lst [])))
    (hd : ∀ ys H, Pv z.cps.size ys H → H D = some (.lst ys) → Fin H)
    (hs : ∀ i c ys H, z.cps[i]? = some c → Pv i ys H → H D = some (.lst ys) → g (.str ⟨#[c]⟩) (List.replicate k none ++ cap js σ) H fun σ2 H2 => σ2.drop k = cap js σ ∧ tc σ2 H2 fun b H3 =>
      if b = true then te σ2 H3 fun y H4 => H4 D = some (.lst ys) ∧ ys.length < sizeLine ∧ Nx z.cps.size i (Pv (i + 1) (ys ++ [y]) (upd H4 D (.lst (ys ++ [y])))) else H3 D = some (.lst ys) ∧ Nx z.cps.size i (Pv (i + 1) ys H3)) :
    ∃ W : Nat → Nat → List V → Hp → Prop, (∃ m, W 0 m [] (upd H D (.lst []))) ∧ ∀ i m ys H, W i m ys H → H D = some (.lst ys) →
    ((Its z).stop i H ∧ Fin H) ∨ ((Its z).go i H ∧ ∀ x H', (Its z).yld i H x H' → g x (List.replicate k none ++ cap js σ) H' fun σ2 H2 => σ2.drop k = cap js σ ∧ tc σ2 H2 fun b H3 =>
      if b = true then te σ2 H3 fun y H4 => H4 D = some (.lst ys) ∧ ys.length < sizeLine ∧ ∃ m', m' < m ∧ W (i + 1) m' (ys ++ [y]) (upd H4 D (.lst (ys ++ [y])))
      else H3 D = some (.lst ys) ∧ ∃ m', m' < m ∧ W (i + 1) m' ys H3) := by
  refine ⟨fun i m ys H => m = z.cps.size - i ∧ i ≤ z.cps.size ∧ Pv i ys H, ⟨z.cps.size, by simp, Nat.zero_le _, h0⟩, ?_⟩
  rintro i m ys H ⟨rfl, hi, p⟩ hD
  by_cases hlt : i < z.cps.size
  · refine .inr ⟨hlt, fun v H' y => ?_⟩
    obtain ⟨e, c, hc, ev⟩ := y
    subst e ev
    exact hs i c ys _ hc p hD
  · have e : i = z.cps.size := by omega
    subst e
    exact .inl ⟨Nat.le_refl _, hd ys H p hD⟩
structure Lk (K : PySem.W.Frag) (mg : Str → Option Value) (x : Str) (st : Stmt) (ps : List Str) (f : Addr) (fd : FuncData) : Prop where
  F : Fun K x x st f fd
  m : mg x = some (.ref f)
  b : Binds K fd ps []
structure Callee (P : Program) (w : World) (K : PySem.W.Frag) (mg : Str → Option Value) (base : Heap) (x : Str) (ps : List Str) (k : Nat) (sp : Sp) : Prop where
  ex : ∃ (f : Addr) (fd : FuncData), FnOk P w K mg base CX0 k f fd ps sp ∧ mg x = some (.ref f) ∧ PySem.W.keepIn K (.ref f) = true ∧ Binds K fd ps []
theorem Lk.callee {P : Program} {w : World} {K : PySem.W.Frag} {mg : Str → Option Value} {base : Heap} {x : Str} {st : Stmt} {ps : List Str} {f : Addr} {fd : FuncData} {k : Nat} {sp : Sp} (L : Lk K mg x st ps f fd) (h : FnOk P w K mg base CX0 k f fd ps sp) : Callee P w K mg base x ps k sp :=
  ⟨f, fd, h, L.m, L.F.kp, L.b⟩
theorem pe_callee {X : Cx} {k : Nat} {ps : List Str} {sp : Sp} {x : Str} {p pos : Pos} {e : Expr} {es : List Expr} {t : TA} (C : Callee X.prog X.w X.K X.mg X.base x ps k sp) (hr : Room k X.A) (hg : Gl X x)
    (ha : PA X (e :: es) t) (hdb : (x == ("__debug__" : Str)) = false := by decide) (he : starEach (e :: es) X.env = (false, eval e X.env) :: starEach es X.env := by rfl) (hpl : (backTo pos (starEach es X.env)).any (·.1) = false := by rfl) :
    PE X (.Call (.Name x p) (e :: es) [] pos) (tCall sp [] E0 t) := by
  obtain ⟨f, fd, F, hm, hk, hb⟩ := C.ex
  exact pe_call F hr hg hm hk hb .nil pass0 ha hdb he hpl
theorem hu0 {A : Around} {k : Nat} (hr : Room k A) : A.units < cLine := hr.units0
theorem lk_mk {K : PySem.W.Frag} {h : Heap} {mg : Str → Option Value} {x : Str} {st : Stmt} {ps : List Str} {f : Addr} {oc : Value} {od an : Option Addr} {osl : Array (Option Value)} {kV doc pm cdv ct : Value} (X : K.In h) (G : h.Ns mainGlobals mg)
    (a : PySem.W.nsIn K mainGlobals x = some (some (.ref f))) (l : K.lookup f = some ⟨oc, od, .func (PySem.W.fnOf x x (defArgs st) (defBody st) (defScope st) .none kV doc pm an cdv ct), osl⟩)
    (c : PySem.W.codeIn K cdv x = true) (k : PySem.W.keepIn K (.ref f) = true)
    (hb : ∀ (kV doc pm : Value) (an : Option Addr) (cdv ct : Value) (us : List Value), us.length = ps.length → bindArgs (PySem.W.fnOf x x (defArgs st) (defBody st) (defScope st) .none kV doc pm an cdv ct) ⟨us, []⟩ = pure (ps.zip us)) : ∃ f fd, Lk K mg x st ps f fd :=
  ⟨f, _, fun_mk l c k, PySem.W.mg_of X G a, (fun_mk l c k).binds hb⟩
end L2
end
section
set_option Elab.async false
set_option linter.all false
set_option maxRecDepth 100000
namespace L2
open PySem PySem.Spec PyProof.Rows
def Itr3 (lo c : Int) (n : Nat) : It := ⟨fun i _ => i < n, fun i H x H' => H' = H ∧ x = .int (lo + i * c), fun i _ => n ≤ i⟩
theorem turn_range3 {P : Program} {w : World} {K : PySem.W.Frag} {tg : Expr} (it : Addr) (lo c : Int) (n : Nat) : Turn P w K tg (Itr3 lo c n) [it] it (fun i h => IsRangeIter h it (lo + (i : Nat) * c) ((n : Int) - (i : Nat)) c) where
  mem := by simp
  obj := fun i h st b hb => by
    have e : b = it := by simpa using hb
    subst e
    exact ⟨_, st, fun v z => by
      have z' : Data.fields _ = Data.cell v := z
      cases z'⟩
  keep := fun i h h' st k => k it (by simp) _ st
  item := by
    intro X hP hw hK hc i pins s σ H E I hf st hg
    subst hP hw hK
    obtain ⟨f0, f1, f2, f3, f4, f5⟩ := hf it (by simp)
    have W := Walks.range (prog := X.prog) (w := X.w) (I.ok.hd hc) it lo c n
    refine W.item i s _ _ hg st fun v h' tk hv st' kk => ?_
    obtain ⟨t, rfl⟩ := hv
    have I1 : Inv X pins σ H { s with heap := h', toks := tk } := I.turned (fun b o hb e => kk b o (by simpa using hb) e) f0 f1 f3 f4 f5
    exact ⟨_, rfl, go_of (s := { s with heap := h', toks := tk }) (n := "range_iterator") st' rfl rfl (by decide) ⟨.int (lo + i * c), H, I1, ⟨t, rfl⟩, ⟨rfl, rfl⟩, st', fun b hb => (hf b hb).1⟩⟩
  done := by
    intro X hP hw hK hc i pins s σ H E I hf st hg
    subst hP hw hK
    obtain ⟨f0, f1, f2, f3, f4, f5⟩ := hf it (by simp)
    exact wpAny_pyNext_range_end (I.ok.hd hc) st (by have : n ≤ i := hg; omega) fun h' eb => ⟨rfl, I.turned (t' := s.toks) (fun b o hb e => eb b o hb e) f0 f1 f3 f4 f5⟩
  self := fun _ _ _ _ _ st h => wpAny_pyIter_rangeiter st h
section
variable {X : Cx} {tg : Expr}
theorem range_it3 {pins : List (Addr × Obj)} {σ : St} {H : Hp} {s : Shared} {R : It → Hp → Prop} {E : Value → Shared → Prop} {lo hi c : Int} {t u v : Tok} {tk : Nat} {n : Nat} (I : Inv X pins σ H s) (hs : Builtin.Range.small lo hi c = true) (hn : Builtin.Range.rangeSize lo hi c = (n : Int))
    (q : R (Itr3 lo c n) H) : wpAny (model X.prog X.w) X.A (pyIter (.ref s.heap.objs.size)) (PIE X pins σ tg R) E { s with heap := s.heap.push { cls := .type "range", data := .fields #[.int lo t, .int hi u, .int c v] }, toks := tk } := by
  refine wpAny_pyIter_range (IsRange.new ..) hs ?_
  have I1 : Inv X pins σ H { s with heap := s.heap.push { cls := .type "range", data := .fields #[.int lo t, .int hi u, .int c v] }, toks := tk } := I.kept fun b o e => Heap.get?_push_of_some _ e
  refine ⟨(s.heap.push { cls := .type "range", data := .fields #[.int lo t, .int hi u, .int c v] }).objs.size, [(s.heap.push { cls := .type "range", data := .fields #[.int lo t, .int hi u, .int c v] }).objs.size], _, _, H, rfl,
    I1.kept (t' := tk) fun b o e => Heap.get?_push_of_some _ e, turn_range3 _ lo c n, ?_, fun b hb => ?_, q⟩
  · have e1 : lo + ((0 : Nat) : Int) * c = lo := by simp
    have e2 : (n : Int) - ((0 : Nat) : Int) = Builtin.Range.rangeSize lo hi c := by rw [hn]; omega
    show IsRangeIter _ _ (lo + ((0 : Nat) : Int) * c) ((n : Int) - ((0 : Nat) : Int)) c
    rw [e1, e2]
    exact Heap.get?_push_size _ rfl
  · have e : b = (s.heap.push { cls := .type "range", data := .fields #[.int lo t, .int hi u, .int c v] }).objs.size := by simpa using hb
    subst e
    exact I1.fpOk (Nat.le_refl _) (I1.hok.fresh (Nat.le_refl _))
def Rng3 (i j c : Int) (n : Nat) : Prop := c ≠ 0 ∧ c.natAbs < 1073741824 ∧ Builtin.Range.small i j c = true ∧ Builtin.Range.rangeSize i j c = (n : Int)
def iRng3 (ta : TA) : TI := fun σ H R => ta σ H fun vs H1 => ∃ (i j c : Int) (n : Nat), vs = [.int i, .int j, .int c] ∧ Rng3 i j c n ∧ R (Itr3 i c n) H1
theorem vals3 {x y z : V} {us : List Value} (r : Vals [x, y, z] us) : ∃ u v w', us = [u, v, w'] ∧ RelV x u ∧ RelV y v ∧ RelV z w' := by
  cases r with
  | cons r1 r2 =>
    obtain ⟨u, w', rfl, r3, r4⟩ := vals2 r2
    exact ⟨_, _, _, rfl, r1, r3, r4⟩
theorem pi_range3 {a b c : Expr} {ta : TA} {p pos : Pos} (hg : Gl X "range") (hm : X.mg "range" = none) (ha : PA X [a, b, c] ta) (hs : starEach [a, b, c] X.env = [(false, eval a X.env), (false, eval b X.env), (false, eval c X.env)] := by rfl) (hs2 : starEach [b, c] X.env = [(false, eval b X.env), (false, eval c X.env)] := by rfl) :
    PI X tg (.Call (.Name "range" p) [a, b, c] [] pos) (iRng3 ta) := by
  intro pins s σ H R I h
  refine Call_ (ld_blt I hg hm boot_range (PyProof.Rows.callWith_type1 (thn (ha pos pins s σ H _ I h) fun us s1 ⟨vs, H1, I1, r1, q1⟩ => ?_) (by rw [hs, hs2]) (by rw [hs2]; rfl)))
  obtain ⟨i, j, l, n, e, ⟨c0, c1, sm, rs⟩, q⟩ := q1
  subst e
  obtain ⟨u1, u2, u3, rfl, ⟨t1, rfl⟩, ⟨t2, rfl⟩, ⟨t3, rfl⟩⟩ := vals3 r1
  exact call_range_3 c0 (range_it3 I1 sm rs q) (.inl (PyProof.noPylong_small c1))
def rngV (i c : Int) (n : Nat) : List V := (List.range n).map fun (k : Nat) => V.int (i + (k : Int) * c)
def tLR (ta : TA) : TE := fun σ H Q => ta σ H fun vs H1 => ∃ (i j c : Int) (n : Nat), vs = [.int i, .int j, .int c] ∧ Rng3 i j c n ∧ n ≤ sizeLine ∧ n ≤ 2 ^ 24 ∧ ∀ l, H1 l = none → Q (.ref l) (upd H1 l (.lst (rngV i c n)))
theorem rng_vals {i c : Int} {n : Nat} {acc : Array Value} (h : ItemsOf (fun k v => ∃ t, v = .int (i + k * c) t) acc n) : Vals (rngV i c n) acc.toList := by
  have aux : ∀ (m : Nat) (l : List Value), l.length = m → (∀ (j : Nat) (v : Value), l[j]? = some v → ∃ t, v = Value.int (i + (j : Int) * c) t) → Vals (rngV i c m) l := by
    intro m
    induction m with
    | zero =>
      intro l hl _
      cases l with
      | nil => exact .nil
      | cons _ _ => simp at hl
    | succ m ih =>
      intro l hl hp
      rcases List.eq_nil_or_concat l with z | ⟨l', x, z⟩
      · rw [z] at hl
        simp at hl
      rw [List.concat_eq_append] at z
      subst z
      rw [List.length_append] at hl
      have hl' : l'.length = m := Nat.succ.inj hl
      have h1 := ih l' hl' (fun j v hv => hp j v (by
        have hj : j < l'.length := (List.getElem?_eq_some_iff.mp hv).1
        rw [List.getElem?_append_left hj]
        exact hv))
      have h2 := hp m x (by
        rw [List.getElem?_append_right (by omega), hl']
        simp)
      have e : rngV i c (m + 1) = rngV i c m ++ [V.int (i + (m : Int) * c)] := by
        unfold rngV
        rw [List.range_succ, List.map_append]
        rfl
      rw [e]
      exact h1.append (.cons h2 .nil)
  exact aux n acc.toList (by rw [Array.length_toList, h.1]) (fun j v hv => h.2 j v (by simpa using hv))
theorem pe_lr {a b c : Expr} {ta : TA} {p p2 pos pos2 : Pos} (hc : X.calm = true) (hgl : Gl X "list") (hml : X.mg "list" = none) (hg : Gl X "range") (hm : X.mg "range" = none) (ha : PA X [a, b, c] ta) (hs : starEach [a, b, c] X.env = [(false, eval a X.env), (false, eval b X.env), (false, eval c X.env)] := by rfl) (hs2 : starEach [b, c] X.env = [(false, eval b X.env), (false, eval c X.env)] := by rfl) :
    PE X (.Call (.Name "list" p) [.Call (.Name "range" p2) [a, b, c] [] pos2] [] pos) (tLR ta) := by
  intro pins s σ H Q I h
  refine wpAny_Call_Name_kw (ld_blt I hgl hml boot_list ?_)
  refine PyProof.Rows.callWith_type1 ?_ rfl rfl
  show wpAny _ _ (spliced ((false, eval (.Call (.Name "range" p2) [a, b, c] [] pos2) X.env) :: backTo pos (starEach [] X.env))) _ _ s
  refine Calls.spliced_cons ?_
  refine Call_ (ld_blt I hg hm boot_range (PyProof.Rows.callWith_type1 (thn (ha pos2 pins s σ H _ I h) fun us s1 ⟨vs, H1, I1, r1, q1⟩ => ?_) (by rw [hs, hs2]) (by rw [hs2]; rfl)))
  obtain ⟨i, j, l, n, e, ⟨c0, c1, sm, rs⟩, z1, z2, q⟩ := q1
  subst e
  obtain ⟨u1, u2, u3, rfl, ⟨t1, rfl⟩, ⟨t2, rfl⟩, ⟨t3, rfl⟩⟩ := vals3 r1
  refine call_range_3 c0 ?_ (.inl (PyProof.noPylong_small c1))
  refine Calls.spliced_nil ?_
  have I2 : Inv X pins σ H1 { s1 with heap := s1.heap.push { cls := .type "range", data := .fields #[.int i t1, .int j t2, .int l t3] }, toks := s1.toks } := I1.kept fun b o e => Heap.get?_push_of_some _ e
  refine call_list_range (I2.ok.hd hc) (IsRange.new ..) sm rs z2 fun h' tk acc c' hk hS hacc => ?_
  refine ⟨.ref _, _, I2.laid (t' := tk) hk (Nat.le_refl _) (show ObjOk X.prog X.w _ h' _ (.lst (rngV i l n)) from ⟨?_, acc.toList, c', rng_vals hacc, ?_⟩), rfl, q _ (I2.hok.fresh (Nat.le_refl _))⟩
  · rw [show (rngV i l n).length = n by simp [rngV]]
    exact z1
  · simpa using hS
theorem ix_listK (K : PySem.W.Frag) (h : X.K = K) : IxR X (rIxL K) := by
  subst h
  exact ix_list
theorem ix_tupK (K : PySem.W.Frag) (h : X.K = K) : IxR X (rIxT K) := by
  subst h
  exact ix_tup
theorem comp_range3 {lo c : Int} {n : Nat} {g : TG} {tc : TT} {te : TE} {k : Nat} {js : List Nat} {σ : St} {H : Hp} {Fin : Hp → Prop} {D : Addr} (Pv : Nat → List V → Hp → Prop) (h0 : Pv 0 [] (upd H D (.lst [])))
    (hd : ∀ ys H, Pv n ys H → H D = some (.lst ys) → Fin H)
    (hs : ∀ i ys H, i < n → Pv i ys H → H D = some (.lst ys) → g (.int (lo + i * c)) (List.replicate k none ++ cap js σ) H fun σ2 H2 => σ2.drop k = cap js σ ∧ tc σ2 H2 fun b H3 =>
      if b = true then te σ2 H3 fun y H4 => H4 D = some (.lst ys) ∧ ys.length < sizeLine ∧ Nx n i (Pv (i + 1) (ys ++ [y]) (upd H4 D (.lst (ys ++ [y])))) else H3 D = some (.lst ys) ∧ Nx n i (Pv (i + 1) ys H3)) :
    ∃ W : Nat → Nat → List V → Hp → Prop, (∃ m, W 0 m [] (upd H D (.lst []))) ∧ ∀ i m ys H, W i m ys H → H D = some (.lst ys) →
    ((Itr3 lo c n).stop i H ∧ Fin H) ∨ ((Itr3 lo c n).go i H ∧ ∀ x H', (Itr3 lo c n).yld i H x H' → g x (List.replicate k none ++ cap js σ) H' fun σ2 H2 => σ2.drop k = cap js σ ∧ tc σ2 H2 fun b H3 =>
      if b = true then te σ2 H3 fun y H4 => H4 D = some (.lst ys) ∧ ys.length < sizeLine ∧ ∃ m', m' < m ∧ W (i + 1) m' (ys ++ [y]) (upd H4 D (.lst (ys ++ [y])))
      else H3 D = some (.lst ys) ∧ ∃ m', m' < m ∧ W (i + 1) m' ys H3) := by
  refine ⟨fun i m ys H => m = n - i ∧ i ≤ n ∧ Pv i ys H, ⟨n, by simp, Nat.zero_le _, h0⟩, ?_⟩
  rintro i m ys H ⟨rfl, hi, p⟩ hD
  by_cases hlt : i < n
  · refine .inr ⟨hlt, fun x H' y => ?_⟩
    obtain ⟨e, y⟩ := y
    subst e y
    exact hs i ys _ hlt p hD
  · have e : i = n := by omega
    subst e
    exact .inl ⟨Nat.le_refl _, hd ys H p hD⟩
end
structure QE (X : Cx) (e : Expr) (t : TE) : Prop where
  p : PE X e t
structure QA (X : Cx) (es : List Expr) (t : TA) : Prop where
  p : PA X es t
structure QS (X : Cx) (s : Stmt) (t : TS) : Prop where
  p : PS X s t
structure QB (X : Cx) (b : List Stmt) (t : TS) : Prop where
  p : PSs X b t
section
variable {X : Cx}
theorem qa_nil : QA X [] tNil := ⟨pa_nil⟩
theorem qa_cn {e : Expr} {es : List Expr} {te : TE} {t : TA} (ha : QE X e te) (hr : QA X es t) (hs : isStar e = false := by rfl) : QA X (e :: es) (tCons te t) := ⟨pa_cn ha.p hr.p hs⟩
theorem qb_nil : QB X [] tNext := ⟨pss_nil⟩
theorem qb_one {s : Stmt} {t : TS} (h : QS X s t) : QB X [s] t := ⟨pss_one h.p⟩
theorem qb_cn {s : Stmt} {b : List Stmt} {t u : TS} (h : QS X s t) (r : QB X b u) : QB X (s :: b) (tSeq t u) := ⟨pss_cons h.p r.p⟩
end
end L2
end
section
set_option Elab.async false
set_option linter.all false
set_option maxRecDepth 100000
namespace L2
open PySem PyProof.Rows
structure QT (X : Cx) (e : Expr) (t : TT) : Prop where
  p : PT X e t
structure QW (X : Cx) (e : Expr) (t : TT) : Prop where
  p : PW X e t
structure QI (X : Cx) (g i : Expr) (t : TI) : Prop where
  p : PI X g i t
structure QG (X : Cx) (e : Expr) (t : TG) : Prop where
  p : PG X e t
structure QGs (X : Cx) (es : List Expr) (t : TGs) : Prop where
  p : PGs X es t
structure QTs (X : Cx) (es : List Expr) (t : TT) : Prop where
  p : PTs X es t
structure QO (X : Cx) (e : Option Expr) (t : TO) : Prop where
  p : PO X e t
structure QPs (X : Cx) (pos : Pos) (ks : List (Option Expr)) (vs : List Expr) (t : List (TE × TE)) : Prop where
  p : PPs X pos ks vs t
theorem qv : ∀ {X : Cx} (i : Nat) {x : Str} {pos : Pos},
  autoParam (X.N[i]? = some x) pv._auto_1 →
    autoParam (Vis X.env.scope x) pv._auto_2 →
      autoParam ((x == Str.ofString "__debug__") = false) pv._auto_3 →
        autoParam ((x == Str.ofString "__classdict__") = false) pv._auto_4 → QE X (Expr.Name x pos) (tVar i) := by
  intro X i x pos h0 h1 h2 h3
  exact ⟨pv i h0 h1 h2 h3⟩
theorem qe_int : ∀ {X : Cx} {i : Int} {j : Nat} {pos : Pos}, QE X (Expr.Constant (Const.int i) j pos) (tC (V.int i)) :=
  ⟨pe_int ⟩
theorem qe_bl : ∀ {X : Cx} {b : Bool} {j : Nat} {pos : Pos}, QE X (Expr.Constant (Const.bool b) j pos) (tC (V.bl b)) :=
  ⟨pe_bl ⟩
theorem qe_str : ∀ {X : Cx} {x : Str} {j : Nat} {pos : Pos}, QE X (Expr.Constant (Const.str x) j pos) (tC (V.str x)) :=
  ⟨pe_str ⟩
theorem qe_non : ∀ {X : Cx} {j : Nat} {pos : Pos}, QE X (Expr.Constant Const.none j pos) (tC V.non) :=
  ⟨pe_non ⟩
theorem qe_glob : ∀ {X : Cx} {x : Str} {v : V} {u : Value} {pos : Pos},
  Gl X x →
    X.mg x = some u →
      RelV v u → autoParam ((x == Str.ofString "__debug__") = false) pe_glob._auto_1 → QE X (Expr.Name x pos) (tC v) :=
  fun h0 h1 h2 h3 => ⟨pe_glob h0 h1 h2 h3⟩
theorem qe_bltn : ∀ {X : Cx} {x : Str} {v : V} {u : Value} {pos : Pos},
  Gl X x →
    X.mg x = none →
      bootBuiltins x = some u →
        RelV v u →
          autoParam (x ≠ Str.ofString "__name__") pe_bltn._auto_1 →
            autoParam ((x == Str.ofString "__debug__") = false) pe_bltn._auto_2 → QE X (Expr.Name x pos) (tC v) :=
  fun h0 h1 h2 h3 h4 h5 => ⟨pe_bltn h0 h1 h2 h3 h4 h5⟩
theorem qe_op : ∀ {X : Cx} {a b : Expr} {ta tb : TE} {pos : Pos} {op : Operator} {r : R2},
  OpR X (binaryOp op) r → QE X a ta → QE X b tb → QE X (a.BinOp op b pos) (tOp r ta tb) :=
  fun h0 h1 h2 => ⟨pe_op h0 h1.p h2.p⟩
theorem qe_un : ∀ {X : Cx} {a : Expr} {ta : TE} {pos : Pos} {op : UnaryOp} {r : V → Hp → VK → Prop},
  UnR X (unaryOp op) r → QE X a ta → QE X (Expr.UnaryOp op a pos) (tUn r ta) :=
  fun h0 h1 => ⟨pe_un h0 h1.p⟩
theorem qe_not : ∀ {X : Cx} {a : Expr} {ta : TE} {pos : Pos}, QE X a ta → QE X (Expr.UnaryOp UnaryOp.Not a pos) (tNotV ta) :=
  fun h0 => ⟨pe_not h0.p⟩
theorem qe_and : ∀ {X : Cx} {a b : Expr} {ta tb : TE} {pos : Pos} {rest : List Expr},
  QE X a ta →
    QE X (Expr.BoolOp BoolOp.And (b :: rest) pos) tb → QE X (Expr.BoolOp BoolOp.And (a :: b :: rest) pos) (tAndV ta tb) :=
  fun h0 h1 => ⟨pe_and h0.p h1.p⟩
theorem qe_or : ∀ {X : Cx} {a b : Expr} {ta tb : TE} {pos : Pos} {rest : List Expr},
  QE X a ta →
    QE X (Expr.BoolOp BoolOp.Or (b :: rest) pos) tb → QE X (Expr.BoolOp BoolOp.Or (a :: b :: rest) pos) (tOrV ta tb) :=
  fun h0 h1 => ⟨pe_or h0.p h1.p⟩
theorem qe_one : ∀ {X : Cx} {a : Expr} {pos : Pos} {op : BoolOp} {t : TE}, QE X a t → QE X (Expr.BoolOp op [a] pos) t :=
  fun h0 => ⟨pe_one h0.p⟩
theorem qe_ifExp : ∀ {X : Cx} {a b : Expr} {ta tb : TE} {pos : Pos} {tA : TT} {c : Expr},
  QT X c tA → QE X a ta → QE X b tb → QE X (c.IfExp a b pos) (tIf tA ta tb) :=
  fun h0 h1 h2 => ⟨pe_ifExp h0.p h1.p h2.p⟩
theorem qe_slice : ∀ {X : Cx} {e : Expr} {te : TE} {lo hi : Option Expr} {tl th : TO} {pos p2 : Pos}
  {r : V → Option Int → Option Int → Hp → VK → Prop},
  SlR X r → QE X e te → QO X lo tl → QO X hi th → QE X (e.Subscript (Expr.Slice lo hi none p2) pos) (tSl r te tl th) :=
  fun h0 h1 h2 h3 => ⟨pe_slice h0 h1.p h2.p h3.p⟩
theorem qo_none : ∀ {X : Cx}, QO X none tNoPart :=
  ⟨po_none ⟩
theorem qo_some : ∀ {X : Cx} {e : Expr} {te : TE}, QE X e te → QO X (some e) (tPart te) :=
  fun h0 => ⟨po_some h0.p⟩
theorem qe_ix : ∀ {X : Cx} {a b : Expr} {ta tb : TE} {pos : Pos} {r : R2},
  IxR X r → QE X a ta → QE X b tb → PlainIx b → QE X (a.Subscript b pos) (tOp r ta tb) :=
  fun h0 h1 h2 h3 => ⟨pe_ix h0 h1.p h2.p h3⟩
theorem qe_lst : ∀ {X : Cx} {es : List Expr} {t : TA} {pos : Pos}, QA X es t → QE X (Expr.List es pos) (tLst t) :=
  fun h0 => ⟨pe_lst h0.p⟩
theorem qe_tup : ∀ {X : Cx} {es : List Expr} {t : TA} {pos : Pos} {x1 : Nat}, QA X es t → QE X (Expr.Tuple es x1 pos) (tTup t) :=
  fun h0 => ⟨pe_tup h0.p⟩
theorem qe_disp : ∀ {X : Cx} {pos : Pos} {keys : List (Option Expr)} {values : List Expr} {trs : List (TE × TE)},
  QPs X pos keys values trs →
    (keys.all fun (x : Option Expr) => x.isSome) = true →
      keys.length = values.length → keys ≠ [] → keys.length ≤ 15 → QE X (Expr.Dict keys values pos) (tDisp trs) :=
  fun h0 h1 h2 h3 h4 => ⟨pe_disp h0.p h1 h2 h3 h4⟩
theorem qps_nil : ∀ {X : Cx} {pos : Pos}, QPs X pos [] [] [] :=
  ⟨pps_nil ⟩
theorem qps_cons : ∀ {X : Cx} {pos : Pos} {k v : Expr} {ks : List (Option Expr)} {vs : List Expr} {tk tv : TE}
  {trs : List (TE × TE)},
  QE X k tk → QE X v tv → QPs X pos ks vs trs → QPs X pos (some k :: ks) (v :: vs) ((tk, tv) :: trs) :=
  fun h0 h1 h2 => ⟨pps_cons h0.p h1.p h2.p⟩
theorem qe_callee : ∀ {X : Cx} {k : Nat} {ps : List Str} {sp : Sp} {x : Str} {p pos : Pos} {e : Expr} {es : List Expr}
  {t : TA},
  Callee X.prog X.w X.K X.mg X.base x ps k sp →
    Room k X.A →
      Gl X x →
        QA X (e :: es) t →
          autoParam ((x == Str.ofString "__debug__") = false) pe_callee._auto_1 →
            autoParam (starEach (e :: es) X.env = (false, eval e X.env) :: starEach es X.env) pe_callee._auto_2 →
              autoParam (((backTo pos (starEach es X.env)).any fun (x : Bool × Sem Value) => x.fst) = false)
                  pe_callee._auto_3 →
                QE X ((Expr.Name x p).Call (e :: es) [] pos) (tCall sp [] E0 t) :=
  fun h0 h1 h2 h3 h4 h5 h6 => ⟨pe_callee h0 h1 h2 h3.p h4 h5 h6⟩
theorem qe_callTy : ∀ {X : Cx} {x : Str} {p pos : Pos} {e : Expr} {es : List Expr} {t : TA} {T : String}
  {r : List V → Hp → VK → Prop},
  CallR X (Value.type T) r →
    Gl X x →
      X.mg x = none →
        bootBuiltins x = some (Value.type T) →
          QA X (e :: es) t →
            autoParam (x ≠ Str.ofString "__name__") pe_callTy._auto_1 →
              autoParam ((x == Str.ofString "__debug__") = false) pe_callTy._auto_2 →
                autoParam (starEach (e :: es) X.env = (false, eval e X.env) :: starEach es X.env) pe_callTy._auto_3 →
                  autoParam (((backTo pos (starEach es X.env)).any fun (x : Bool × Sem Value) => x.fst) = false)
                      pe_callTy._auto_4 →
                    QE X ((Expr.Name x p).Call (e :: es) [] pos) (tCB r t) :=
  fun h0 h1 h2 h3 h4 h5 h6 h7 h8 => ⟨pe_callTy h0 h1 h2 h3 h4.p h5 h6 h7 h8⟩
theorem qe_callB : ∀ {X : Cx} {x : Str} {p pos : Pos} {e : Expr} {es : List Expr} {t : TA} {id : String}
  {r : List V → Hp → VK → Prop},
  CallR X (Value.builtin id) r →
    Gl X x →
      X.mg x = none →
        bootBuiltins x = some (Value.builtin id) →
          QA X (e :: es) t →
            autoParam (x ≠ Str.ofString "__name__") pe_callB._auto_1 →
              autoParam ((x == Str.ofString "__debug__") = false) pe_callB._auto_2 →
                autoParam (starEach (e :: es) X.env = (false, eval e X.env) :: starEach es X.env) pe_callB._auto_3 →
                  autoParam (((backTo pos (starEach es X.env)).any fun (x : Bool × Sem Value) => x.fst) = false)
                      pe_callB._auto_4 →
                    QE X ((Expr.Name x p).Call (e :: es) [] pos) (tCB r t) :=
  fun h0 h1 h2 h3 h4 h5 h6 h7 h8 => ⟨pe_callB h0 h1 h2 h3 h4.p h5 h6 h7 h8⟩
theorem qe_bm : ∀ {X : Cx} {o e : Expr} {es : List Expr} {to : TE} {t : TA} {name : Str} {apos cpos : Pos} {T id : String}
  {r : V → List V → Hp → VK → Prop},
  PlainAttrs T →
    Slot T name id →
      typeOf (Value.builtin id) = pure (Value.type "method_descriptor") →
        MtR X id r →
          QE X o to →
            QA X (e :: es) t →
              autoParam (attributeBase o name X.env (eval o X.env) = eval o X.env) pe_bm._auto_1 →
                autoParam
                    (((((backTo cpos (starEach (e :: es) X.env)).all fun (x : Bool × Sem Value) => !x.fst) &&
                          (backToKw cpos (keywordEach [] X.env)).all fun (x : Option Str × Sem Value) =>
                            x.fst.isSome) &&
                        decide (((e :: es).length + ([] : List Keyword).length + if ([] : List Keyword).isEmpty = true then 0 else 1) < 30)) =
                      true)
                    pe_bm._auto_2 →
                  autoParam ((apos.endLine == cpos.line) = true) pe_bm._auto_3 →
                    autoParam (starEach (e :: es) X.env = (false, eval e X.env) :: starEach es X.env) pe_bm._auto_4 →
                      autoParam (((backTo cpos (starEach es X.env)).any fun (x : Bool × Sem Value) => x.fst) = false)
                          pe_bm._auto_5 →
                        QE X ((o.Attribute name apos).Call (e :: es) [] cpos) (tBM X.K T r to t) :=
  fun h0 h1 h2 h3 h4 h5 h6 h7 h8 h9 h10 => ⟨pe_bm h0 h1 h2 h3 h4.p h5.p h6 h7 h8 h9 h10⟩
theorem qe_bm0 : ∀ {X : Cx} {o : Expr} {to : TE} {name : Str} {apos cpos : Pos} {T id : String}
  {r : V → List V → Hp → VK → Prop},
  PlainAttrs T →
    Slot T name id →
      typeOf (Value.builtin id) = pure (Value.type "method_descriptor") →
        MtR X id r →
          QE X o to →
            autoParam (attributeBase o name X.env (eval o X.env) = eval o X.env) pe_bm0._auto_1 →
              autoParam ((apos.endLine == cpos.line) = true) pe_bm0._auto_2 →
                QE X ((o.Attribute name apos).Call [] [] cpos) (tBM0 X.K T r to) :=
  fun h0 h1 h2 h3 h4 h5 h6 => ⟨pe_bm0 h0 h1 h2 h3 h4.p h5 h6⟩
theorem qe_comp : ∀ {X : Cx} {elt tg iter : Expr} {ifs : List Expr} {scope : Scope} {pos : Pos} {wi : TI} {g : TG} {tc : TT}
  {te : TE} (own fr : List Str) (js : List Nat) (NX : List Str) (sn : List (Str × NameKind)),
  X.calm = true →
    QI X tg iter wi →
      (∀ (cl : List (Str × Addr)) (C : Addr) (s : Shared) (H : Hp) (fp : List Addr),
          QG (cxComp X scope cl C (own ++ fr) s H fp) tg g) →
        (∀ (cl : List (Str × Addr)) (C : Addr) (s : Shared) (H : Hp) (fp : List Addr),
            QTs (cxComp X scope cl C (own ++ fr) s H fp) ifs tc) →
          (∀ (cl : List (Str × Addr)) (C : Addr) (s : Shared) (H : Hp) (fp : List Addr),
              QE (cxComp X scope cl C (own ++ fr) s H fp) elt te) →
            autoParam (X.N = NX) pe_comp._auto_1 →
              autoParam (X.env.scope.names = sn) pe_comp._auto_2 →
                autoParam (scope.kind = ScopeKind.function) pe_comp._auto_3 →
                  autoParam (capOk NX sn scope.names fr js = true) pe_comp._auto_4 →
                    autoParam (scOk sn scope.names = true) pe_comp._auto_5 →
                      autoParam (∀ (x : Value), foldedSetIterable iter X.env x = pure x) pe_comp._auto_6 →
                        QE X (elt.ListComp [{ target := tg, iter := iter, ifs := ifs, is_async := 0 }] scope pos)
                          (tComp wi g tc te own.length js) :=
  fun own fr js NX sn h0 h1 h2 h3 h4 h5 h6 h7 h8 h9 h10 => ⟨pe_comp own fr js NX sn h0 h1.p (fun a b c d e => (h2 a b c d e).p) (fun a b c d e => (h3 a b c d e).p) (fun a b c d e => (h4 a b c d e).p) h5 h6 h7 h8 h9 h10⟩
theorem qe_cmpR : ∀ {X : Cx} {a b : Expr} {ta tb : TE} {pos : Pos} {op : CmpOp} {r : R2},
  OpR X (compareOp op) r →
    QE X a ta → QE X b tb → behindInMarks op b = false → QE X (a.Compare [op] [b] pos) (tOp r ta tb) :=
  fun h0 h1 h2 h3 => ⟨pe_cmpR h0 h1.p h2.p h3⟩
theorem qe_chain : ∀ {X : Cx} {a b c : Expr} {ta tb tc : TE} {pos : Pos} {op op' : CmpOp} {r r' : R2},
  OpR X (compareOp op) r →
    OpR X (compareOp op') r' →
      QE X a ta →
        QE X b tb →
          QE X c tc →
            autoParam (lastMarks [op, op'] [b, c] = false) pe_chain._auto_1 →
              QE X (a.Compare [op, op'] [b, c] pos) (tChain r r' ta tb tc) :=
  fun h0 h1 h2 h3 h4 h5 => ⟨pe_chain h0 h1 h2.p h3.p h4.p h5⟩
theorem qt_cmpR : ∀ {X : Cx} {a b : Expr} {ta tb : TE} {pos : Pos} {op : CmpOp} {r : R2},
  OpR X (compareOp op) r →
    QE X a ta → QE X b tb → behindInMarks op b = false → QT X (a.Compare [op] [b] pos) (tTest (tOp r ta tb)) :=
  fun h0 h1 h2 h3 => ⟨pt_cmpR h0 h1.p h2.p h3⟩
theorem qt_chain : ∀ {X : Cx} {a b c : Expr} {ta tb tc : TE} {pos : Pos} {op op' : CmpOp} {r r' : R2},
  OpR X (compareOp op) r →
    OpR X (compareOp op') r' →
      QE X a ta →
        QE X b tb →
          QE X c tc →
            autoParam (lastMarks [op, op'] [b, c] = false) pt_chain._auto_1 →
              QT X (a.Compare [op, op'] [b, c] pos) (tTest (tChain r r' ta tb tc)) :=
  fun h0 h1 h2 h3 h4 h5 => ⟨pt_chain h0 h1 h2.p h3.p h4.p h5⟩
theorem qt_not : ∀ {X : Cx} {a : Expr} {pos : Pos} {tA : TT}, QT X a tA → QT X (Expr.UnaryOp UnaryOp.Not a pos) (tNot tA) :=
  fun h0 => ⟨pt_not h0.p⟩
theorem qt_val : ∀ {X : Cx} {e : Expr} {t : TE},
  QE X e t →
    autoParam
        (∀ (whole : Sem Value),
          PySem.isTrue e X.env whole = do
            let v ← whole
            standAt e.pos
            holding [v] (truthy v))
        pt_val._auto_1 →
      QT X e (tB t) :=
  fun h0 h1 => ⟨pt_val h0.p h1⟩
theorem qw_pt : ∀ {X : Cx} {e : Expr} {t : TT}, QW X e t → QT X e t :=
  fun h0 => ⟨PW.pt h0.p⟩
theorem qw_and : ∀ {X : Cx} {a b : Expr} {pos : Pos} {tA tB' : TT} {rest : List Expr},
  QT X a tA →
    QW X (Expr.BoolOp BoolOp.And (b :: rest) pos) tB' → QW X (Expr.BoolOp BoolOp.And (a :: b :: rest) pos) (tAnd tA tB') :=
  fun h0 h1 => ⟨pw_and h0.p h1.p⟩
theorem qw_or : ∀ {X : Cx} {a b : Expr} {pos : Pos} {tA tB' : TT} {rest : List Expr},
  QT X a tA →
    QW X (Expr.BoolOp BoolOp.Or (b :: rest) pos) tB' → QW X (Expr.BoolOp BoolOp.Or (a :: b :: rest) pos) (tOr tA tB') :=
  fun h0 h1 => ⟨pw_or h0.p h1.p⟩
theorem qw_and1 : ∀ {X : Cx} {a : Expr} {pos : Pos} {tA : TT}, QT X a tA → QW X (Expr.BoolOp BoolOp.And [a] pos) tA :=
  fun h0 => ⟨pw_and1 h0.p⟩
theorem qw_or1 : ∀ {X : Cx} {a : Expr} {pos : Pos} {tA : TT}, QT X a tA → QW X (Expr.BoolOp BoolOp.Or [a] pos) tA :=
  fun h0 => ⟨pw_or1 h0.p⟩
theorem qi_list : ∀ {X : Cx} {tg l : Expr} {tl : TE}, QE X l tl → QI X tg l (iList X.K tl) :=
  fun h0 => ⟨pi_list h0.p⟩
theorem qi_tup : ∀ {X : Cx} {tg l : Expr} {tl : TE}, QE X l tl → QI X tg l (iTup X.K tl) :=
  fun h0 => ⟨pi_tup h0.p⟩
theorem qi_range1 : ∀ {X : Cx} {tg a : Expr} {ta : TA} {p pos : Pos},
  Gl X (Str.ofString "range") →
    X.mg (Str.ofString "range") = none →
      QA X [a] ta →
        autoParam (starEach [a] X.env = [(false, eval a X.env)]) pi_range1._auto_1 →
          QI X tg ((Expr.Name (Str.ofString "range") p).Call [a] [] pos) (iRng1 ta) :=
  fun h0 h1 h2 h3 => ⟨pi_range1 h0 h1 h2.p h3⟩
theorem qi_range2 : ∀ {X : Cx} {tg a b : Expr} {ta : TA} {p pos : Pos},
  Gl X (Str.ofString "range") →
    X.mg (Str.ofString "range") = none →
      QA X [a, b] ta →
        autoParam (starEach [a, b] X.env = [(false, eval a X.env), (false, eval b X.env)]) pi_range2._auto_1 →
          autoParam (starEach [b] X.env = [(false, eval b X.env)]) pi_range2._auto_2 →
            QI X tg ((Expr.Name (Str.ofString "range") p).Call [a, b] [] pos) (iRng2 ta) :=
  fun h0 h1 h2 h3 h4 => ⟨pi_range2 h0 h1 h2.p h3 h4⟩
theorem qi_range3 : ∀ {X : Cx} {tg a b c : Expr} {ta : TA} {p pos : Pos},
  Gl X (Str.ofString "range") →
    X.mg (Str.ofString "range") = none →
      QA X [a, b, c] ta →
        autoParam (starEach [a, b, c] X.env = [(false, eval a X.env), (false, eval b X.env), (false, eval c X.env)])
            pi_range3._auto_1 →
          autoParam (starEach [b, c] X.env = [(false, eval b X.env), (false, eval c X.env)]) pi_range3._auto_2 →
            QI X tg ((Expr.Name (Str.ofString "range") p).Call [a, b, c] [] pos) (iRng3 ta) :=
  fun h0 h1 h2 h3 h4 => ⟨pi_range3 h0 h1 h2.p h3 h4⟩
theorem qi_str : ∀ {X : Cx} {tg l : Expr} {tl : TE}, QE X l tl → QI X tg l (iStr tl) :=
  fun h0 => ⟨pi_str h0.p⟩
theorem qg_name : ∀ {X : Cx} {pos : Pos} {i : Nat} {x : Str},
  X.N.Nodup →
    X.N[i]? = some x →
      Loc X.env.scope x →
        autoParam (X.fn x = true ∨ List.lookup x X.env.scope.names = some NameKind.local) pg_name._auto_1 →
          QG X (Expr.Name x pos) (gName i) :=
  fun h0 h1 h2 h3 => ⟨pg_name h0 h1 h2 h3⟩
theorem qg_tup : ∀ {X : Cx} {pos : Pos} {es : List Expr} {k : Nat} {t : TGs} {n : Nat},
  X.calm = true →
    QGs X es t →
      autoParam ((assignEach es X.env).length = n) pg_tup._auto_1 →
        autoParam (List.findIdx? (fun (x : Bool × (Value → Sem Unit)) => x.fst) (assignEach es X.env) = none)
            pg_tup._auto_2 →
          QG X (Expr.Tuple es k pos) (gTup X.K n t) :=
  fun h0 h1 h2 h3 => ⟨pg_tup h0 h1.p h2 h3⟩
theorem qgs_nil : ∀ {X : Cx}, QGs X [] gNil :=
  ⟨pgs_nil ⟩
theorem qgs_cons : ∀ {X : Cx} {e : Expr} {es : List Expr} {t : TG} {u : TGs},
  QG X e t →
    QGs X es u →
      autoParam
          (List.map (fun (x : Bool × (Value → Sem Unit)) => x.snd) (assignEach (e :: es) X.env) =
            assign e X.env :: List.map (fun (x : Bool × (Value → Sem Unit)) => x.snd) (assignEach es X.env))
          pgs_cons._auto_1 →
        QGs X (e :: es) (gCons t u) :=
  fun h0 h1 h2 => ⟨pgs_cons h0.p h1.p h2⟩
theorem qts_nil : ∀ {X : Cx}, QTs X [] tAlways :=
  ⟨pts_nil ⟩
theorem qts_one : ∀ {X : Cx} {c : Expr} {t : TT}, QT X c t → QTs X [c] t :=
  fun h0 => ⟨pts_one h0.p⟩
theorem qs_ret : ∀ {X : Cx} {e : Expr} {te : TE} {pos : Pos}, QE X e te → QS X (Stmt.Return (some e) pos) (tRet te) :=
  fun h0 => ⟨ps_ret h0.p⟩
theorem qs_retN : ∀ {X : Cx} {pos : Pos}, QS X (Stmt.Return none pos) tRetN :=
  ⟨ps_retN ⟩
theorem qs_set : ∀ {X : Cx} {pos : Pos} {i : Nat} {x : Str} {e : Expr} {te : TE} {pos' : Pos},
  X.N.Nodup →
    X.N[i]? = some x →
      Loc X.env.scope x →
        QE X e te →
          autoParam (swapsWith e (some (Expr.Name x pos')) pos.line X.env = pure false) ps_set._auto_1 →
            autoParam (X.fn x = true ∨ List.lookup x X.env.scope.names = some NameKind.local) ps_set._auto_2 →
              QS X (Stmt.Assign [Expr.Name x pos'] e pos) (tAsg te (gName i)) :=
  fun h0 h1 h2 h3 h4 h5 => ⟨ps_set h0 h1 h2 h3.p h4 h5⟩
theorem qs_asg : ∀ {X : Cx} {pos : Pos} {tg e : Expr} {te : TE} {g : TG},
  QE X e te →
    QG X tg g →
      autoParam (swapsWithSole [tg] e pos.line X.env = pure false) ps_asg._auto_1 →
        autoParam (swappedStores [tg] e X.env = pure none) ps_asg._auto_2 →
          autoParam
              (List.map (fun (x : Bool × (Value → Sem Unit)) => x.snd) (assignEach [tg] X.env) = [assign tg X.env])
              ps_asg._auto_3 →
            QS X (Stmt.Assign [tg] e pos) (tAsg te g) :=
  fun h0 h1 h2 h3 h4 => ⟨ps_asg h0.p h1.p h2 h3 h4⟩
theorem qg_sub : ∀ {X : Cx} {pos : Pos} {o i : Expr} {to ti : TE} {t : TSet},
  QE X o to →
    QE X i ti →
      PSet X t →
        autoParam
            (∀ (v : Value),
              assign (o.Subscript i pos) X.env v = do
                let ov ← holding [v] (eval o X.env)
                let iv ← holding [v, ov] (eval i X.env)
                standAt pos
                holding [v, ov, iv] (setItem ov iv v)
                release [v, ov, iv] [])
            pg_sub._auto_1 →
          QG X (o.Subscript i pos) (gSub to ti t) :=
  fun h0 h1 h2 h3 => ⟨pg_sub h0.p h1.p h2 h3⟩
theorem qs_fld : ∀ {X : Cx} {o value : Expr} {f : Str} {pos pos' : Pos} {ta tv : TE},
  QE X o ta →
    QE X value tv →
      swapsWith value (some (o.Attribute f pos')) pos.line X.env = pure false →
        QS X (Stmt.Assign [o.Attribute f pos'] value pos) (sFld X.K ta tv f) :=
  fun h0 h1 h2 => ⟨ps_fld h0.p h1.p h2⟩
theorem qs_augS : ∀ {X : Cx} {pos : Pos} {o i e : Expr} {to ti te : TE} {tget : V → V → Hp → VK → Prop} {tip : TIp}
  {tset : TSet} {op : Operator} {tpos : Pos},
  QE X o to →
    QE X i ti →
      PGet X tget →
        QE X e te →
          PIp X op tip →
            PSet X tset →
              autoParam
                  (∀ (ov iv new : Value),
                    augStore i ov iv new = do
                      holding [new, ov, iv] (setItem ov iv new)
                      release [new, ov, iv] []
                      pure Flow.next)
                  ps_augS._auto_1 →
                QS X (Stmt.AugAssign (o.Subscript i tpos) op e pos) (tAugS to ti te tget tip tset) :=
  fun h0 h1 h2 h3 h4 h5 h6 => ⟨ps_augS h0.p h1.p h2 h3.p h4 h5 h6⟩
theorem qs_aug : ∀ {X : Cx} {pos : Pos} {i : Nat} {x : Str} {e : Expr} {te : TE} {op : Operator} {ti : TIp} {pos' : Pos},
  X.N.Nodup →
    X.N[i]? = some x →
      Loc X.env.scope x →
        QE X e te →
          PIp X op ti →
            autoParam (X.fn x = true ∨ List.lookup x X.env.scope.names = some NameKind.local) ps_aug._auto_1 →
              QS X (Stmt.AugAssign (Expr.Name x pos') op e pos) (tAug i te ti) :=
  fun h0 h1 h2 h3 h4 h5 => ⟨ps_aug h0 h1 h2 h3.p h4 h5⟩
theorem qs_if : ∀ {X : Cx} {t u : TS} {pos : Pos} {c : Expr} {a b : List Stmt} {tc : TT},
  QT X c tc → QB X a t → QB X b u → QS X (Stmt.If c a b pos) (tIfS tc t u) :=
  fun h0 h1 h2 => ⟨ps_if h0.p h1.p h2.p⟩
theorem qs_for : ∀ {X : Cx} {tg iter : Expr} {body : List Stmt} {wi : TI} {g : TG} {tb : TS} {pos : Pos},
  PassesOwn (model X.prog X.w) X.A X.env X.xe →
    X.calm = true →
      QI X tg iter wi →
        QG X tg g →
          QB X body tb →
            autoParam (∀ (x : Value), foldedSetIterable iter X.env x = pure x) ps_for._auto_1 →
              QS X (Stmt.For tg iter body [] pos) (tFor wi g tb) :=
  fun h0 h1 h2 h3 h4 h5 => ⟨ps_for h0 h1 h2.p h3.p h4.p h5⟩
theorem qs_while : ∀ {X : Cx} {pos : Pos} {c : Expr} {body : List Stmt} {tc : TT} {tb : TS},
  PassesOwn (model X.prog X.w) X.A X.env X.xe →
    QT X c tc → QB X body tb → QS X (Stmt.While c body [] pos) (tWhile tc tb) :=
  fun h0 h1 h2 => ⟨ps_while h0 h1.p h2.p⟩
theorem qs_expr : ∀ {X : Cx} {e : Expr} {te : TE} {pos : Pos},
  QE X e te →
    autoParam (swapsWith e none pos.line X.env = pure false) ps_expr._auto_1 → QS X (Stmt.Expr e pos) (tDrop te) :=
  fun h0 h1 => ⟨ps_expr h0.p h1⟩
theorem qs_pass : ∀ {X : Cx} {pos : Pos}, QS X (Stmt.Pass pos) tNext :=
  ⟨ps_pass ⟩
theorem qs_comp : ∀ {X : Cx} {i : Nat} {y : Str} {py spos : Pos} {elt tg iter : Expr} {ifs : List Expr} {scope : Scope}
  {pos : Pos} {wi : TI} {g : TG} {tc : TT} {te : TE} (own fr : List Str) (js : List Nat) (NX : List Str)
  (sn : List (Str × NameKind)),
  X.calm = true →
    X.N.Nodup →
      X.N[i]? = some y →
        Loc X.env.scope y →
          QI X tg iter wi →
            (∀ (cl : List (Str × Addr)) (C : Addr) (s : Shared) (H : Hp) (fp : List Addr),
                QG (cxComp X scope cl C (own ++ fr) s H fp) tg g) →
              (∀ (cl : List (Str × Addr)) (C : Addr) (s : Shared) (H : Hp) (fp : List Addr),
                  QTs (cxComp X scope cl C (own ++ fr) s H fp) ifs tc) →
                (∀ (cl : List (Str × Addr)) (C : Addr) (s : Shared) (H : Hp) (fp : List Addr),
                    QE (cxComp X scope cl C (own ++ fr) s H fp) elt te) →
                  autoParam
                      (swapsWith (elt.ListComp [{ target := tg, iter := iter, ifs := ifs, is_async := 0 }] scope pos)
                          (some (Expr.Name y py)) spos.line X.env =
                        pure true)
                      ps_comp._auto_1 →
                    autoParam (X.N = NX) ps_comp._auto_2 →
                      autoParam (X.env.scope.names = sn) ps_comp._auto_3 →
                        autoParam (scope.kind = ScopeKind.function) ps_comp._auto_4 →
                          autoParam (capOk NX sn scope.names fr js = true) ps_comp._auto_5 →
                            autoParam (scOk sn scope.names = true) ps_comp._auto_6 →
                              autoParam (∀ (x : Value), foldedSetIterable iter X.env x = pure x) ps_comp._auto_7 →
                                autoParam (X.fn y = true ∨ List.lookup y X.env.scope.names = some NameKind.local)
                                    ps_comp._auto_8 →
                                  QS X
                                    (Stmt.Assign [Expr.Name y py]
                                      (elt.ListComp [{ target := tg, iter := iter, ifs := ifs, is_async := 0 }] scope
                                        pos)
                                      spos)
                                    (tAsg (tComp wi g tc te own.length js) (gName i)) :=
  fun own fr js NX sn h0 h1 h2 h3 h4 h5 h6 h7 h8 h9 h10 h11 h12 h13 h14 h15 => ⟨ps_comp own fr js NX sn h0 h1 h2 h3 h4.p (fun a b c d e => (h5 a b c d e).p) (fun a b c d e => (h6 a b c d e).p) (fun a b c d e => (h7 a b c d e).p) h8 h9 h10 h11 h12 h13 h14 h15⟩
theorem qe_lr : ∀ {X : Cx} {a b c : Expr} {ta : TA} {p p2 pos pos2 : Pos},
  X.calm = true →
    Gl X (Str.ofString "list") →
      X.mg (Str.ofString "list") = none →
        Gl X (Str.ofString "range") →
          X.mg (Str.ofString "range") = none →
            QA X [a, b, c] ta →
              autoParam
                  (starEach [a, b, c] X.env = [(false, eval a X.env), (false, eval b X.env), (false, eval c X.env)])
                  pe_lr._auto_1 →
                autoParam (starEach [b, c] X.env = [(false, eval b X.env), (false, eval c X.env)]) pe_lr._auto_2 →
                  QE X
                    ((Expr.Name (Str.ofString "list") p).Call
                      [(Expr.Name (Str.ofString "range") p2).Call [a, b, c] [] pos2] [] pos)
                    (tLR ta) :=
  fun h0 h1 h2 h3 h4 h5 h6 h7 => ⟨pe_lr h0 h1 h2 h3 h4 h5.p h6 h7⟩
end L2
end
section
set_option Elab.async false
set_option linter.all false
set_option maxRecDepth 100000
namespace L2
open PySem PySem.Spec PyProof.Rows
theorem tree_kw {prog : Program} {w : World} {A : Around} {E : Value → Shared → Prop} {s : Shared} {id : String} {b : Builtin} {args : List Value} {kw : List (Str × Value)} {Q : Value → Shared → Prop} (hk : builtinKind id = none) (hp : plainId id = true)
    (hb : entryFor table id = some b) (ha : argsOk id ⟨args, kw⟩)
    (hc : wpAny (model prog w) A.in1 (b ⟨args, kw⟩) (fun fin s' => match fin with
      | .done f => (match (Except.ok f : Result) with | .ok (.ret v) => Q v s' | .ok _ => False | .error e => E e s')
      | .again c' => c'.quiet = true ∧ codeAny (model prog w) A c' (fun r s' => match r with | .ok (.ret v) => Q v s' | .ok _ => False | .error e => E e s') s') E s) :
    wpAny (model prog w) A (call (.builtin id) args kw) Q E s := by
  refine wpAny_call (codeAny_call_builtin hp hb (by
    simp only [checkBuiltinCall, hk]
    cases hsig : Manifest.signature? id with
    | none => exact wpAny_pure hc
    | some sig =>
      have ha2 : Bind.checkArgs id sig ⟨args, kw⟩ = pure () := by simpa only [argsOk, hsig] using ha
      simp only [ha2]
      exact wpAny_pure hc))
theorem args_minK (a d : Value) : argsOk "min" ⟨[a], [("default", d)]⟩ := by
  unfold argsOk
  kernel_rfl
section
variable {prog : Program} {w : World} {A : Around} {R : Result → Shared → Prop} {it0 : Addr} {fp wr : List Addr} {n : Nat} {P : Nat → Value → Prop} {St : Nat → Heap → Prop} {kw : List (Str × Value)}
theorem minK_go (Wk : Walks prog w A.in1 it0 fp wr n P St) (bt : Nat → Nat → Bool) (cm : CmpOf prog w A.in1 .Lt P bt) (T0 : Addr) (nf : T0 ∉ fp) :
    ∀ (k j : Nat) (s : Shared) (b0 : Value) (c : Nat), n - (j + 1) = k → j + 1 ≤ n → St (j + 1) s.heap → P (argBest bt j) b0 →
    s.heap.get? T0 = some { cls := .type "list", dict := none, data := .seq #[b0, b0] c, slots := #[] } →
    (∀ v h1 tk, P (argBest bt (n - 1)) v → (∀ b o, b ∉ wr → b ≠ T0 → s.heap.get? b = some o → h1.get? b = some o) → R (.ok (.ret v)) { s with heap := h1, toks := tk }) →
    codeAny (model prog w) A (.builtin "min.loop" ⟨[.ref it0, .none, .ref T0], kw⟩) R s := by
  have nw : T0 ∉ wr := fun h => nf (Wk.sub _ h)
  have nme : (toString "min" ++ toString ".loop" : String) = "min.loop" := by decide
  intro k
  induction k with
  | zero =>
    intro j s b0 c e0 e1 s0 p0 hT hR
    have hin : j + 1 = n := by omega
    refine codeAny_builtin (b := Builtin.«min.loop») F.entry_min_loop ?_
    rw [Around.under_plainId (id := "min.loop") F.plain_min_loop _]
    show wpAny _ A.in1 (seqItems? (.ref T0) >>= _) _ _ s
    refine wpAny_bind (wpAny_seqItems (a := T0) hT rfl ?_)
    show wpAny _ A.in1 (tryCatch (pyNext (.ref it0)) _ >>= _) _ _ s
    refine wpAny_bind (wpAny_tryCatch (Wk.done s _ _ (hin ▸ s0) fun h1 tk k1 => ?_))
    have hT1 := k1 T0 _ nw hT
    show wpAny _ A.in1 (updateSeq T0 (fun _ => #[]) >>= _) _ _ _
    refine wpAny_bind (wpAny_updateSeq hT1 rfl (wpAny_bind (wpAny_letGo (wpAny_pure ?_))))
    exact hR b0 _ tk (by rw [← hin]; exact p0) fun b o z1 z2 e => (Heap.get?_update_other _ _ (Ne.symm z2)).trans (k1 b o z1 e)
  | succ k ih =>
    intro j s b0 c e0 e1 s0 p0 hT hR
    have lt1 : j + 1 < n := by omega
    refine codeAny_builtin (b := Builtin.«min.loop») F.entry_min_loop ?_
    rw [Around.under_plainId (id := "min.loop") F.plain_min_loop _]
    show wpAny _ A.in1 (seqItems? (.ref T0) >>= _) _ _ s
    refine wpAny_bind (wpAny_seqItems (a := T0) hT rfl ?_)
    show wpAny _ A.in1 (tryCatch (pyNext (.ref it0)) _ >>= _) _ _ s
    refine wpAny_bind (wpAny_tryCatch (Wk.item (j + 1) s _ _ lt1 s0 fun v h1 tk p1 s1 k1 => ?_))
    have hT1 := k1 T0 _ nw hT
    show wpAny _ A.in1 (tryCatch (holding [v, v] (richCompare .Lt v b0 >>= _)) _ >>= _) _ _ _
    refine wpAny_bind (wpAny_tryCatch (wpAny_holding (wpAny_bind (cm (j + 1) (argBest bt j) v b0 _ _ _ p1 p0 ?_))))
    refine wpAny_bind (wpAny_holding (wpAny_truthy_bool (wpAny_bind (wpAny_letGo (wpAny_pure ?_)))))
    cases hb : bt (j + 1) (argBest bt j) with
    | true =>
      simp only [if_true]
      refine wpAny_bind (wpAny_updateSeq hT1 rfl (wpAny_bind (wpAny_letGo ?_)))
      rw [nme]
      refine wpAny_pure ⟨plainId_quiet (id := "min.loop") F.plain_min_loop _, ih (j + 1) _ v _ (by omega) lt1 (Wk.frame _ _ _ s1 fun b hbf o e => ?_) (by simp only [argBest, hb, if_true]; exact p1) (Heap.get?_update_self _ hT1 rfl) fun v2 h2 tk2 p2 k2 => ?_⟩
      · exact (Heap.get?_update_other _ _ (fun h : T0 = b => nf (by rw [h]; exact hbf))).trans e
      · exact hR v2 h2 tk2 p2 fun b o z1 z2 e => k2 b o z1 z2 ((Heap.get?_update_other _ _ (Ne.symm z2)).trans (k1 b o z1 e))
    | false =>
      simp only [Bool.false_eq_true, if_false]
      refine wpAny_bind (wpAny_letGo (by
        rw [nme]
        refine wpAny_pure ⟨plainId_quiet (id := "min.loop") F.plain_min_loop _, ih (j + 1) _ b0 c (by omega) lt1 s1 (by simp only [argBest, hb, Bool.false_eq_true, if_false]; exact p0) hT1 fun v2 h2 tk2 p2 k2 => ?_⟩
        exact hR v2 h2 tk2 p2 fun b o z1 z2 e => k2 b o z1 z2 (k1 b o z1 e)))
theorem minK_first (Wk : Walks prog w A.in1 it0 fp wr n P St) (bt : Nat → Nat → Bool) (cm : CmpOf prog w A.in1 .Lt P bt) (T0 : Addr) (nf : T0 ∉ fp) (n0 : 0 < n) {s : Shared} {c : Nat} (s0 : St 0 s.heap)
    (hT : s.heap.get? T0 = some { cls := .type "list", dict := none, data := .seq #[] c, slots := #[] })
    (hR : ∀ v h1 tk, P (argBest bt (n - 1)) v → (∀ b o, b ∉ wr → b ≠ T0 → s.heap.get? b = some o → h1.get? b = some o) → R (.ok (.ret v)) { s with heap := h1, toks := tk }) :
    codeAny (model prog w) A (.builtin "min.loop" ⟨[.ref it0, .none, .ref T0], kw⟩) R s := by
  have nw : T0 ∉ wr := fun h => nf (Wk.sub _ h)
  have nme : (toString "min" ++ toString ".loop" : String) = "min.loop" := by decide
  refine codeAny_builtin (b := Builtin.«min.loop») F.entry_min_loop ?_
  rw [Around.under_plainId (id := "min.loop") F.plain_min_loop _]
  show wpAny _ A.in1 (seqItems? (.ref T0) >>= _) _ _ s
  refine wpAny_bind (wpAny_seqItems (a := T0) hT rfl ?_)
  show wpAny _ A.in1 (tryCatch (pyNext (.ref it0)) _ >>= _) _ _ s
  refine wpAny_bind (wpAny_tryCatch (Wk.item 0 s _ _ n0 s0 fun v h1 tk p1 s1 k1 => ?_))
  have hT1 := k1 T0 _ nw hT
  show wpAny _ A.in1 (updateSeq T0 (fun _ => #[v, v]) >>= _) _ _ _
  refine wpAny_bind (wpAny_updateSeq hT1 rfl (by
    rw [nme]
    refine wpAny_pure ⟨plainId_quiet (id := "min.loop") F.plain_min_loop _, minK_go Wk bt cm T0 nf _ 0 _ v _ rfl n0 (Wk.frame _ _ _ s1 fun b hbf o e => ?_) p1 (Heap.get?_update_self _ hT1 rfl) fun v2 h2 tk2 p2 k2 => ?_⟩
    · exact (Heap.get?_update_other _ _ (fun h : T0 = b => nf (by rw [h]; exact hbf))).trans e
    · exact hR v2 h2 tk2 p2 fun b o z1 z2 e => k2 b o z1 z2 ((Heap.get?_update_other _ _ (Ne.symm z2)).trans (k1 b o z1 e))))
theorem minK_none (Wk : Walks prog w A.in1 it0 fp wr n P St) (T0 : Addr) (nf : T0 ∉ fp) (n0 : n = 0) {s : Shared} {c : Nat} {d : Value} {x : Str} (s0 : St 0 s.heap)
    (hT : s.heap.get? T0 = some { cls := .type "list", dict := none, data := .seq #[] c, slots := #[] })
    (hR : ∀ h1 tk, (∀ b o, b ∉ wr → b ≠ T0 → s.heap.get? b = some o → h1.get? b = some o) → R (.ok (.ret d)) { s with heap := h1, toks := tk }) :
    codeAny (model prog w) A (.builtin "min.loop" ⟨[.ref it0, .none, .ref T0], [(x, d)]⟩) R s := by
  subst n0
  refine codeAny_builtin (b := Builtin.«min.loop») F.entry_min_loop ?_
  rw [Around.under_plainId (id := "min.loop") F.plain_min_loop _]
  show wpAny _ A.in1 (seqItems? (.ref T0) >>= _) _ _ s
  refine wpAny_bind (wpAny_seqItems (a := T0) hT rfl ?_)
  show wpAny _ A.in1 (tryCatch (pyNext (.ref it0)) _ >>= _) _ _ s
  refine wpAny_bind (wpAny_tryCatch (Wk.done s _ _ s0 fun h1 tk k1 => ?_))
  exact wpAny_bind (wpAny_rule (wpAny_pure (hR h1 tk fun b o z1 _ e => k1 b o z1 e)))
end
section
variable {prog : Program} {w : World} {A : Around} {E : Value → Shared → Prop} {s : Shared}
theorem call_minK {x d : Value} {Q : Value → Shared → Prop}
    (h : wpAny (model prog w) A.in1 (pyIter x) (fun itv s2 => ∃ it0 fp wr n P St bt, itv = .ref it0 ∧ Walks prog w A.in1 it0 fp wr n P St ∧ St 0 s2.heap ∧ (∀ b ∈ fp, b < s2.heap.objs.size) ∧ CmpOf prog w A.in1 .Lt P bt ∧
      (0 < n → ∀ v h1 tk, P (argBest bt (n - 1)) v → (∀ b o, b ∉ wr → s2.heap.get? b = some o → h1.get? b = some o) → Q v { s2 with heap := h1, toks := tk }) ∧
      (n = 0 → ∀ h1 tk, (∀ b o, b ∉ wr → s2.heap.get? b = some o → h1.get? b = some o) → Q d { s2 with heap := h1, toks := tk })) E s) :
    wpAny (model prog w) A (call (.builtin "min") [x] [("default", d)]) Q E s := by
  have nme : (toString "min" ++ toString ".loop" : String) = "min.loop" := by decide
  refine tree_kw F.kind_min F.plain_min F.entry_min (args_minK x d) ?_
  show wpAny _ A.in1 (Builtin.Builtins.bindParams "min" ["key", "default"] 0 ⟨[], [("default", d)]⟩ >>= _) _ _ s
  refine wpAny_bind (wpAny_of_eq (show Builtin.Builtins.bindParams "min" ["key", "default"] 0 ⟨[], [("default", d)]⟩ = pure [none, some d] from rfl) ?_)
  refine wpAny_bind (wpAny_pure (wpAny_bind (wpAny_mono h (fun itv s2 h2 => ?_) fun _ _ e => e)))
  obtain ⟨it0, fp, wr, n, P, St, bt, rfl, Wk, s0, hfp, cm, q1, q0⟩ := h2
  refine wpAny_bind (wpAny_newObj_type ?_)
  have nf : s2.heap.objs.size ∉ fp := fun hm => Nat.lt_irrefl _ (hfp _ hm)
  rw [nme]
  by_cases hn : 0 < n
  · refine wpAny_pure ⟨plainId_quiet (id := "min.loop") F.plain_min_loop _, minK_first Wk bt cm s2.heap.objs.size nf hn (Wk.frame _ _ _ s0 fun b _ o e => Heap.get?_push_of_some _ e) (Heap.get?_push_size _ rfl) fun v h1 tk p1 k1 => ?_⟩
    exact q1 hn v h1 tk p1 fun b o z1 e => k1 b o z1 (Nat.ne_of_lt (Heap.lt_size e)) (Heap.get?_push_of_some _ e)
  · have hn : n = 0 := by omega
    refine wpAny_pure ⟨plainId_quiet (id := "min.loop") F.plain_min_loop _, minK_none Wk s2.heap.objs.size nf hn (Wk.frame _ _ _ s0 fun b _ o e => Heap.get?_push_of_some _ e) (Heap.get?_push_size _ rfl) fun h1 tk k1 => ?_⟩
    exact q0 hn h1 tk fun b o z1 e => k1 b o z1 (Nat.ne_of_lt (Heap.lt_size e)) (Heap.get?_push_of_some _ e)
end
theorem args_maxK (a d : Value) : argsOk "max" ⟨[a], [("default", d)]⟩ := by
  unfold argsOk
  kernel_rfl
section
variable {prog : Program} {w : World} {A : Around} {R : Result → Shared → Prop} {it0 : Addr} {fp wr : List Addr} {n : Nat} {P : Nat → Value → Prop} {St : Nat → Heap → Prop} {kw : List (Str × Value)}
theorem maxK_go (Wk : Walks prog w A.in1 it0 fp wr n P St) (bt : Nat → Nat → Bool) (cm : CmpOf prog w A.in1 .Gt P bt) (T0 : Addr) (nf : T0 ∉ fp) :
    ∀ (k j : Nat) (s : Shared) (b0 : Value) (c : Nat), n - (j + 1) = k → j + 1 ≤ n → St (j + 1) s.heap → P (argBest bt j) b0 →
    s.heap.get? T0 = some { cls := .type "list", dict := none, data := .seq #[b0, b0] c, slots := #[] } →
    (∀ v h1 tk, P (argBest bt (n - 1)) v → (∀ b o, b ∉ wr → b ≠ T0 → s.heap.get? b = some o → h1.get? b = some o) → R (.ok (.ret v)) { s with heap := h1, toks := tk }) →
    codeAny (model prog w) A (.builtin "max.loop" ⟨[.ref it0, .none, .ref T0], kw⟩) R s := by
  have nw : T0 ∉ wr := fun h => nf (Wk.sub _ h)
  have nme : (toString "max" ++ toString ".loop" : String) = "max.loop" := by decide
  intro k
  induction k with
  | zero =>
    intro j s b0 c e0 e1 s0 p0 hT hR
    have hin : j + 1 = n := by omega
    refine codeAny_builtin (b := Builtin.«max.loop») F.entry_max_loop ?_
    rw [Around.under_plainId (id := "max.loop") F.plain_max_loop _]
    show wpAny _ A.in1 (seqItems? (.ref T0) >>= _) _ _ s
    refine wpAny_bind (wpAny_seqItems (a := T0) hT rfl ?_)
    show wpAny _ A.in1 (tryCatch (pyNext (.ref it0)) _ >>= _) _ _ s
    refine wpAny_bind (wpAny_tryCatch (Wk.done s _ _ (hin ▸ s0) fun h1 tk k1 => ?_))
    have hT1 := k1 T0 _ nw hT
    show wpAny _ A.in1 (updateSeq T0 (fun _ => #[]) >>= _) _ _ _
    refine wpAny_bind (wpAny_updateSeq hT1 rfl (wpAny_bind (wpAny_letGo (wpAny_pure ?_))))
    exact hR b0 _ tk (by rw [← hin]; exact p0) fun b o z1 z2 e => (Heap.get?_update_other _ _ (Ne.symm z2)).trans (k1 b o z1 e)
  | succ k ih =>
    intro j s b0 c e0 e1 s0 p0 hT hR
    have lt1 : j + 1 < n := by omega
    refine codeAny_builtin (b := Builtin.«max.loop») F.entry_max_loop ?_
    rw [Around.under_plainId (id := "max.loop") F.plain_max_loop _]
    show wpAny _ A.in1 (seqItems? (.ref T0) >>= _) _ _ s
    refine wpAny_bind (wpAny_seqItems (a := T0) hT rfl ?_)
    show wpAny _ A.in1 (tryCatch (pyNext (.ref it0)) _ >>= _) _ _ s
    refine wpAny_bind (wpAny_tryCatch (Wk.item (j + 1) s _ _ lt1 s0 fun v h1 tk p1 s1 k1 => ?_))
    have hT1 := k1 T0 _ nw hT
    show wpAny _ A.in1 (tryCatch (holding [v, v] (richCompare .Gt v b0 >>= _)) _ >>= _) _ _ _
    refine wpAny_bind (wpAny_tryCatch (wpAny_holding (wpAny_bind (cm (j + 1) (argBest bt j) v b0 _ _ _ p1 p0 ?_))))
    refine wpAny_bind (wpAny_holding (wpAny_truthy_bool (wpAny_bind (wpAny_letGo (wpAny_pure ?_)))))
    cases hb : bt (j + 1) (argBest bt j) with
    | true =>
      simp only [if_true]
      refine wpAny_bind (wpAny_updateSeq hT1 rfl (wpAny_bind (wpAny_letGo ?_)))
      rw [nme]
      refine wpAny_pure ⟨plainId_quiet (id := "max.loop") F.plain_max_loop _, ih (j + 1) _ v _ (by omega) lt1 (Wk.frame _ _ _ s1 fun b hbf o e => ?_) (by simp only [argBest, hb, if_true]; exact p1) (Heap.get?_update_self _ hT1 rfl) fun v2 h2 tk2 p2 k2 => ?_⟩
      · exact (Heap.get?_update_other _ _ (fun h : T0 = b => nf (by rw [h]; exact hbf))).trans e
      · exact hR v2 h2 tk2 p2 fun b o z1 z2 e => k2 b o z1 z2 ((Heap.get?_update_other _ _ (Ne.symm z2)).trans (k1 b o z1 e))
    | false =>
      simp only [Bool.false_eq_true, if_false]
      refine wpAny_bind (wpAny_letGo (by
        rw [nme]
        refine wpAny_pure ⟨plainId_quiet (id := "max.loop") F.plain_max_loop _, ih (j + 1) _ b0 c (by omega) lt1 s1 (by simp only [argBest, hb, Bool.false_eq_true, if_false]; exact p0) hT1 fun v2 h2 tk2 p2 k2 => ?_⟩
        exact hR v2 h2 tk2 p2 fun b o z1 z2 e => k2 b o z1 z2 (k1 b o z1 e)))
theorem maxK_first (Wk : Walks prog w A.in1 it0 fp wr n P St) (bt : Nat → Nat → Bool) (cm : CmpOf prog w A.in1 .Gt P bt) (T0 : Addr) (nf : T0 ∉ fp) (n0 : 0 < n) {s : Shared} {c : Nat} (s0 : St 0 s.heap)
    (hT : s.heap.get? T0 = some { cls := .type "list", dict := none, data := .seq #[] c, slots := #[] })
    (hR : ∀ v h1 tk, P (argBest bt (n - 1)) v → (∀ b o, b ∉ wr → b ≠ T0 → s.heap.get? b = some o → h1.get? b = some o) → R (.ok (.ret v)) { s with heap := h1, toks := tk }) :
    codeAny (model prog w) A (.builtin "max.loop" ⟨[.ref it0, .none, .ref T0], kw⟩) R s := by
  have nw : T0 ∉ wr := fun h => nf (Wk.sub _ h)
  have nme : (toString "max" ++ toString ".loop" : String) = "max.loop" := by decide
  refine codeAny_builtin (b := Builtin.«max.loop») F.entry_max_loop ?_
  rw [Around.under_plainId (id := "max.loop") F.plain_max_loop _]
  show wpAny _ A.in1 (seqItems? (.ref T0) >>= _) _ _ s
  refine wpAny_bind (wpAny_seqItems (a := T0) hT rfl ?_)
  show wpAny _ A.in1 (tryCatch (pyNext (.ref it0)) _ >>= _) _ _ s
  refine wpAny_bind (wpAny_tryCatch (Wk.item 0 s _ _ n0 s0 fun v h1 tk p1 s1 k1 => ?_))
  have hT1 := k1 T0 _ nw hT
  show wpAny _ A.in1 (updateSeq T0 (fun _ => #[v, v]) >>= _) _ _ _
  refine wpAny_bind (wpAny_updateSeq hT1 rfl (by
    rw [nme]
    refine wpAny_pure ⟨plainId_quiet (id := "max.loop") F.plain_max_loop _, maxK_go Wk bt cm T0 nf _ 0 _ v _ rfl n0 (Wk.frame _ _ _ s1 fun b hbf o e => ?_) p1 (Heap.get?_update_self _ hT1 rfl) fun v2 h2 tk2 p2 k2 => ?_⟩
    · exact (Heap.get?_update_other _ _ (fun h : T0 = b => nf (by rw [h]; exact hbf))).trans e
    · exact hR v2 h2 tk2 p2 fun b o z1 z2 e => k2 b o z1 z2 ((Heap.get?_update_other _ _ (Ne.symm z2)).trans (k1 b o z1 e))))
theorem maxK_none (Wk : Walks prog w A.in1 it0 fp wr n P St) (T0 : Addr) (nf : T0 ∉ fp) (n0 : n = 0) {s : Shared} {c : Nat} {d : Value} {x : Str} (s0 : St 0 s.heap)
    (hT : s.heap.get? T0 = some { cls := .type "list", dict := none, data := .seq #[] c, slots := #[] })
    (hR : ∀ h1 tk, (∀ b o, b ∉ wr → b ≠ T0 → s.heap.get? b = some o → h1.get? b = some o) → R (.ok (.ret d)) { s with heap := h1, toks := tk }) :
    codeAny (model prog w) A (.builtin "max.loop" ⟨[.ref it0, .none, .ref T0], [(x, d)]⟩) R s := by
  subst n0
  refine codeAny_builtin (b := Builtin.«max.loop») F.entry_max_loop ?_
  rw [Around.under_plainId (id := "max.loop") F.plain_max_loop _]
  show wpAny _ A.in1 (seqItems? (.ref T0) >>= _) _ _ s
  refine wpAny_bind (wpAny_seqItems (a := T0) hT rfl ?_)
  show wpAny _ A.in1 (tryCatch (pyNext (.ref it0)) _ >>= _) _ _ s
  refine wpAny_bind (wpAny_tryCatch (Wk.done s _ _ s0 fun h1 tk k1 => ?_))
  exact wpAny_bind (wpAny_rule (wpAny_pure (hR h1 tk fun b o z1 _ e => k1 b o z1 e)))
end
section
variable {prog : Program} {w : World} {A : Around} {E : Value → Shared → Prop} {s : Shared}
theorem call_maxK {x d : Value} {Q : Value → Shared → Prop}
    (h : wpAny (model prog w) A.in1 (pyIter x) (fun itv s2 => ∃ it0 fp wr n P St bt, itv = .ref it0 ∧ Walks prog w A.in1 it0 fp wr n P St ∧ St 0 s2.heap ∧ (∀ b ∈ fp, b < s2.heap.objs.size) ∧ CmpOf prog w A.in1 .Gt P bt ∧
      (0 < n → ∀ v h1 tk, P (argBest bt (n - 1)) v → (∀ b o, b ∉ wr → s2.heap.get? b = some o → h1.get? b = some o) → Q v { s2 with heap := h1, toks := tk }) ∧
      (n = 0 → ∀ h1 tk, (∀ b o, b ∉ wr → s2.heap.get? b = some o → h1.get? b = some o) → Q d { s2 with heap := h1, toks := tk })) E s) :
    wpAny (model prog w) A (call (.builtin "max") [x] [("default", d)]) Q E s := by
  have nme : (toString "max" ++ toString ".loop" : String) = "max.loop" := by decide
  refine tree_kw F.kind_max F.plain_max F.entry_max (args_maxK x d) ?_
  show wpAny _ A.in1 (Builtin.Builtins.bindParams "max" ["key", "default"] 0 ⟨[], [("default", d)]⟩ >>= _) _ _ s
  refine wpAny_bind (wpAny_of_eq (show Builtin.Builtins.bindParams "max" ["key", "default"] 0 ⟨[], [("default", d)]⟩ = pure [none, some d] from rfl) ?_)
  refine wpAny_bind (wpAny_pure (wpAny_bind (wpAny_mono h (fun itv s2 h2 => ?_) fun _ _ e => e)))
  obtain ⟨it0, fp, wr, n, P, St, bt, rfl, Wk, s0, hfp, cm, q1, q0⟩ := h2
  refine wpAny_bind (wpAny_newObj_type ?_)
  have nf : s2.heap.objs.size ∉ fp := fun hm => Nat.lt_irrefl _ (hfp _ hm)
  rw [nme]
  by_cases hn : 0 < n
  · refine wpAny_pure ⟨plainId_quiet (id := "max.loop") F.plain_max_loop _, maxK_first Wk bt cm s2.heap.objs.size nf hn (Wk.frame _ _ _ s0 fun b _ o e => Heap.get?_push_of_some _ e) (Heap.get?_push_size _ rfl) fun v h1 tk p1 k1 => ?_⟩
    exact q1 hn v h1 tk p1 fun b o z1 e => k1 b o z1 (Nat.ne_of_lt (Heap.lt_size e)) (Heap.get?_push_of_some _ e)
  · have hn : n = 0 := by omega
    refine wpAny_pure ⟨plainId_quiet (id := "max.loop") F.plain_max_loop _, maxK_none Wk s2.heap.objs.size nf hn (Wk.frame _ _ _ s0 fun b _ o e => Heap.get?_push_of_some _ e) (Heap.get?_push_size _ rfl) fun h1 tk k1 => ?_⟩
    exact q0 hn h1 tk fun b o z1 e => k1 b o z1 (Nat.ne_of_lt (Heap.lt_size e)) (Heap.get?_push_of_some _ e)
end
section
variable {X : Cx} {e ed : Expr} {ta : TA} {td : TE} {p pos kp : Pos}
def tminD (K : PySem.W.Frag) (ta : TA) (td : TE) : TE := fun σ H Q => ta σ H fun vs H1 => td σ H1 fun y H2 => ∃ (a : Addr) (ns : List Int) (d : Int), vs = [.ref a] ∧ y = .int d ∧ SqL K H2 a (ns.map V.int) ∧ (ns = [] → Q (.int d) H2) ∧ (ns ≠ [] → ∀ M, M ∈ ns → (∀ z ∈ ns, M ≤ z) → Q (.int M) H2)
theorem pe_minD (hc : X.calm = true) (hg : Gl X "min") (hm : X.mg "min" = none) (ha : PA X [e] ta) (hd : PE X ed td) (hst : isStar e = false := by rfl) :
    PE X (.Call (.Name "min" p) [e] [⟨some "default", ed, kp⟩] pos) (tminD X.K ta td) := by
  intro pins s σ H Q I h
  refine wpAny_Call_Name_kw (ld_blt I hg hm boot_min ?_)
  have hs : starEach [e] X.env = [(false, eval e X.env)] := starEach_plain hst
  refine callWith_kw (kws := [⟨some "default", ed, kp⟩]) (thn (ha pos pins s σ H _ I h) fun us s1 ⟨vs, H1, I1, r1, q1⟩ => kws_cons (thn (hd pins s1 σ H1 _ I1 q1) fun u s2 ⟨y, H2, I2, ry, q2⟩ => kws_nil ?_)) (by rw [hs]; rfl) (by rw [hs]; rfl) rfl rfl
  obtain ⟨a, ns, d, rfl, rfl, hq, z0, z1⟩ := q2
  obtain ⟨v, rfl, rv⟩ := vals1 r1
  cases rv
  obtain ⟨td', rfl⟩ := ry
  obtain ⟨its, rv, pl, hz⟩ := I2.list hq
  have hi : IntsAre its ns := intsAre_of rv
  obtain ⟨xs, ex⟩ := hi.allInts.items
  have hl : s2.heap.IsList a its.toArray := pl.isList
  have hns : ns = xs.toList.map (·.1) := by rw [← hi.numsOf, ← nums_intItems, ← ex]
  rw [ex] at hl
  show wpAny (model X.prog X.w) X.A (call (.builtin "min") [.ref a] [("default", .int d td')]) _ _ s2
  refine call_minK (iter_intList hl fun s3 e3 st hfp hlI => ?_)
  subst e3
  refine ⟨_, _, _, _, _, _, _, rfl, Walks.list (A := X.A.in1) (I2.ok.hd hc) _ a hlI (intItems xs), st, hfp, CmpOf.ints_lt (numAt xs) (fun _ _ => intItems_at), fun n0 v h' tk hP hk => ?_, fun n0 h' tk hk => ?_⟩
  · have hsz : 0 < xs.size := by simpa [intItems] using n0
    have hP : (intItems xs)[argBest (fun i j => decide (numAt xs i < numAt xs j)) (xs.size - 1)]? = some v := by simpa [intItems] using hP
    obtain ⟨t, rfl⟩ := intItems_at hP
    obtain ⟨h1, h2⟩ := argBest_lt (numAt xs) (xs.size - 1)
    have hne : ns ≠ [] := fun z => by
      have := congrArg List.length (hns.symm.trans z)
      rw [List.length_map, Array.length_toList] at this
      have h0 : xs.size = 0 := this
      omega
    refine ⟨.int _, H2, I2.kept (old_kept hk), ⟨t, rfl⟩, z1 hne _ ?_ fun z hz => ?_⟩
    · rw [hns, numAt_eq]
      exact getD_mem (by rw [List.length_map, Array.length_toList]; omega)
    · rw [hns] at hz
      obtain ⟨j, hj, rfl⟩ := mem_getD hz
      rw [List.length_map, Array.length_toList] at hj
      rw [← numAt_eq]
      exact h2 j (by omega)
  · have hsz : xs.size = 0 := by simpa [intItems] using n0
    have h0 : ns = [] := List.eq_nil_of_length_eq_zero (by rw [hns, List.length_map, Array.length_toList]; exact hsz)
    exact ⟨.int d, H2, I2.kept (old_kept hk), ⟨td', rfl⟩, z0 h0⟩
end
section
variable {X : Cx} {e ed : Expr} {ta : TA} {td : TE} {p pos kp : Pos}
def tmaxD (K : PySem.W.Frag) (ta : TA) (td : TE) : TE := fun σ H Q => ta σ H fun vs H1 => td σ H1 fun y H2 => ∃ (a : Addr) (ns : List Int) (d : Int), vs = [.ref a] ∧ y = .int d ∧ SqL K H2 a (ns.map V.int) ∧ (ns = [] → Q (.int d) H2) ∧ (ns ≠ [] → ∀ M, M ∈ ns → (∀ z ∈ ns, z ≤ M) → Q (.int M) H2)
theorem pe_maxD (hc : X.calm = true) (hg : Gl X "max") (hm : X.mg "max" = none) (ha : PA X [e] ta) (hd : PE X ed td) (hst : isStar e = false := by rfl) :
    PE X (.Call (.Name "max" p) [e] [⟨some "default", ed, kp⟩] pos) (tmaxD X.K ta td) := by
  intro pins s σ H Q I h
  refine wpAny_Call_Name_kw (ld_blt I hg hm boot_max ?_)
  have hs : starEach [e] X.env = [(false, eval e X.env)] := starEach_plain hst
  refine callWith_kw (kws := [⟨some "default", ed, kp⟩]) (thn (ha pos pins s σ H _ I h) fun us s1 ⟨vs, H1, I1, r1, q1⟩ => kws_cons (thn (hd pins s1 σ H1 _ I1 q1) fun u s2 ⟨y, H2, I2, ry, q2⟩ => kws_nil ?_)) (by rw [hs]; rfl) (by rw [hs]; rfl) rfl rfl
  obtain ⟨a, ns, d, rfl, rfl, hq, z0, z1⟩ := q2
  obtain ⟨v, rfl, rv⟩ := vals1 r1
  cases rv
  obtain ⟨td', rfl⟩ := ry
  obtain ⟨its, rv, pl, hz⟩ := I2.list hq
  have hi : IntsAre its ns := intsAre_of rv
  obtain ⟨xs, ex⟩ := hi.allInts.items
  have hl : s2.heap.IsList a its.toArray := pl.isList
  have hns : ns = xs.toList.map (·.1) := by rw [← hi.numsOf, ← nums_intItems, ← ex]
  rw [ex] at hl
  show wpAny (model X.prog X.w) X.A (call (.builtin "max") [.ref a] [("default", .int d td')]) _ _ s2
  refine call_maxK (iter_intList hl fun s3 e3 st hfp hlI => ?_)
  subst e3
  refine ⟨_, _, _, _, _, _, _, rfl, Walks.list (A := X.A.in1) (I2.ok.hd hc) _ a hlI (intItems xs), st, hfp, CmpOf.ints_gt (numAt xs) (fun _ _ => intItems_at), fun n0 v h' tk hP hk => ?_, fun n0 h' tk hk => ?_⟩
  · have hsz : 0 < xs.size := by simpa [intItems] using n0
    have hP : (intItems xs)[argBest (fun i j => decide (numAt xs i > numAt xs j)) (xs.size - 1)]? = some v := by simpa [intItems] using hP
    obtain ⟨t, rfl⟩ := intItems_at hP
    obtain ⟨h1, h2⟩ := argBest_gt (numAt xs) (xs.size - 1)
    have hne : ns ≠ [] := fun z => by
      have := congrArg List.length (hns.symm.trans z)
      rw [List.length_map, Array.length_toList] at this
      have h0 : xs.size = 0 := this
      omega
    refine ⟨.int _, H2, I2.kept (old_kept hk), ⟨t, rfl⟩, z1 hne _ ?_ fun z hz => ?_⟩
    · rw [hns, numAt_eq]
      exact getD_mem (by rw [List.length_map, Array.length_toList]; omega)
    · rw [hns] at hz
      obtain ⟨j, hj, rfl⟩ := mem_getD hz
      rw [List.length_map, Array.length_toList] at hj
      rw [← numAt_eq]
      exact h2 j (by omega)
  · have hsz : xs.size = 0 := by simpa [intItems] using n0
    have h0 : ns = [] := List.eq_nil_of_length_eq_zero (by rw [hns, List.length_map, Array.length_toList]; exact hsz)
    exact ⟨.int d, H2, I2.kept (old_kept hk), ⟨td', rfl⟩, z0 h0⟩
end
section
variable {X : Cx} {e es : Expr} {te ts : TE} {p2 pos : Pos}
def tRev (K : PySem.W.Frag) (te ts : TE) : TE := fun σ H Q => te σ H fun x H1 => ts σ H1 fun y H2 => y = .int (-1) ∧ ∃ (a : Addr) (xs : List V), x = .ref a ∧ SqL K H2 a xs ∧ ∀ q, H2 q = none → Q (.ref q) (upd H2 q (.lst xs.reverse))
theorem Vals.rev {xs : List V} {us : List Value} (r : Vals xs us) : Vals xs.reverse us.reverse := by
  induction r with
  | nil => exact .nil
  | cons r1 r2 ih =>
    rw [List.reverse_cons, List.reverse_cons]
    exact ih.append (.cons r1 .nil)
theorem pe_rev (he : PE X e te) (hs : PE X es ts) : PE X (.Subscript e (.Slice none none (some es) p2) pos) (tRev X.K te ts) := by
  intro pins s σ H Q I h
  refine Subscript_ (thn (he pins s σ H _ I h) fun v s1 ⟨x, H1, I1, r1, q1⟩ => ?_)
  refine wpAny_Slice (evalPart_none_step (evalPart_none_step (evalPart_some_step (thn (hs pins s1 σ H1 _ I1 q1) fun u s2 ⟨y, H2, I2, r2, q2⟩ => ?_))))
  obtain ⟨rfl, a, xs, rfl, hx, q⟩ := q2
  obtain ⟨t, rfl⟩ := r2
  cases r1
  have I4 : Inv X pins σ H2 { s2 with heap := s2.heap.push { cls := .type "slice", data := .fields #[.none, .none, .int (-1) t] } } := I2.kept (t' := s2.toks) fun b ob q => Heap.get?_push_of_some _ q
  obtain ⟨its, r, ht, hz⟩ := I4.list hx
  have hlen := r.length
  show wpAny (model X.prog X.w) X.A (subscriptTail e (.Slice none none (some es) p2) (.ref a) (.ref s2.heap.objs.size)) (EP X pins σ Q) X.xe { s2 with heap := s2.heap.push { cls := .type "slice", data := .fields #[.none, .none, .int (-1) t] } }
  refine tail_any (ops := [.ref a, .ref s2.heap.objs.size]) ht.isList.typeIs slot_list_getitem.lookup ?_ (by with_unfolding_all rfl)
  refine wpAny_getItem_list_slice ht.isList (Heap.IsSliceOf.new ..) .none .none (.int (-1) t) (by decide) ?_ (by rw [List.size_toArray] <;> omega)
  rw [PySem.W.krv_pick]
  refine ⟨.ref _, _, I4.laid (t' := s2.toks) (o := .lst xs.reverse) (fun b ob q => Heap.get?_push_of_some _ q) (Nat.le_refl _) ?_, rfl, q _ (I4.hok.fresh (Nat.le_refl _))⟩
  exact ⟨by rw [List.length_reverse]; exact hz, _, 0, Vals.rev r, Heap.get?_push_size _ rfl⟩
end
def plainV : V → Bool
  | .non => true
  | .bl _ => true
  | .int _ => true
  | .str _ => true
  | .ref _ => true
  | _ => false
theorem eq_selfV {A : Around} {s : Shared} {x : V} {u w' : Value} (r : RelV x u) (r' : RelV x w') (h : plainV x = true) : SeqAt.EqAt A s u w' true := by
  cases x with
  | ref a =>
    cases r
    cases r'
    exact SeqAt.EqAt.same _
  | non => have := eqAt_V (A := A) (s := s) r r' rfl rfl; exact this
  | bl b => have := eqAt_V (A := A) (s := s) r r' rfl rfl; rwa [show eqV (.bl b) (.bl b) = true from beq_self_eq_true b] at this
  | int i => have := eqAt_V (A := A) (s := s) r r' rfl rfl; rwa [show eqV (.int i) (.int i) = true from beq_self_eq_true i] at this
  | str z => have := eqAt_V (A := A) (s := s) r r' rfl rfl; rwa [show eqV (.str z) (.str z) = true from beq_self_eq_true z] at this
  | _ => cases h
theorem items_self {A : Around} {s : Shared} {xs : List V} {us ws : List Value} (r : Vals xs us) (r' : Vals xs ws) (fx : xs.all plainV = true) :
    ∀ j (h1 : j < us.toArray.size) (h2 : j < ws.toArray.size), SeqAt.EqAt A s us.toArray[j] ws.toArray[j] true := fun j h1 h2 => by
  have l1 := r.length
  have h1' : j < us.length := by simpa using h1
  have h2' : j < ws.length := by simpa using h2
  have e1 : xs[j]? = some (xs[j]'(by omega)) := List.getElem?_eq_getElem _
  obtain ⟨u, eu, ru⟩ := r.get e1
  obtain ⟨w', ew, rw'⟩ := r'.get e1
  have q1 : us.toArray[j] = u := by
    rw [List.getElem?_eq_getElem h1'] at eu
    simpa using Option.some.inj eu
  have q2 : ws.toArray[j] = w' := by
    rw [List.getElem?_eq_getElem h2'] at ew
    simpa using Option.some.inj ew
  rw [q1, q2]
  exact eq_selfV ru rw' (List.all_eq_true.mp fx _ (List.mem_of_getElem? e1))
section
variable {X : Cx}
def rNeSelf (K : PySem.W.Frag) : R2 := fun x y H Q => ∃ (a b : Addr) (xs : List V), x = .ref a ∧ y = .ref b ∧ SqL K H a xs ∧ SqL K H b xs ∧ xs.all plainV = true ∧ Q (.bl false) H
theorem op_neSelf (hu : X.A.units < cLine) : OpR X (compareOp .NotEq) (rNeSelf X.K) := by
  intro pins s σ H x y v u Q I rx ry h
  obtain ⟨a, b, xs, rfl, rfl, ha, hb, fx, q⟩ := h
  cases rx
  cases ry
  obtain ⟨its, r1, p1, _⟩ := I.list ha
  obtain ⟨its2, r2, p2, _⟩ := I.list hb
  have l1 := r1.length
  have l2 := r2.length
  refine PySem.EqBoolInt.of_rcne (SeqAt.RcNeAt.lists p1.isList p2.isList (by simp; omega) hu (items_self r1 r2 fx)) (fin_bl I q ?_)
  simp
end
section
variable {X : Cx} {e ed es : Expr} {ta : TA} {td te ts : TE} {p p2 pos kp : Pos}
theorem qe_minD (hc : X.calm = true) (hg : Gl X "min") (hm : X.mg "min" = none) (ha : QA X [e] ta) (hd : QE X ed td) (hst : isStar e = false := by rfl) : QE X (.Call (.Name "min" p) [e] [⟨some "default", ed, kp⟩] pos) (tminD X.K ta td) := ⟨pe_minD hc hg hm ha.p hd.p hst⟩
theorem qe_maxD (hc : X.calm = true) (hg : Gl X "max") (hm : X.mg "max" = none) (ha : QA X [e] ta) (hd : QE X ed td) (hst : isStar e = false := by rfl) : QE X (.Call (.Name "max" p) [e] [⟨some "default", ed, kp⟩] pos) (tmaxD X.K ta td) := ⟨pe_maxD hc hg hm ha.p hd.p hst⟩
theorem qe_rev (he : QE X e te) (hs : QE X es ts) : QE X (.Subscript e (.Slice none none (some es) p2) pos) (tRev X.K te ts) := ⟨pe_rev he.p hs.p⟩
theorem call_isinstK (K : PySem.W.Frag) (h : X.K = K) : CallR X (.builtin "isinstance") (fun xs H Q => ∃ x n t b, xs = [x, .ty n] ∧ TyOf K H x t ∧ PySem.W.kitOne K t (.type n) = some b ∧ Q (.bl b) H) := by
  subst h
  exact call_isinst
end
end L2
end
section
set_option Elab.async false
set_option linter.all false
set_option maxRecDepth 100000
namespace L2
open PySem PySem.Spec PyProof.Rows
section
variable {X : Cx}
theorem range_any_map (bs : List Bool) : (List.range bs.length).any (fun i => bs.getD i true) = bs.any id := by
  induction bs with
  | nil => rfl
  | cons b bs ih =>
    rw [List.length_cons, List.range_succ_eq_map, List.any_cons, List.any_map, List.any_cons, ← ih]
    rfl
theorem call_any_list (hc : X.A.handled = none) : CallR X (.builtin "any") (fun xs H Q => ∃ (p : Addr) (bs : List Bool), xs = [.ref p] ∧ SqL X.K H p (bs.map V.bl) ∧ Q (.bl (bs.any id)) H) := by
  intro pins s σ H xs us Q I r h
  obtain ⟨p, bs, rfl, hq, q⟩ := h
  obtain ⟨u, rfl, ru⟩ := vals1 r
  cases ru
  obtain ⟨its, rv, pl, hz⟩ := I.list hq
  have ei := vals_bools rv
  subst ei
  have hl : s.heap.IsList p (bs.map Value.bool).toArray := pl.isList
  have hne : p ≠ s.heap.objs.size := by
    obtain ⟨o, ho, _⟩ := hl
    exact Nat.ne_of_lt (Heap.lt_size ho)
  refine call_any_walk (wpAny_pyIter_list hl ?_)
  refine ⟨s.heap.objs.size, _, _, _, _, _, fun i => bs.getD i true, rfl, Walks.list (A := X.A.in1) hc _ p hne (bs.map Value.bool).toArray, ⟨⟨_, Heap.get?_push_size _ rfl, rfl, rfl⟩, ?_⟩, ?_, fun h' tk hk => ?_⟩
  · obtain ⟨o, ho, hr⟩ := hl
    exact ⟨o, Heap.get?_push_of_some _ ho, hr⟩
  · intro i v s' Q' E' hv hQ'
    have hv : (bs.map Value.bool).toArray[i]? = some v := hv
    rw [List.getElem?_toArray, List.getElem?_map] at hv
    cases eb : bs[i]? with
    | none => rw [eb] at hv; cases hv
    | some b =>
      rw [eb] at hv
      have : Value.bool b = v := Option.some.inj hv
      subst this
      have eg : bs.getD i true = b := by rw [List.getD_eq_getElem?_getD, eb]; rfl
      have hQ' : Q' (bs.getD i true) s' := hQ'
      rw [eg] at hQ'
      exact wpAny_truthy_bool hQ'
  · refine ⟨.bl (bs.any id), H, I.kept (t' := tk) fun b o e => hk b o (fun z => ?_) (Heap.get?_push_of_some _ e), ?_, q⟩
    · have z : b = s.heap.objs.size := by simpa using z
      exact absurd (Heap.lt_size e) (by rw [z]; exact Nat.lt_irrefl _)
    · show Value.bool _ = Value.bool _
      rw [← range_any_map bs]
      simp
theorem op_isB : OpR X (compareOp .Is) (fun x y H Q => ∃ a b, x = .bl a ∧ y = .bl b ∧ Q (.bl (decide (a = b))) H) := by
  intro pins s σ H x y v u Q I rx ry h
  obtain ⟨a, b, rfl, rfl, q⟩ := h
  cases rx
  cases ry
  refine wpAny_is_plain rfl (fin_bl I q ?_)
  cases a <;> cases b <;> rfl
def rNeT (K : PySem.W.Frag) : R2 := fun x y H Q => ∃ (a b : Addr) (xs ys : List V), x = .ref a ∧ y = .ref b ∧ SqT K H a xs ∧ SqT K H b ys ∧ xs.length = ys.length ∧ xs.all flatV = true ∧ ys.all flatV = true ∧ Q (.bl (!eqL xs ys)) H
theorem op_neT (hu : X.A.units < cLine) : OpR X (compareOp .NotEq) (rNeT X.K) := by
  intro pins s σ H x y v u Q I rx ry h
  obtain ⟨a, b, xs, ys, rfl, rfl, ha, hb, e, fx, fy, q⟩ := h
  cases rx
  cases ry
  obtain ⟨its, r1, p1, _⟩ := I.tuple ha
  obtain ⟨its2, r2, p2, _⟩ := I.tuple hb
  have l1 := r1.length
  have l2 := r2.length
  refine PySem.EqBoolInt.of_rcne (SeqAt.RcNeAt.tuples p1 p2 hu (items_eqAt r1 r2 fx fy)) (fin_bl I q ?_)
  rw [← eqL_range e]
  have e1 : its.toArray.size = xs.length := by simp [l1]
  have e2 : its2.toArray.size = xs.length := by simp [l2, e]
  rw [e1, e2, Nat.min_self, beq_self_eq_true, Bool.and_true]
def rEqSelf (K : PySem.W.Frag) : R2 := fun x y H Q => ∃ (a b : Addr) (xs : List V), x = .ref a ∧ y = .ref b ∧ SqL K H a xs ∧ SqL K H b xs ∧ xs.all plainV = true ∧ Q (.bl true) H
theorem op_eqSelf (hu : X.A.units < cLine) : OpR X (compareOp .Eq) (rEqSelf X.K) := by
  intro pins s σ H x y v u Q I rx ry h
  obtain ⟨a, b, xs, rfl, rfl, ha, hb, fx, q⟩ := h
  cases rx
  cases ry
  obtain ⟨its, r1, p1, _⟩ := I.list ha
  obtain ⟨its2, r2, p2, _⟩ := I.list hb
  have l1 := r1.length
  have l2 := r2.length
  refine SeqAt.eq_listAt p1.isList p2.isList (by simp; omega) hu (items_self r1 r2 fx) (fin_bl I q ?_)
  simp
def rNeN (K : PySem.W.Frag) : R2 := fun x y H Q => ∃ (a b : Addr) (xs : List V), x = .ref a ∧ y = .ref b ∧ SqL K H a xs ∧ SqL K H b [] ∧ Q (.bl (!xs.isEmpty)) H
theorem op_neN (hu : X.A.units < cLine) : OpR X (compareOp .NotEq) (rNeN X.K) := by
  intro pins s σ H x y v u Q I rx ry h
  obtain ⟨a, b, xs, rfl, rfl, ha, hb, q⟩ := h
  cases rx
  cases ry
  obtain ⟨its, r1, p1, _⟩ := I.list ha
  obtain ⟨its2, r2, p2, _⟩ := I.list hb
  have l1 := r1.length
  have l2 := r2.length
  cases xs with
  | nil =>
    have l1 : its.length = 0 := l1.symm
    have l2 : its2.length = 0 := l2.symm
    refine PySem.EqBoolInt.of_rcne (SeqAt.RcNeAt.lists p1.isList p2.isList (by simp; omega) hu (items_eqAt r1 r2 rfl rfl)) (fin_bl I q ?_)
    simp [l1]
  | cons z zs =>
    refine PySem.EqBoolInt.of_rcne (SeqAt.RcNeAt.lists_lengths p1.isList p2.isList (by simp at l1 l2; simp; omega) hu) (fin_bl I q ?_)
    rfl
theorem qg_tupK (K : PySem.W.Frag) (n : Nat) {pos : Pos} {es : List Expr} {k : Nat} {t : TGs} (hK : X.K = K) (hc : X.calm = true) (h : QGs X es t) (hn : (assignEach es X.env).length = n) (hst : (assignEach es X.env).findIdx? (·.1) = none) : QG X (.Tuple es k pos) (gTup K n t) := by
  subst hK
  exact qg_tup hc h hn hst
theorem ix_tupKK (K : PySem.W.Frag) (h : X.K = K) : IxR X (rIxT K) := by
  subst h
  exact ix_tup
end
end L2
end
section
set_option Elab.async false
set_option linter.all false
set_option maxRecDepth 100000
namespace Srt
open PySem PySem.W PyProof.Rows
def run {α : Type} (lt : Nat → Nat → Bool) : KasT α → α
  | .ret a => a
  | .ask i j k => run lt (k (lt i j))
def Al {α : Type} (n : Nat) (P : α → Prop) : KasT α → Prop
  | .ret a => P a
  | .ask i j k => i < n ∧ j < n ∧ ∀ b, Al n P (k b)
theorem run_bind {α β : Type} {lt : Nat → Nat → Bool} {f : α → KasT β} : ∀ t : KasT α, run lt (t.bind f) = run lt (f (run lt t))
  | .ret a => rfl
  | .ask i j k => run_bind (k (lt i j))
theorem al_bind {α β : Type} {n : Nat} {f : α → KasT β} {P : α → Prop} {R : β → Prop} (hf : ∀ a, P a → Al n R (f a)) : ∀ t : KasT α, Al n P t → Al n R (t.bind f)
  | .ret a, h => hf a h
  | .ask i j k, h => ⟨h.1, h.2.1, fun b => al_bind hf (k b) (h.2.2 b)⟩
theorem al_run {α : Type} {n : Nat} {P : α → Prop} (lt : Nat → Nat → Bool) : ∀ t : KasT α, Al n P t → P (run lt t)
  | .ret a, h => h
  | .ask i j k, h => al_run lt (k (lt i j)) (h.2.2 _)
theorem wp_of_run {α : Type} {lt : Nat → Nat → Bool} {n : Nat} {cmp : Nat → Nat → (Bool → Shared → Prop) → Shared → Prop} {P : α → Prop} {Q : α → Shared → Prop} {s : Shared} (hc : ∀ i j C, i < n → j < n → C (lt i j) s → cmp i j C s) :
    ∀ t : KasT α, Al n P t → Q (run lt t) s → t.kasWp cmp Q s
  | .ret a, _, h => h
  | .ask i j k, hi, h => hc i j _ hi.1 hi.2.1 (wp_of_run hc (k (lt i j)) (hi.2.2 _) h)
abbrev g (p : Array Nat) (k : Nat) : Nat := p.getD k 0
theorem g_of {p q : Array Nat} {i j : Nat} (h : p[i]? = q[j]?) : g p i = g q j := by
  unfold g
  rw [Array.getD_eq_getD_getElem?, Array.getD_eq_getD_getElem?, h]
theorem g_bubble {p : Array Nat} {src d : Nat} (hs : src < p.size) (hd : d ≤ src) (k : Nat) : g (bubble p src d) k = if k = src - d then g p src else if src - d < k ∧ k ≤ src then g p (k - 1) else g p k := by
  have e := getElem?_bubble hs d hd k
  by_cases h1 : k = src - d
  · rw [if_pos h1] at e ⊢; exact g_of e
  · rw [if_neg h1] at e ⊢
    by_cases h2 : src - d < k ∧ k ≤ src
    · rw [if_pos h2] at e ⊢; exact g_of e
    · rw [if_neg h2] at e ⊢; exact g_of e
theorem g_rev {p : Array Nat} {i j : Nat} (hj : j ≤ p.size) (k : Nat) : g (kas_rev p i j) k = if i ≤ k ∧ k < j then g p (i + j - 1 - k) else g p k := by
  have e := getElem?_mirror_all (i := i) hj k
  by_cases h1 : i ≤ k ∧ k < j
  · rw [if_pos h1] at e ⊢; exact g_of e
  · rw [if_neg h1] at e ⊢; exact g_of e
def Pm (n : Nat) (p : Array Nat) : Prop := p.Perm (List.toArray (List.range n))
theorem Pm.size {n : Nat} {p : Array Nat} (h : Pm n p) : p.size = n := by
  have := h.size_eq
  simpa using this
theorem Pm.lt {n : Nat} {p : Array Nat} (h : Pm n p) (n0 : 0 < n) (k : Nat) : g p k < n := by
  unfold g
  rw [Array.getD_eq_getD_getElem?]
  by_cases z : k < p.size
  · rw [Array.getElem?_eq_getElem z]
    have m : p[k] ∈ p := Array.getElem_mem z
    have := (h.mem_iff).mp m
    simpa using this
  · rw [Array.getElem?_eq_none (by omega)]
    exact n0
theorem Pm.rev {n : Nat} {p : Array Nat} (h : Pm n p) (i j : Nat) : Pm n (kas_rev p i j) := (mirror_perm p i j _).trans h
theorem Pm.bub {n : Nat} {p : Array Nat} (h : Pm n p) (i j : Nat) : Pm n (bubble p i j) := (bubble_perm p i j).trans h
theorem al_mono {α : Type} {n : Nat} {P R : α → Prop} (h : ∀ a, P a → R a) : ∀ t : KasT α, Al n P t → Al n R t
  | .ret a, z => h a z
  | .ask i j k, z => ⟨z.1, z.2.1, fun b => al_mono h (k b) (z.2.2 b)⟩
section
variable {n : Nat} (n0 : 0 < n)
include n0
theorem asc_al {p : Array Nat} (hp : Pm n p) : ∀ f m, Al n (fun r => m ≤ r ∧ r ≤ m + f) (kas_asc p f m)
  | 0, m => ⟨Nat.le_refl _, Nat.le_refl _⟩
  | f + 1, m => by
    refine ⟨hp.lt n0 _, hp.lt n0 _, fun b => ?_⟩
    cases b with
    | true => exact ⟨Nat.le_refl _, by omega⟩
    | false => exact al_mono (fun r h => by omega) _ (asc_al hp f (m + 1))
theorem desc_al : ∀ f (p : Array Nat) m q, Pm n p → q + 1 ≤ m → Al n (fun r => Pm n r.1 ∧ m ≤ r.2.1 ∧ r.2.1 ≤ m + f ∧ r.2.2 + 1 ≤ r.2.1) (kas_desc f p m q)
  | 0, p, m, q, hp, hq => ⟨hp, Nat.le_refl _, Nat.le_refl _, hq⟩
  | f + 1, p, m, q, hp, hq => by
    refine ⟨hp.lt n0 _, hp.lt n0 _, fun b => ?_⟩
    cases b with
    | true =>
      show Al n _ (if q > 0 then kas_desc f (kas_rev p (m - (q + 1)) m) (m + 1) 0 else kas_desc f p (m + 1) 0)
      by_cases z : q > 0
      · rw [if_pos z]
        exact al_mono (fun r (h : Pm n r.1 ∧ m + 1 ≤ r.2.1 ∧ r.2.1 ≤ m + 1 + f ∧ r.2.2 + 1 ≤ r.2.1) => ⟨h.1, by omega, by omega, h.2.2.2⟩) _ (desc_al f _ (m + 1) 0 (hp.rev _ _) (by omega))
      · rw [if_neg z]
        exact al_mono (fun r (h : Pm n r.1 ∧ m + 1 ≤ r.2.1 ∧ r.2.1 ≤ m + 1 + f ∧ r.2.2 + 1 ≤ r.2.1) => ⟨h.1, by omega, by omega, h.2.2.2⟩) _ (desc_al f _ (m + 1) 0 hp (by omega))
    | false =>
      refine ⟨hp.lt n0 _, hp.lt n0 _, fun d => ?_⟩
      cases d with
      | true => exact ⟨hp, Nat.le_refl _, by show m ≤ m + (f + 1); omega, hq⟩
      | false => exact al_mono (fun r (h : Pm n r.1 ∧ m + 1 ≤ r.2.1 ∧ r.2.1 ≤ m + 1 + f ∧ r.2.2 + 1 ≤ r.2.1) => ⟨h.1, by omega, by omega, h.2.2.2⟩) _ (desc_al f _ (m + 1) (q + 1) hp (by omega))
theorem tail3_al {p : Array Nat} {m nrem : Nat} (hp : Pm n p) (hm : m ≤ nrem) : Al n (fun r => Pm n r.2 ∧ m ≤ r.1 ∧ r.1 ≤ nrem) (kas_tail3 m nrem p) := by
  unfold kas_tail3
  refine al_bind (fun a (h : m ≤ a ∧ a ≤ m + (nrem - m)) => ?_) _ (asc_al n0 (hp.rev 0 m) _ _)
  exact ⟨hp.rev _ _, h.1, by show a ≤ nrem; omega⟩
theorem descPart_al {p : Array Nat} {m nrem : Nat} (hp : Pm n p) (hm : m + 1 ≤ nrem) : Al n (fun r => Pm n r.2 ∧ m ≤ r.1 ∧ r.1 ≤ nrem) (kas_descPart m nrem p) := by
  unfold kas_descPart
  refine al_bind (fun r h => ?_) _ (desc_al n0 (nrem - (m + 1)) p (m + 1) 0 hp (by omega))
  by_cases z : r.2.2 > 0
  · rw [if_pos z]
    exact al_mono (fun _ q => ⟨q.1, by omega, q.2.2⟩) _ (tail3_al n0 (h.1.rev _ _) (by omega))
  · rw [if_neg z]
    exact al_mono (fun _ q => ⟨q.1, by omega, q.2.2⟩) _ (tail3_al n0 h.1 (by omega))
theorem count_al {p : Array Nat} {nrem : Nat} (hp : Pm n p) (h1 : 1 ≤ nrem) : Al n (fun r => Pm n r.2 ∧ 1 ≤ r.1 ∧ r.1 ≤ nrem) (kas_count nrem p) := by
  unfold kas_count
  refine al_bind (fun m h => ?_) _ (asc_al n0 hp (nrem - 1) 1)
  by_cases z : (m == nrem) = true
  · rw [if_pos z]
    exact ⟨hp, h.1, by omega⟩
  · rw [if_neg z]
    have z' : m ≠ nrem := fun e => z (by rw [e]; exact beq_self_eq_true _)
    by_cases y : m > 1
    · rw [if_pos y]
      refine ⟨hp.lt n0 _, hp.lt n0 _, fun c => ?_⟩
      cases c with
      | true => exact ⟨hp, h.1, by omega⟩
      | false => exact al_mono (fun _ q => ⟨q.1, by omega, q.2.2⟩) _ (descPart_al n0 (hp.rev 0 m) (by omega))
    · rw [if_neg y]
      exact al_mono (fun _ q => ⟨q.1, by omega, q.2.2⟩) _ (descPart_al n0 hp (by omega))
theorem place_al {p : Array Nat} {k : Nat} (hp : Pm n p) : ∀ f l r, l ≤ r → Al n (fun x => l ≤ x ∧ x ≤ r) (kas_place p k f l r)
  | 0, l, r, h => ⟨Nat.le_refl _, h⟩
  | f + 1, l, r, h => by
    show Al n _ (if l ≥ r then KasT.ret l else _)
    by_cases z : l ≥ r
    · rw [if_pos z]
      exact ⟨Nat.le_refl _, h⟩
    · rw [if_neg z]
      refine ⟨hp.lt n0 _, hp.lt n0 _, fun c => ?_⟩
      cases c with
      | true => exact al_mono (fun x q => by omega) _ (place_al hp f l ((l + r) / 2) (by omega))
      | false => exact al_mono (fun x q => by omega) _ (place_al hp f ((l + r) / 2 + 1) r (by omega))
theorem bin_al : ∀ f (p : Array Nat) k, Pm n p → Al n (Pm n) (kas_bin f p k)
  | 0, p, k, hp => hp
  | f + 1, p, k, hp => al_bind (fun l _ => bin_al f _ _ (hp.bub _ _)) _ (place_al n0 hp k 0 k (Nat.zero_le _))
theorem sort_al : Al n (Pm n) (kas_sort n) := by
  unfold kas_sort
  refine al_bind (fun r h => ?_) _ (count_al n0 (p := List.toArray (List.range n)) (Array.Perm.refl _) n0)
  by_cases z : r.1 < n
  · rw [if_pos z]
    exact bin_al n0 _ _ _ h.1
  · rw [if_neg z]
    exact h.1
end
structure Ord (lt : Nat → Nat → Bool) : Prop where
  asym : ∀ a b, lt a b = true → lt b a = false
  tr : ∀ a b c, lt b a = false → lt c b = false → lt c a = false
variable {lt : Nat → Nat → Bool}
def SB (lt : Nat → Nat → Bool) (p : Array Nat) (m : Nat) : Prop := ∀ i j, i ≤ j → j < m → lt (g p j) (g p i) = false
def NI (lt : Nat → Nat → Bool) (p : Array Nat) (m : Nat) : Prop := ∀ i j, i ≤ j → j < m → lt (g p i) (g p j) = false
theorem Ord.irr (O : Ord lt) (a : Nat) : lt a a = false := by
  cases e : lt a a with
  | false => rfl
  | true => rw [O.asym a a e] at e; cases e
theorem SB.one (O : Ord lt) (p : Array Nat) : SB lt p 1 := fun i j h1 h2 => by
  have e1 : i = 0 := by omega
  have e2 : j = 0 := by omega
  rw [e1, e2]
  exact O.irr _
theorem SB.snoc (O : Ord lt) {p : Array Nat} {m : Nat} (h : SB lt p m) (m1 : 1 ≤ m) (e : lt (g p m) (g p (m - 1)) = false) : SB lt p (m + 1) := fun i j h1 h2 => by
  by_cases z : j = m
  · by_cases y : i = m
    · rw [z, y]; exact O.irr _
    · rw [z]
      exact O.tr _ _ _ (h i (m - 1) (by omega) (by omega)) e
  · exact h i j h1 (by omega)
theorem NI.snoc (O : Ord lt) {p : Array Nat} {m : Nat} (h : NI lt p m) (m1 : 1 ≤ m) (e : lt (g p (m - 1)) (g p m) = false) : NI lt p (m + 1) := fun i j h1 h2 => by
  by_cases z : j = m
  · by_cases y : i = m
    · rw [z, y]; exact O.irr _
    · rw [z]
      exact O.tr _ _ _ e (h i (m - 1) (by omega) (by omega))
  · exact h i j h1 (by omega)
def Eqv (lt : Nat → Nat → Bool) (a b : Nat) : Prop := lt a b = false ∧ lt b a = false
theorem NI.congr (O : Ord lt) {p q : Array Nat} {m : Nat} (h : NI lt p m) (e : ∀ k, k < m → Eqv lt (g p k) (g q k)) : NI lt q m := fun i j h1 h2 =>
  O.tr _ _ _ (O.tr _ _ _ (e j h2).1 (h i j h1 h2)) (e i (by omega)).2
theorem asc_ok (O : Ord lt) {p : Array Nat} : ∀ f m, 1 ≤ m → SB lt p m → SB lt p (run lt (kas_asc p f m)) ∧ (run lt (kas_asc p f m) = m + f ∨ lt (g p (run lt (kas_asc p f m))) (g p (run lt (kas_asc p f m) - 1)) = true)
  | 0, m, _, h => ⟨h, .inl rfl⟩
  | f + 1, m, h1, h => by
    show SB lt p (run lt (if lt (g p m) (g p (m - 1)) = true then KasT.ret m else kas_asc p f (m + 1))) ∧ (run lt (if lt (g p m) (g p (m - 1)) = true then KasT.ret m else kas_asc p f (m + 1)) = _ ∨ lt (g p (run lt (if lt (g p m) (g p (m - 1)) = true then KasT.ret m else kas_asc p f (m + 1)))) (g p (run lt (if lt (g p m) (g p (m - 1)) = true then KasT.ret m else kas_asc p f (m + 1)) - 1)) = true)
    by_cases e : lt (g p m) (g p (m - 1)) = true
    · rw [if_pos e]
      exact ⟨h, .inr e⟩
    · rw [if_neg e]
      obtain ⟨a, b⟩ := asc_ok O f (m + 1) (by omega) (h.snoc O h1 (Bool.eq_false_iff.mpr e))
      refine ⟨a, ?_⟩
      rcases b with b | b
      · exact .inl (by rw [b]; omega)
      · exact .inr b
def Lk (lt : Nat → Nat → Bool) (p : Array Nat) (m q : Nat) : Prop := ∀ k, m - (q + 1) ≤ k → k < m → Eqv lt (g p k) (g p (m - 1))
theorem Eqv.symm {a b : Nat} (h : Eqv lt a b) : Eqv lt b a := ⟨h.2, h.1⟩
theorem Eqv.trans (O : Ord lt) {a b c : Nat} (h : Eqv lt a b) (h' : Eqv lt b c) : Eqv lt a c := ⟨O.tr _ _ _ h'.1 h.1, O.tr _ _ _ h.2 h'.2⟩
theorem rev_eqv (O : Ord lt) {p : Array Nat} {m q : Nat} (hm : m ≤ p.size) (hq : q + 1 ≤ m) (h : Lk lt p m q) (k : Nat) : Eqv lt (g p k) (g (kas_rev p (m - (q + 1)) m) k) := by
  rw [g_rev hm]
  by_cases z : m - (q + 1) ≤ k ∧ k < m
  · rw [if_pos z]
    exact (h k z.1 z.2).trans O (h _ (by omega) (by omega)).symm
  · rw [if_neg z]
    exact ⟨O.irr _, O.irr _⟩
theorem desc_ok (O : Ord lt) : ∀ f (p : Array Nat) m q, m + f ≤ p.size → q + 1 ≤ m → NI lt p m → Lk lt p m q →
    NI lt (run lt (kas_desc f p m q)).1 (run lt (kas_desc f p m q)).2.1 ∧ Lk lt (run lt (kas_desc f p m q)).1 (run lt (kas_desc f p m q)).2.1 (run lt (kas_desc f p m q)).2.2
  | 0, p, m, q, _, _, h, l => ⟨h, l⟩
  | f + 1, p, m, q, hs, hq, h, l => by
    have one : ∀ (p' : Array Nat), Lk lt p' (m + 1) 0 := fun p' k k1 k2 => by
      have e : k = m := by omega
      rw [e]
      exact ⟨O.irr _, O.irr _⟩
    by_cases e : lt (g p m) (g p (m - 1)) = true
    · have hh : NI lt p (m + 1) := h.snoc O (by omega) (O.asym _ _ e)
      by_cases z : q > 0
      · have er : run lt (kas_desc (f + 1) p m q) = run lt (kas_desc f (kas_rev p (m - (q + 1)) m) (m + 1) 0) := by
          show run lt (if lt (g p m) (g p (m - 1)) = true then (if q > 0 then kas_desc f (kas_rev p (m - (q + 1)) m) (m + 1) 0 else kas_desc f p (m + 1) 0) else _) = _
          rw [if_pos e, if_pos z]
        rw [er]
        exact desc_ok O f _ (m + 1) 0 (by rw [kas_rev_size]; omega) (by omega) (hh.congr O fun k _ => rev_eqv O (by omega) hq l k) (one _)
      · have er : run lt (kas_desc (f + 1) p m q) = run lt (kas_desc f p (m + 1) 0) := by
          show run lt (if lt (g p m) (g p (m - 1)) = true then (if q > 0 then kas_desc f (kas_rev p (m - (q + 1)) m) (m + 1) 0 else kas_desc f p (m + 1) 0) else _) = _
          rw [if_pos e, if_neg z]
        rw [er]
        exact desc_ok O f _ (m + 1) 0 (by omega) (by omega) hh (one _)
    · have e0 := Bool.eq_false_iff.mpr e
      by_cases d : lt (g p (m - 1)) (g p m) = true
      · have er : run lt (kas_desc (f + 1) p m q) = (p, m, q) := by
          show run lt (if lt (g p m) (g p (m - 1)) = true then _ else KasT.ask (g p (m - 1)) (g p m) fun d => if d = true then KasT.ret (p, m, q) else kas_desc f p (m + 1) (q + 1)) = _
          rw [if_neg e]
          show run lt (if lt (g p (m - 1)) (g p m) = true then KasT.ret (p, m, q) else kas_desc f p (m + 1) (q + 1)) = _
          rw [if_pos d]
          rfl
        rw [er]
        exact ⟨h, l⟩
      · have er : run lt (kas_desc (f + 1) p m q) = run lt (kas_desc f p (m + 1) (q + 1)) := by
          show run lt (if lt (g p m) (g p (m - 1)) = true then _ else KasT.ask (g p (m - 1)) (g p m) fun d => if d = true then KasT.ret (p, m, q) else kas_desc f p (m + 1) (q + 1)) = _
          rw [if_neg e]
          show run lt (if lt (g p (m - 1)) (g p m) = true then KasT.ret (p, m, q) else kas_desc f p (m + 1) (q + 1)) = _
          rw [if_neg d]
        rw [er]
        have d0 := Bool.eq_false_iff.mpr d
        refine desc_ok O f p (m + 1) (q + 1) (by omega) (by omega) (h.snoc O (by omega) d0) fun k k1 k2 => ?_
        show Eqv lt (g p k) (g p m)
        by_cases z : k = m
        · rw [z]; exact ⟨O.irr _, O.irr _⟩
        · exact (l k (by omega) (by omega)).trans O ⟨d0, e0⟩
theorem rev_sb {p : Array Nat} {m : Nat} (hm : m ≤ p.size) (h : NI lt p m) : SB lt (kas_rev p 0 m) m := fun i j h1 h2 => by
  rw [g_rev hm, g_rev hm, if_pos ⟨Nat.zero_le _, h2⟩, if_pos ⟨Nat.zero_le _, by omega⟩]
  exact h _ _ (by omega) (by omega)
theorem tail3_ok (O : Ord lt) {p : Array Nat} {m nrem : Nat} (m1 : 1 ≤ m) (hm : m ≤ p.size) (h : NI lt p m) : SB lt (run lt (kas_tail3 m nrem p)).2 (run lt (kas_tail3 m nrem p)).1 := by
  unfold kas_tail3
  rw [run_bind]
  exact (asc_ok O _ _ m1 (rev_sb hm h)).1
theorem descPart_ok (O : Ord lt) {n : Nat} (n0 : 0 < n) {p : Array Nat} (hp : Pm n p) {m : Nat} (m1 : 1 ≤ m) (hm : m + 1 ≤ n) (h : NI lt p m) (e : lt (g p m) (g p (m - 1)) = true) : SB lt (run lt (kas_descPart m n p)).2 (run lt (kas_descPart m n p)).1 := by
  unfold kas_descPart
  rw [run_bind]
  have ps := hp.size
  obtain ⟨a, b⟩ := desc_ok O (n - (m + 1)) p (m + 1) 0 (by omega) (by omega) (h.snoc O m1 (O.asym _ _ e)) (fun k k1 k2 => by
    have e : k = m := by omega
    rw [e]
    exact ⟨O.irr _, O.irr _⟩)
  obtain ⟨c1, c2, c3, c4⟩ := al_run lt _ (desc_al n0 (n - (m + 1)) p (m + 1) 0 hp (by omega))
  generalize run lt (kas_desc (n - (m + 1)) p (m + 1) 0) = r at *
  have rs := c1.size
  by_cases z : r.2.2 > 0
  · rw [if_pos z]
    exact tail3_ok O (by omega) (by rw [kas_rev_size]; omega) (a.congr O fun k _ => rev_eqv O (by omega) c4 b k)
  · rw [if_neg z]
    exact tail3_ok O (by omega) (by omega) a
theorem count_ok (O : Ord lt) {n : Nat} (n0 : 0 < n) {p : Array Nat} (hp : Pm n p) : SB lt (run lt (kas_count n p)).2 (run lt (kas_count n p)).1 := by
  unfold kas_count
  rw [run_bind]
  have ps := hp.size
  obtain ⟨a, b⟩ := asc_ok O (p := p) (n - 1) 1 (Nat.le_refl _) (SB.one O p)
  have c := al_run lt _ (asc_al n0 hp (n - 1) 1)
  generalize run lt (kas_asc p (n - 1) 1) = m at *
  by_cases z : (m == n) = true
  · rw [if_pos z]
    exact a
  · rw [if_neg z]
    have z' : m ≠ n := fun e => z (by rw [e]; exact beq_self_eq_true _)
    have e : lt (g p m) (g p (m - 1)) = true := b.resolve_left (by omega)
    by_cases y : m > 1
    · rw [if_pos y]
      show SB lt (run lt (if lt (g p 0) (g p (m - 1)) = true then KasT.ret (m, p) else kas_descPart m n (kas_rev p 0 m))).2 (run lt (if lt (g p 0) (g p (m - 1)) = true then KasT.ret (m, p) else kas_descPart m n (kas_rev p 0 m))).1
      by_cases d : lt (g p 0) (g p (m - 1)) = true
      · rw [if_pos d]
        exact a
      · rw [if_neg d]
        have d0 := Bool.eq_false_iff.mpr d
        have al : ∀ k, k < m → Eqv lt (g p k) (g p (m - 1)) := fun k hk => ⟨O.tr _ _ _ d0 (by
          exact a 0 k (Nat.zero_le _) hk), a k (m - 1) (by omega) (by omega)⟩
        refine descPart_ok O n0 (hp.rev 0 m) (by omega) (by omega) ?_ ?_
        · intro i j h1 h2
          rw [g_rev (by omega), g_rev (by omega), if_pos ⟨Nat.zero_le _, by omega⟩, if_pos ⟨Nat.zero_le _, h2⟩]
          exact ((al _ (by omega)).trans O (al _ (by omega)).symm).1
        · rw [g_rev (by omega), g_rev (by omega), if_neg (by omega), if_pos ⟨Nat.zero_le _, by omega⟩]
          have e0 : 0 + m - 1 - (m - 1) = 0 := by omega
          rw [e0]
          cases q : lt (g p m) (g p 0) with
          | true => rfl
          | false => rw [O.tr _ _ _ d0 q] at e; cases e
    · rw [if_neg y]
      have e1 : m = 1 := by omega
      refine descPart_ok O n0 hp (by omega) (by omega) ?_ e
      intro i j h1 h2
      have i0 : i = 0 := by omega
      have j0 : j = 0 := by omega
      rw [i0, j0]
      exact O.irr _
theorem place_ok (O : Ord lt) {p : Array Nat} {k : Nat} (hs : SB lt p k) : ∀ f l r, l ≤ r → r ≤ k → r - l ≤ f → (∀ i, i < l → lt (g p k) (g p i) = false) → (∀ i, r ≤ i → i < k → lt (g p k) (g p i) = true) →
    (∀ i, i < run lt (kas_place p k f l r) → lt (g p k) (g p i) = false) ∧ (∀ i, run lt (kas_place p k f l r) ≤ i → i < k → lt (g p k) (g p i) = true)
  | 0, l, r, h1, h2, h3, a, b => ⟨a, fun i i1 i2 => b i (by have : l ≤ i := i1; omega) i2⟩
  | f + 1, l, r, h1, h2, h3, a, b => by
    by_cases z : l ≥ r
    · have er : run lt (kas_place p k (f + 1) l r) = l := by
        show run lt (if l ≥ r then KasT.ret l else _) = l
        rw [if_pos z]
        rfl
      rw [er]
      exact ⟨a, fun i i1 i2 => b i (by omega) i2⟩
    · by_cases c : lt (g p k) (g p ((l + r) / 2)) = true
      · have er : run lt (kas_place p k (f + 1) l r) = run lt (kas_place p k f l ((l + r) / 2)) := by
          show run lt (if l ≥ r then KasT.ret l else _) = _
          rw [if_neg z]
          show run lt (if lt (g p k) (g p ((l + r) / 2)) = true then _ else _) = _
          rw [if_pos c]
        rw [er]
        refine place_ok O hs f l ((l + r) / 2) (by omega) (by omega) (by omega) a fun i i1 i2 => ?_
        cases q : lt (g p k) (g p i) with
        | true => rfl
        | false => rw [O.tr _ _ _ (hs _ i i1 i2) q] at c; cases c
      · have er : run lt (kas_place p k (f + 1) l r) = run lt (kas_place p k f ((l + r) / 2 + 1) r) := by
          show run lt (if l ≥ r then KasT.ret l else _) = _
          rw [if_neg z]
          show run lt (if lt (g p k) (g p ((l + r) / 2)) = true then _ else _) = _
          rw [if_neg c]
        rw [er]
        refine place_ok O hs f ((l + r) / 2 + 1) r (by omega) (by omega) (by omega) (fun i i1 => ?_) b
        exact O.tr _ _ _ (hs i ((l + r) / 2) (by omega) (by omega)) (Bool.eq_false_iff.mpr c)
theorem bin_ok (O : Ord lt) {n : Nat} (n0 : 0 < n) : ∀ f (p : Array Nat) k, Pm n p → k + f = n → SB lt p k → SB lt (run lt (kas_bin f p k)) n
  | 0, p, k, _, e, h => by
    have e : k = n := e
    rw [e] at h
    exact h
  | f + 1, p, k, hp, e, h => by
    have er : run lt (kas_bin (f + 1) p k) = run lt (kas_bin f (bubble p k (k - run lt (kas_place p k k 0 k))) (k + 1)) := run_bind _
    rw [er]
    obtain ⟨a, b⟩ := place_ok O h k 0 k (Nat.zero_le _) (Nat.le_refl _) (by omega) (fun i z => absurd z (Nat.not_lt_zero _)) (fun i i1 i2 => by omega)
    have c := al_run lt _ (place_al n0 hp (k := k) k 0 k (Nat.zero_le _))
    generalize run lt (kas_place p k k 0 k) = l at *
    have ps := hp.size
    refine bin_ok O n0 f _ (k + 1) (hp.bub _ _) (by omega) fun i j h1 h2 => ?_
    have el : k - (k - l) = l := by omega
    rw [g_bubble (by omega) (by omega), g_bubble (by omega) (by omega), el]
    by_cases j1 : j = l
    · rw [if_pos j1]
      by_cases i1 : i = l
      · rw [if_pos i1]; exact O.irr _
      · rw [if_neg i1, if_neg (by omega)]
        exact a i (by omega)
    · rw [if_neg j1]
      by_cases j2 : l < j ∧ j ≤ k
      · rw [if_pos j2]
        by_cases i1 : i = l
        · rw [if_pos i1]
          exact O.asym _ _ (b (j - 1) (by omega) (by omega))
        · rw [if_neg i1]
          by_cases i2 : l < i ∧ i ≤ k
          · rw [if_pos i2]
            exact h _ _ (by omega) (by omega)
          · rw [if_neg i2]
            exact h _ _ (by omega) (by omega)
      · rw [if_neg j2, if_neg (by omega), if_neg (by omega)]
        exact h _ _ h1 (by omega)
theorem sort_ok (O : Ord lt) {n : Nat} (n0 : 0 < n) : SB lt (run lt (kas_sort n)) n := by
  unfold kas_sort
  rw [run_bind]
  have a := count_ok O n0 (p := List.toArray (List.range n)) (Array.Perm.refl _)
  obtain ⟨b1, b2, b3⟩ := al_run lt _ (count_al n0 (p := List.toArray (List.range n)) (Array.Perm.refl _) n0)
  generalize run lt (kas_count n (List.toArray (List.range n))) = r at *
  by_cases z : r.1 < n
  · rw [if_pos z]
    have em : max r.1 1 = r.1 := by omega
    rw [em]
    exact bin_ok O n0 _ _ _ b1 (by omega) a
  · rw [if_neg z]
    have e : r.1 = n := by omega
    rw [e] at a
    exact a
end Srt
end
section
set_option Elab.async false
set_option linter.all false
set_option maxRecDepth 100000
set_option maxHeartbeats 2000000
namespace L2
open PySem PySem.Spec PyProof.Rows PySem.W
theorem ns_inj {h : Heap} {a : Addr} {m m' : Str → Option Value} (x : h.Ns a m) (y : h.Ns a m') : m = m' := by
  obtain ⟨o, es, ep, e, d, _, f⟩ := x
  obtain ⟨o', es', ep', e', d', _, f'⟩ := y
  rw [e] at e'; cases e'
  rw [d] at d'; cases d'
  funext n
  rw [← f n, ← f' n]
section
variable {X : Cx} {pins : List (Addr × Obj)} {σ : St} {H : Hp} {s : Shared}
section
variable {H' : Hp} {h' : Heap}
theorem Inv.stepN {g' : Array GenState} {t' : Nat} {d' : Drawn} {ch : List Addr} (I : Inv X pins σ H s)
    (hch : ∀ b ∈ ch, (b ∈ X.ex ∨ X.s₀.heap.get? b = none) ∧ b ≠ X.env.locals ∧ (∀ x c, X.env.cells.lookup x = some c → c ≠ b) ∧ ∀ p ∈ X.pn ++ pins, p.1 ≠ b)
    (keep : ∀ b o, b ≠ X.env.locals → b ∉ X.fs → b ∉ ch → s.heap.get? b = some o → H b = none → h'.get? b = some o)
    (slot : ∀ b o, b ≠ X.env.locals → b ∈ X.fs → b ∉ ch → s.heap.get? b = some o → H b = none → ∃ sl, h'.get? b = some { o with slots := sl }) (free : ∀ b o, b ∉ ch → s.heap.get? b = some o → H b = none → H' b = none)
    (there : ∀ b o, b ∉ ch → s.heap.get? b = some o → ∃ o', h'.get? b = some o')
    (tups : ∀ b xs, H b = some (.tup xs) → H' b = some (.tup xs)) (frzs : ∀ b o u, H b = some (.frz o u) → H' b = some (.frz o u)) (tbls : ∀ b ps, H b = some (.tbl ps) → ∃ more, H' b = some (.tbl (ps ++ more)))
    (ns : ∀ m, s.heap.Ns X.env.locals m → h'.Ns X.env.locals m) (hok : HOk X.prog X.w H' h') (hg : AllBare g') :
    Inv X pins σ H' { s with heap := h', gens := g', drawn := d', toks := t' } := by
  have neL : ∀ b o, X.s₀.heap.get? b = some o → b ≠ X.env.locals := fun b o e => Nat.ne_of_lt (Nat.lt_of_lt_of_le (Heap.lt_size e) I.ok.above)
  have neC : ∀ b o, X.s₀.heap.get? b = some o → b ∉ X.ex → b ∉ ch := fun b o e hx hb => by
    rcases (hch b hb).1 with z | z
    · exact hx z
    · rw [e] at z; cases z
  have cellK : ∀ x c, X.env.cells.lookup x = some c → ∀ v, s.heap.IsCell c v → h'.IsCell c v := fun x c e v ⟨o, ho, hd⟩ => by
    have nch : c ∉ ch := fun z => (hch c z).2.2.1 x c e rfl
    by_cases hc : c ∈ X.fs
    · obtain ⟨sl, q⟩ := slot c o (I.cne x c e) hc nch ho (I.freeC x c e)
      exact ⟨_, q, hd⟩
    · exact ⟨o, keep c o (I.cne x c e) hc nch ho (I.freeC x c e), hd⟩
  refine ⟨I.ok, I.os, hg, ⟨fun b o e n hb hx => ?_, fun b o e n hb hx => ?_, fun b o e n hx => ?_, fun b o e hx => ?_, fun b xs e => tups b xs (I.base.tups b xs e), fun b o xs e => frzs b o xs (I.base.frzs b o xs e), fun b ps e => ?_⟩, ?_, fun x c e => ?_, ?_, fun x c e => ?_, fun p hp => ?_, hok, I.len⟩
  · exact keep b o (neL b o e) hb (neC b o e hx) (I.base.keep b o e n hb hx) (I.base.free b o e n hx)
  · obtain ⟨sl, e1⟩ := I.base.slot b o e n hb hx
    obtain ⟨sl', e2⟩ := slot b _ (neL b o e) hb (neC b o e hx) e1 (I.base.free b o e n hx)
    exact ⟨sl', e2⟩
  · obtain ⟨o', e1⟩ := I.base.there b o e hx
    exact free b o' (neC b o e hx) e1 (I.base.free b o e n hx)
  · obtain ⟨o', e1⟩ := I.base.there b o e hx
    exact there b o' (neC b o e hx) e1
  · obtain ⟨m1, e1⟩ := I.base.tbls b ps e
    obtain ⟨m2, e2⟩ := tbls b _ e1
    exact ⟨m1 ++ m2, by rw [e2, Array.append_assoc]⟩
  · obtain ⟨m, hn, hl⟩ := I.loc
    refine ⟨m, ns m hn, fun i x v e1 e2 e3 => ?_⟩
    obtain ⟨u, r, l⟩ := hl i x v e1 e2 e3
    refine ⟨u, r, ?_⟩
    rcases l with l | ⟨k, c, e, z⟩
    · exact .inl l
    · exact .inr ⟨k, c, e, cellK x c e _ z⟩
  · obtain ⟨v, z⟩ := I.cell x c e
    exact ⟨v, cellK x c e v z⟩
  · obtain ⟨m, ⟨o, _, _, ho, _⟩, _⟩ := I.loc
    exact free _ o (fun z => (hch _ z).2.1 rfl) ho I.free
  · obtain ⟨v, o, ho, hd⟩ := I.cell x c e
    exact free c o (fun z => (hch c z).2.2.1 x c e rfl) ho (I.freeC x c e)
  · obtain ⟨e, n, ne, nf, d⟩ := I.pin p hp
    have nch : p.1 ∉ ch := fun z => (hch p.1 z).2.2.2 p hp rfl
    exact ⟨keep p.1 p.2 ne nf nch e n, free p.1 p.2 nch e n, ne, nf, d⟩
end
def Nw (X : Cx) (pins : List (Addr × Obj)) (d : Addr) : Prop := ((d ∈ X.ex ∨ X.s₀.heap.get? d = none) ∧ d ≠ X.env.locals ∧ (∀ x c, X.env.cells.lookup x = some c → c ≠ d) ∧ ∀ p ∈ X.pn ++ pins, p.1 ≠ d) ∧ X.base.get? d = none ∧ d ∉ frs X.stack
theorem Inv.poke (I : Inv X pins σ H s) {d : Addr} {m : Str → Option Value} {h' : Heap} (hm : s.heap.Ns X.env.locals m) (F : Fr X.base X.env.locals h' m)
    (k : ∀ b o, b ≠ X.env.locals → b ≠ d → s.heap.get? b = some o → h'.get? b = some o) (hn : H d = none) (nw : Nw X pins d) : Inv X pins σ H { s with heap := h' } := by
  have hL : ∃ o, h'.get? X.env.locals = some o := by obtain ⟨o, _, _, e, _⟩ := F.ns; exact ⟨o, e⟩
  refine I.stepN (ch := [d]) (g' := s.gens) (d' := s.drawn) (t' := s.toks) (fun b hb => ?_) (fun b o h1 _ h3 e _ => k b o h1 (fun z => h3 (by rw [z]; exact List.mem_cons_self)) e) (fun b o h1 _ h3 e _ => ⟨o.slots, k b o h1 (fun z => h3 (by rw [z]; exact List.mem_cons_self)) e⟩) (fun b o _ _ n => n)
    (fun b o h3 e => ?_) (fun _ _ e => e) (fun _ _ _ e => e) (fun b ps e => ⟨#[], by rw [e, Array.append_empty]⟩) (fun m1 h1 => by rw [ns_inj h1 hm]; exact F.ns) (fun a o e => (I.hok a o e).stay (fun b u hb q => k b u ?_ ?_ q) (fun _ q => q) fun _ _ q => q) I.bare
  · rw [List.mem_singleton.mp hb]
    exact nw.1
  · by_cases z : b = X.env.locals
    · rw [z]; exact hL
    · exact ⟨o, k b o z (fun y => h3 (by rw [y]; exact List.mem_cons_self)) e⟩
  · rcases hb with rfl | hb
    · intro z; rw [z, I.free] at e; cases e
    · intro z; rw [z, I.free] at hb; cases hb
  · rcases hb with rfl | hb
    · intro z; rw [z, hn] at e; cases e
    · intro z; rw [z, hn] at hb; cases hb
theorem Inv.pokeL (I : Inv X pins σ H s) {d : Addr} {m : Str → Option Value} {h' : Heap} {xs : List V} {us : List Value} {n : Nat} (hm : s.heap.Ns X.env.locals m) (F : Fr X.base X.env.locals h' m)
    (k : ∀ b o, b ≠ X.env.locals → b ≠ d → s.heap.get? b = some o → h'.get? b = some o) (hn : H d = none) (nw : Nw X pins d) (hd : h'.get? d = some { cls := .type "list", data := .seq us.toArray n }) (r : Vals xs us) (hz : xs.length ≤ sizeLine) : Inv X pins σ (upd H d (.lst xs)) { s with heap := h' } := by
  have hL : ∃ o, h'.get? X.env.locals = some o := by obtain ⟨o, _, _, e, _⟩ := F.ns; exact ⟨o, e⟩
  refine I.stepN (ch := [d]) (g' := s.gens) (d' := s.drawn) (t' := s.toks) (fun b hb => ?_) (fun b o h1 _ h3 e _ => k b o h1 (fun z => h3 (by rw [z]; exact List.mem_cons_self)) e) (fun b o h1 _ h3 e _ => ⟨o.slots, k b o h1 (fun z => h3 (by rw [z]; exact List.mem_cons_self)) e⟩) (fun b o h3 _ q => by rw [upd_ne (fun z => h3 (by rw [z]; exact List.mem_cons_self))]; exact q)
    (fun b o h3 e => ?_) (fun b _ e => by rw [upd_ne (ne_of_none e hn)]; exact e) (fun b _ _ e => by rw [upd_ne (ne_of_none e hn)]; exact e) (fun b ps e => ⟨#[], by rw [upd_ne (ne_of_none e hn), e, Array.append_empty]⟩) (fun m1 h1 => by rw [ns_inj h1 hm]; exact F.ns) (fun a o e => ?_) I.bare
  · rw [List.mem_singleton.mp hb]
    exact nw.1
  · by_cases z : b = X.env.locals
    · rw [z]; exact hL
    · exact ⟨o, k b o z (fun y => h3 (by rw [y]; exact List.mem_cons_self)) e⟩
  · by_cases z : a = d
    · subst z
      rw [upd_same] at e
      cases e
      exact ⟨hz, us, n, r, hd⟩
    · rw [upd_ne z] at e
      refine (I.hok a o e).stay (fun b u hb q => k b u ?_ ?_ q) (fun b q => by rw [upd_ne (ne_of_none q hn)]; exact q) fun b _ q => by rw [upd_ne (ne_of_none q hn)]; exact q
      · rcases hb with rfl | hb
        · intro y; rw [y, I.free] at e; cases e
        · intro y; rw [y, I.free] at hb; cases hb
      · rcases hb with rfl | hb
        · exact z
        · intro y; rw [y, hn] at hb; cases hb
theorem Un.ns {fs ch : List Addr} {H H' : Hp} {h h' : Heap} {L : Addr} {m : Str → Option Value} (u : Un fs ch H H' h h') (f : H L = none) (n : L ∉ ch) (x : h.Ns L m) : h'.Ns L m := by
  obtain ⟨o, es, ep, e, d, r⟩ := x
  obtain ⟨sl, q⟩ := u.any e f n
  exact ⟨_, es, ep, q, d, r⟩
def tKeys (sp : Sp) : List V → List V → Hp → (List V → Hp → Prop) → Prop
  | [], ks, H, C => C ks H
  | x :: r, ks, H, C => sp [x] H (fun k H' => tKeys sp r (ks ++ [k]) H' C) E0
def KFirst (H : Hp) (x : V) : Prop := ∃ (a : Addr) (i : Int) (xs : List V), x = .ref a ∧ H a = some (.tup (.int i :: xs))
def KLt (X : Cx) (H : Hp) (x y : V) (b : Bool) : Prop := ∀ (A : Around) (s : Shared) (u v : Value) (Q : Bool → Shared → Prop), A.units + 100 < cLine → HOk X.prog X.w H s.heap → RelV x u → RelV y v → Q b s → wpAny (model X.prog X.w) A (keyLt' (tuples' true) u v) Q (fun _ _ => False) s
def tSortK (X : Cx) (sp : Sp) (ta : TA) : TE := fun σ H Q => ta σ H fun vs H1 => ∃ (p : Addr) (xs : List V), vs = [.ref p] ∧ SqL X.K H1 p xs ∧ 2 ≤ xs.length ∧ xs.length < 64 ∧
  tKeys sp xs [] H1 fun ks H2 => ks.length = xs.length ∧ ∃ lt : Nat → Nat → Bool, Srt.Ord lt ∧ (∀ k ∈ ks, KFirst H2 k) ∧ (∀ i j, i < xs.length → j < xs.length → KLt X H2 (ks.getD i .non) (ks.getD j .non) (lt i j)) ∧
    ∀ (ps : List Nat) (D : Addr), ps.Perm (List.range xs.length) → ps.Pairwise (fun a b => lt b a = false) → H2 D = none → Q (.ref D) (upd H2 D (.lst (ps.map fun i => xs.getD i .non)))
theorem keys_go {k : Nat} {f : Addr} {fd : FuncData} {ps : List Str} {sp : Sp} (F : FnOk X.prog X.w X.K X.mg X.base CX0 k f fd ps sp) (hb : Binds X.K fd ps []) (hr : Room k X.A.in1.in1) {kS D : Addr} {e1 : Nat} {m : Str → Option Value} (nk : Nw X pins kS) (nd : Nw X pins D) (ne : D ≠ kS)
    {C : List V → Hp → Prop} {Fin : List Value → Nat → Shared → Prop}
    (hfin : ∀ (ks : List Value) (kx : List V) (e : Nat) (s : Shared) (H : Hp), Vals kx ks → Inv X pins σ H s → s.heap.Ns X.env.locals m → s.heap.get? kS = some (seqObj "list" ks.toArray e) → s.heap.get? D = some (seqObj "list" #[] e1) → H kS = none → H D = none → C kx H → Fin ks e s) :
    ∀ (r : List Value) (rx : List V), Vals rx r → ∀ (ks : List Value) (kx : List V) (e : Nat) (s : Shared) (H : Hp), Vals kx ks → Inv X pins σ H s → s.heap.Ns X.env.locals m → s.heap.get? kS = some (seqObj "list" ks.toArray e) → s.heap.get? D = some (seqObj "list" #[] e1) → H kS = none → H D = none → tKeys sp rx kx H C →
      KatKeys X.prog X.w X.A.in1.in1 X.base X.env.locals m kS (.ref f) Fin r ks e s
  | [], [], .nil, ks, kx, e, s, H, rk, I, hm, h1, h2, h3, h4, h => KatKeys.nil (hfin ks kx e s H rk I hm h1 h2 h3 h4 h)
  | v :: r, x :: rx, .cons rv rr, ks, kx, e, s, H, rk, I, hm, h1, h2, h3, h4, h => by
    have h : sp [x] H (fun k H' => tKeys sp rx (kx ++ [k]) H' C) E0 := h
    have hl : [v].length = ps.length := F.len _ _ _ _ h
    refine KatKeys.cons (wpAny_call (codeAny_mono (F.run X.A.in1.in1 X.stack s H ⟨[v], []⟩ [v] [x] _ E0 hr I.env0.in1.in1 (hb s [v] I.kIn (by rw [List.append_nil]; exact hl)) (.cons rv .nil) h) fun rs s' hq => ?_))
    cases rs with
    | error z => exact hq.elim
    | ok fl =>
      cases fl with
      | ret u =>
        obtain ⟨kv, H', os, bare, un, hok, ru, q⟩ := hq
        have I' : Inv X pins σ H' s' := I.call' os un hok bare (fun b z => absurd z (by simp))
        have hm' : s'.heap.Ns X.env.locals m := un.ns I.free (by simp) hm
        have k1 := un.keep kS _ h1 h3 nk.2.2 (by simp)
        have k2 := un.keep D _ h2 h4 nd.2.2 (by simp)
        have f1 := un.free kS _ h1 h3 (by simp)
        have f2 := un.free D _ h2 h4 (by simp)
        have Fr' : Fr X.base X.env.locals s'.heap m := ⟨hm', I'.bk, Nat.le_trans I'.ok.bsz I'.ok.above⟩
        refine KatBack.intro Fr' (news_at nk.1.2.1 nk.2.1 k1) (.head rest_ne) fun h2' c F2 N2 => ?_
        have kept := kept_of_news (d := kS) I'.bk F2 (fun p hp => N2 p (List.mem_cons_of_mem _ hp))
        have hk2 : h2'.get? kS = some (seqObj "list" (List.toArray (ks ++ [u])) c) := (N2 _ List.mem_cons_self).1
        have I2 := I'.poke hm' F2 kept f1 nk
        exact keys_go F hb hr nk nd ne hfin r rx rr (ks ++ [u]) (kx ++ [kv]) c { s' with heap := h2' } H' (rk.append (.cons ru .nil)) I2 F2.ns hk2 (kept D _ nd.1.2.1 ne k2) f1 f2 q
      | next => exact hq.elim
      | brk => exact hq.elim
      | cont => exact hq.elim
end
theorem getD_val {xs : List V} {us : List Value} (r : Vals xs us) (i : Nat) : RelV (xs.getD i .non) (us.getD i Value.none) := by
  have l := r.length
  by_cases h : i < xs.length
  · obtain ⟨u, eu, ru⟩ := r.get (List.getElem?_eq_getElem h)
    rw [List.getD_eq_getElem?_getD, List.getD_eq_getElem?_getD, List.getElem?_eq_getElem h, eu]
    exact ru
  · rw [List.getD_eq_getElem?_getD, List.getD_eq_getElem?_getD, List.getElem?_eq_none (by omega), List.getElem?_eq_none (by omega)]
    rfl
theorem ObjOk.there {P : Program} {w : World} {H : Hp} {h : Heap} {a : Addr} {o : HO} (x : ObjOk P w H h a o) : ∃ u, h.get? a = some u := by
  cases o with
  | lst xs => obtain ⟨_, _, _, _, e⟩ := x; exact ⟨_, e⟩
  | tup xs => obtain ⟨_, _, _, o, e, _⟩ := x; exact ⟨_, e⟩
  | dK kvs => obtain ⟨_, _, _, _, o, _, _, e, _⟩ := x; exact ⟨_, e⟩
  | dT kvs => obtain ⟨_, _, _, _, o, _, _, e, _⟩ := x; exact ⟨_, e⟩
  | set S n => obtain ⟨o, _, _, _, e, _⟩ := x; exact ⟨_, e⟩
  | ins C dx fs => obtain ⟨_, _, _, e, _⟩ := x; exact ⟨_, e⟩
  | own y => obtain ⟨_, e⟩ := x; exact ⟨_, e⟩
  | xd fs => obtain ⟨_, ⟨_, _, _, e, _⟩, _⟩ := x; exact ⟨_, e⟩
  | rng lo hi => obtain ⟨_, _, _, e⟩ := x; exact ⟨_, e⟩
  | frz ob u => obtain ⟨e, _⟩ := x; exact ⟨_, e⟩
  | tbl ps => exact ⟨_, (show h.get? a = some _ from x)⟩
  | met f y => exact ⟨_, (show h.get? a = some _ from x)⟩
  | ext φ => obtain ⟨_, ⟨_, e⟩, _⟩ := x; exact ⟨_, e⟩
theorem Inv.nw {X : Cx} {pins : List (Addr × Obj)} {σ : St} {H : Hp} {s : Shared} (I : Inv X pins σ H s) {d : Addr} (h : s.heap.get? d = none) (nL : d ≠ X.env.locals) (hb : X.base.get? d = none) : Nw X pins d := by
  refine ⟨⟨?_, nL, fun x c e z => ?_, fun p hp z => ?_⟩, hb, fun z => ?_⟩
  · by_cases hx : d ∈ X.ex
    · exact .inl hx
    · refine .inr ?_
      cases e : X.s₀.heap.get? d with
      | none => rfl
      | some o =>
        obtain ⟨o', e'⟩ := I.base.there d o e hx
        rw [e'] at h; cases h
  · obtain ⟨v, o, ho, _⟩ := I.cell x c e
    rw [z, h] at ho; cases ho
  · have := (I.pin p hp).1
    rw [z, h] at this; cases this
  · rcases List.mem_cons.mp (I.stkSub d z) with e | hf
    · exact nL e
    · obtain ⟨_, o, ho, _⟩ := I.ok.funs.mem hf
      obtain ⟨o', e'⟩ := I.base.there d o ho fun y => I.ok.exfs d y hf
      rw [e'] at h; cases h
theorem Inv.none_of {X : Cx} {pins : List (Addr × Obj)} {σ : St} {H : Hp} {s : Shared} (I : Inv X pins σ H s) {d : Addr} (h : s.heap.get? d = none) : H d = none := by
  cases e : H d with
  | none => rfl
  | some o =>
    obtain ⟨u, q⟩ := (I.hok d o e).there
    rw [h] at q; cases q
theorem vals_pick {xs : List V} {us : List Value} (r : Vals xs us) : ∀ (ps : List Nat), (∀ i ∈ ps, i < xs.length) → Vals (ps.map fun i => xs.getD i .non) (ps.map fun i => us.getD i Value.none)
  | [], _ => .nil
  | p :: ps, h => .cons (getD_val r p) (vals_pick r ps fun i m => h i (List.mem_cons_of_mem _ m))
theorem tups_of {X : Cx} {pins : List (Addr × Obj)} {σ : St} {H : Hp} {s : Shared} (I : Inv X pins σ H s) : ∀ {kx : List V} {ks : List Value}, Vals kx ks → (∀ k ∈ kx, KFirst H k) → ∃ fs : List Value, KatTups s.heap ks fs ∧ fs.length = ks.length ∧ ∀ v ∈ fs, ∃ i t, v = Value.int i t
  | [], [], .nil, _ => ⟨[], trivial, rfl, fun _ m => by cases m⟩
  | x :: kx, u :: ks, .cons r rr, h => by
    obtain ⟨fs, t, l, a⟩ := tups_of I rr fun k m => h k (List.mem_cons_of_mem _ m)
    obtain ⟨b, i, xs, ex, hb⟩ := h x List.mem_cons_self
    subst ex
    cases (show u = Value.ref b from r)
    obtain ⟨_, vs, rv, p⟩ := (show ObjOk X.prog X.w H s.heap b (.tup (.int i :: xs)) from I.hok b _ hb)
    obtain ⟨o, h1, h2, n, h3⟩ := p
    cases rv with
    | cons r1 r2 =>
      obtain ⟨tk, e⟩ := r1
      subst e
      refine ⟨.int i tk :: fs, ⟨⟨b, o, _, n, rfl, h1, h2, h3, rfl⟩, t⟩, by rw [List.length_cons, List.length_cons, l], fun v m => ?_⟩
      rcases List.mem_cons.mp m with rfl | m
      · exact ⟨i, tk, rfl⟩
      · exact a v m
theorem sb_list {lt : Nat → Nat → Bool} {p : Array Nat} {n : Nat} (hs : p.size = n) (h : Srt.SB lt p n) : p.toList.Pairwise (fun a b => lt b a = false) := by
  rw [List.pairwise_iff_getElem]
  intro i j hi hj hij
  have hi' : i < p.size := by simpa using hi
  have hj' : j < p.size := by simpa using hj
  have := h i j (by omega) (by omega)
  unfold Srt.g at this
  rw [Array.getD_eq_getD_getElem?, Array.getD_eq_getD_getElem?, Array.getElem?_eq_getElem hi', Array.getElem?_eq_getElem hj'] at this
  simpa using this
section
variable {X : Cx} {k : Nat} {ps : List Str} {sp : Sp} {x : Str} {p pos kp pk : Pos} {e : Expr} {ta : TA}
theorem pe_sortK (C : Callee X.prog X.w X.K X.mg X.base x ps k sp) (hr : Room (k + 2) X.A) (hg : Gl X "sorted") (hm : X.mg "sorted" = none) (hgx : Gl X x) (ha : PA X [e] ta) (hst : isStar e = false := by rfl) (hdb : (x == ("__debug__" : Str)) = false := by decide) :
    PE X (.Call (.Name "sorted" p) [e] [⟨some "key", .Name x pk, kp⟩] pos) (tSortK X sp ta) := by
  intro pins s σ H Q I h
  obtain ⟨f, fd, F, mf, kpf, bd⟩ := C.ex
  refine wpAny_Call_Name_kw (ld_blt I hg hm boot_sorted ?_)
  have hs : starEach [e] X.env = [(false, eval e X.env)] := starEach_plain hst
  refine callWith_kw (kws := [⟨some "key", .Name x pk, kp⟩]) (thn (ha pos pins s σ H _ I h) fun us s1 ⟨vs, H1, I1, r1, q1⟩ => kws_cons (ld_glob I1 hgx mf (kws_nil ?_) hdb)) (by rw [hs]; rfl) (by rw [hs]; rfl) rfl rfl
  obtain ⟨l, xs, rfl, hq, n2, n64, q2⟩ := q1
  obtain ⟨v, rfl, rv⟩ := vals1 r1
  cases rv
  obtain ⟨its, ri, pl, hz⟩ := I1.list hq
  have li := ri.length
  obtain ⟨m, Fm⟩ := I1.fr
  show wpAny (model X.prog X.w) X.A (call (.builtin "sorted") [.ref l] [("key", .ref f)]) _ _ s1
  refine PySem.W.kat_sortedK (b := false) (f := .ref f) Fm news_all pl.isList (by omega) (by omega) (ksk_s1 _ _) (fun y => ksk_l1 _ _) (fun y => ksk_t1 f y) fun D kS e1 h' F' N' l1 l2 => ?_
  have NK := N' _ List.mem_cons_self
  have ND := N' _ (List.mem_cons_of_mem _ List.mem_cons_self)
  have kept : ∀ b o, b ≠ X.env.locals → s1.heap.get? b = some o → h'.get? b = some o := fun b o nb e => by
    cases q : X.base.get? b with
    | some u =>
      have := I1.bk b u q
      rw [e] at this; cases this
      exact F'.keep b _ q
    | none => exact (N' (b, o) (List.mem_cons_of_mem _ (List.mem_cons_of_mem _ (mem_allNews nb q e)))).1
  have aK : s1.heap.get? kS = none := by
    cases q : s1.heap.get? kS with
    | none => rfl
    | some o =>
      have := l2 _ (mem_allNews NK.2.1 NK.2.2 q)
      have : kS < D := this
      exact absurd (Nat.lt_trans this l1) (Nat.lt_irrefl _)
  have aD : s1.heap.get? D = none := by
    cases q : s1.heap.get? D with
    | none => rfl
    | some o =>
      have := l2 _ (mem_allNews ND.2.1 ND.2.2 q)
      have : D < D := this
      exact absurd this (Nat.lt_irrefl _)
  have nk : Nw X pins kS := I1.nw aK NK.2.1 NK.2.2
  have nd : Nw X pins D := I1.nw aD ND.2.1 ND.2.2
  have ne : D ≠ kS := Nat.ne_of_lt l1
  have I2 : Inv X pins σ H1 { s1 with heap := h' } := I1.poke Fm.ns F' (fun b o n1 _ e => kept b o n1 e) (I1.none_of aK) nk
  refine keys_go (sp := sp) F bd hr.in1.in1 nk nd ne (fun ks kx e s2 H2 rk I2 hm2 g1 g2 f1 f2 c => ?_) its xs ri [] [] 0 { s1 with heap := h' } H1 .nil I2 F'.ns NK.1 ND.1 (I1.none_of aK) (I1.none_of aD) q2
  obtain ⟨lk, lt, O, fst, klt, fin⟩ := c
  obtain ⟨fs, tt, lfs, af⟩ := tups_of I2 rk fst
  have lrk := rk.length
  have n0 : 0 < its.length := by omega
  refine PySem.W.kat_kind (T := .type "int") tt (by omega) (fun v mv => ?_) rfl ?_
  · obtain ⟨i, t, rfl⟩ := af v mv
    exact Looks.of_pure rfl
  refine Srt.wp_of_run (lt := lt) (n := its.length) (fun i j C hi hj hc => ?_) _ (Srt.sort_al n0) ?_
  · show wpAny (model X.prog X.w) X.A.in1.in1 (keyLt' (tuples' true) (ks.getD i Value.none) (ks.getD j Value.none)) C (fun _ _ => False) s2
    refine klt i j (by omega) (by omega) X.A.in1.in1 s2 _ _ C ?_ I2.hok (getD_val rk i) (getD_val rk j) hc
    have := hr.un
    show X.A.units + 1 + 1 + 100 < cLine
    omega
  have Fr2 : Fr X.base X.env.locals s2.heap m := ⟨hm2, I2.bk, Nat.le_trans I2.ok.bsz I2.ok.above⟩
  refine PySem.W.KatFin.intro Fr2 (news_at nk.1.2.1 nk.2.1 g1) (.head rest_ne) fun h3 c F3 N3 => ?_
  have kept3 := kept_of_news (d := kS) I2.bk F3 (fun p hp => N3 p (List.mem_cons_of_mem _ hp))
  have I3 := I2.poke hm2 F3 kept3 f1 nk
  have g2' := kept3 D _ nd.1.2.1 ne g2
  refine PySem.W.KasFin.intro F3 (news_at nd.1.2.1 nd.2.1 g2') (.head rest_ne) fun h4 c4 F4 N4 => ?_
  have kept4 := kept_of_news (d := D) I3.bk F4 (fun p hp => N4 p (List.mem_cons_of_mem _ hp))
  have hd4 := (N4 _ List.mem_cons_self).1
  have pm := Srt.al_run lt _ (Srt.sort_al (n := its.length) n0)
  have sb := sb_list pm.size (Srt.sort_ok O n0)
  have pl2 : (Srt.run lt (PySem.W.kas_sort its.length)).toList.Perm (List.range xs.length) := by
    rw [li]
    have := pm
    unfold Srt.Pm at this
    simpa using this.toList
  have inr : ∀ i ∈ (Srt.run lt (PySem.W.kas_sort its.length)).toList, i < xs.length := fun i mi => List.mem_range.mp (pl2.mem_iff.mp mi)
  refine ⟨.ref D, _, I3.pokeL (xs := (Srt.run lt (PySem.W.kas_sort its.length)).toList.map fun i => xs.getD i .non) F3.ns F4 kept4 f2 nd hd4 (vals_pick ri _ inr) ?_, rfl, fin _ D pl2 sb f2⟩
  rw [List.length_map, pl2.length_eq, List.length_range]
  exact hz
end
end L2
end
section
set_option Elab.async false
set_option linter.all false
set_option maxRecDepth 100000
set_option maxHeartbeats 2000000
namespace L2
open PySem PySem.Spec PyProof.Rows PySem.SeqAt
def LtAt (A : Around) (s : Shared) (x y : Value) (b : Bool) : Prop := ∀ (prog : Program) (w : World) (E : Value → Shared → Prop) (Q : Value → Shared → Prop), Q (.bool b) s → wpAny (model prog w) A (richCompare .Lt x y) Q E s
inductive Lex (A : Around) (s : Shared) : List Value → List Value → Bool → Prop where
  | nn : Lex A s [] [] false
  | nc {y : Value} {ys : List Value} : Lex A s [] (y :: ys) true
  | cn {x : Value} {xs : List Value} : Lex A s (x :: xs) [] false
  | eq {x y : Value} {xs ys : List Value} {b : Bool} : EqAt A s x y true → Lex A s xs ys b → Lex A s (x :: xs) (y :: ys) b
  | lt {x y : Value} {xs ys : List Value} {b : Bool} : EqAt A s x y false → LtAt A s x y b → Lex A s (x :: xs) (y :: ys) b
section
open PySem.AutoSeq1 (wpAny_loadPart')
open PySem.MeetsSeq PySem.MeetsSeq2 PySem.MeetsSeq3
theorem tuple_ltD (l b : Addr) (items items2 : Array Value) (n n2 : Nat) (dd dd2 : Option Addr) (sl sl2 : Array (Option Value)) (r : Bool) :
    Meets (Builtin.«tuple.__lt__» ⟨[.ref l, .ref b], []⟩)
      (fun A R s => s.heap.get? l = some { cls := .type "tuple", dict := dd, data := .seq items n, slots := sl } ∧ s.heap.get? b = some { cls := .type "tuple", dict := dd2, data := .seq items2 n2, slots := sl2 } ∧
        Lex A.in1 s items.toList items2.toList r ∧ R (.ok (.ret (.bool r))) s) :=
  .of_wp fun prog w A R s h => by
    obtain ⟨hp, g, d, tk, os⟩ := s; obtain ⟨hl, hb, hx, h⟩ := h
    have f2 := AutoSeq1.sub_tuple_tuple
    wp_walk using wpAny_loadPart' hl, wpAny_loadPart' hb, wpAny_forIn_list _ (fun rest b s' => b.1 = none ∧ s' = ⟨hp, g, d, tk, os⟩ ∧ ∃ (vs ws : List Value), rest = vs.zip ws ∧
      Lex A.in1 ⟨hp, g, d, tk, os⟩ vs ws r ∧ vs.length + items2.size = ws.length + items.size) _
    case turn =>
      rintro ⟨y, x⟩ rest b s' ⟨hb', rfl, vs, ws, hz, hx, hlen⟩
      cases hx with
      | nn => cases hz
      | nc => cases hz
      | cn => rw [List.zip_nil_right] at hz; cases hz
      | eq he hx' =>
        rw [List.zip_cons_cons] at hz
        injection hz with hyx hrest
        injection hyx with hy hx
        subst hy hx
        simp only [List.length_cons] at hlen
        refine wpAny_bind (he prog w _ _ ?_)
        wp_walk
        exact ⟨rfl, rfl, _, _, hrest, hx', by omega⟩
      | lt he hl' =>
        rw [List.zip_cons_cons] at hz
        injection hz with hyx hrest
        injection hyx with hy hx
        subst hy hx
        refine wpAny_bind (he prog w _ _ ?_)
        have hri := hl' prog w
        wp_walk using hri
        exact ⟨_, rfl, by simpa using h⟩
    case fin =>
      rintro ⟨b1, b2⟩ s' ⟨hb', rfl, vs, ws, hz, hx, hlen⟩
      simp only at hb'
      subst hb'
      have hv : r = decide (items.size < items2.size) := by
        cases hx with
        | nn => simp only [List.length_nil] at hlen; exact (decide_eq_false (by omega)).symm
        | nc => simp only [List.length_nil, List.length_cons] at hlen; exact (decide_eq_true (by omega)).symm
        | cn => simp only [List.length_nil, List.length_cons] at hlen; exact (decide_eq_false (by omega)).symm
        | eq => cases hz
        | lt => cases hz
      rw [hv] at h
      wp_walk
      exact ⟨_, rfl, by simpa [Builtin.Tuple.tupleCompareSizes] using h⟩
    case h =>
      exact ⟨rfl, rfl, items.toList, items2.toList, rfl, hx, by simp; omega⟩
end
theorem lt_tups {A : Around} {s : Shared} {l b : Addr} {items items2 : Array Value} {r : Bool} (hl : IsTup s.heap l items) (hb : IsTup s.heap b items2) (hx : Lex A.in1 s items.toList items2.toList r) (hu : A.units < cLine) : LtAt A s (.ref l) (.ref b) r := fun prog w E Q h => by
  obtain ⟨⟨cls, dd, data, sl⟩, ho, hc, n, hd⟩ := id hl
  obtain ⟨⟨cls2, dd2, data2, sl2⟩, ho2, hc2, n2, hd2⟩ := id hb
  simp only at hc hd hc2 hd2
  subst hc hd hc2 hd2
  exact richCompare_meets_room (op := .Lt) ⟨_, ho, rfl⟩ ⟨_, ho2, rfl⟩ PySem.F.slot_tuple_lt PySem.F.entry_tuple_lt (PySem.F.args_tuple_lt_2 _ _) (tuple_ltD l b items items2 n n2 dd dd2 sl sl2 r)
    ⟨ho, ho2, hx, show Value.bool r ≠ Value.notImplemented ∧ Q (.bool r) s from ⟨(fun x => nomatch x), h⟩⟩ hu
end L2
end
section
set_option Elab.async false
set_option linter.all false
set_option maxRecDepth 100000
set_option maxHeartbeats 2000000
namespace L2
open PySem PySem.Spec PyProof.Rows PySem.SeqAt
inductive Tg where
  | num (i : Int)
  | nam (z : Str)
  | par (a b : Tg)
deriving DecidableEq
def Tg.dep : Tg → Nat
  | .par a b => max a.dep b.dep + 1
  | _ => 0
def slt (a b : Str) : Bool := decide (a.cps.toList < b.cps.toList)
def tlt : Tg → Tg → Bool
  | .num i, .num j => decide (i < j)
  | .num _, _ => true
  | .nam _, .num _ => false
  | .nam a, .nam b => slt a b
  | .nam _, .par _ _ => true
  | .par a b, .par c d => if a = c then tlt b d else tlt a c
  | .par _ _, _ => false
theorem slt_irr (a : Str) : slt a a = false := decide_eq_false (List.lt_irrefl _)
theorem slt_asym {a b : Str} (h : slt a b = true) : slt b a = false := decide_eq_false (List.lt_asymm (of_decide_eq_true h))
theorem slt_tri {a b : Str} (h1 : slt a b = false) (h2 : slt b a = false) : a = b := by
  have h1 := of_decide_eq_false h1
  have h2 := of_decide_eq_false h2
  have e : a.cps.toList = b.cps.toList := List.le_antisymm (List.not_lt.mp h2) (List.not_lt.mp h1)
  cases a; cases b
  exact congrArg _ (Array.toList_inj.mp e)
theorem slt_tr {a b c : Str} (h1 : slt a b = true) (h2 : slt b c = true) : slt a c = true := decide_eq_true (List.lt_trans (of_decide_eq_true h1) (of_decide_eq_true h2))
theorem tlt_irr : ∀ t : Tg, tlt t t = false
  | .num i => decide_eq_false (by omega)
  | .nam z => slt_irr z
  | .par a b => by
    show (if a = a then tlt b b else tlt a a) = false
    rw [if_pos rfl]
    exact tlt_irr b
theorem tlt_tri : ∀ {a b : Tg}, tlt a b = false → tlt b a = false → a = b
  | .num i, .num j, h1, h2 => by
    have h1 := of_decide_eq_false h1
    have h2 := of_decide_eq_false h2
    have : i = j := by omega
    rw [this]
  | .num _, .nam _, h1, _ => by cases h1
  | .num _, .par _ _, h1, _ => by cases h1
  | .nam _, .num _, _, h2 => by cases h2
  | .nam a, .nam b, h1, h2 => by rw [slt_tri (a := a) (b := b) h1 h2]
  | .nam _, .par _ _, h1, _ => by cases h1
  | .par _ _, .num _, _, h2 => by cases h2
  | .par _ _, .nam _, _, h2 => by cases h2
  | .par a b, .par c d, h1, h2 => by
    have h1 : (if a = c then tlt b d else tlt a c) = false := h1
    have h2 : (if c = a then tlt d b else tlt c a) = false := h2
    by_cases e : a = c
    · rw [if_pos e] at h1
      rw [if_pos e.symm] at h2
      rw [e, tlt_tri h1 h2]
    · rw [if_neg e] at h1
      rw [if_neg (fun z => e z.symm)] at h2
      exact absurd (tlt_tri h1 h2) e
theorem tlt_asym : ∀ {a b : Tg}, tlt a b = true → tlt b a = false
  | .num i, .num j, h => decide_eq_false (by have := of_decide_eq_true h; omega)
  | .num _, .nam _, _ => rfl
  | .num _, .par _ _, _ => rfl
  | .nam _, .num _, h => by cases h
  | .nam a, .nam b, h => slt_asym h
  | .nam _, .par _ _, _ => rfl
  | .par _ _, .num _, h => by cases h
  | .par _ _, .nam _, h => by cases h
  | .par a b, .par c d, h => by
    have h : (if a = c then tlt b d else tlt a c) = true := h
    show (if c = a then tlt d b else tlt c a) = false
    by_cases e : a = c
    · rw [if_pos e] at h
      rw [if_pos e.symm]
      exact tlt_asym h
    · rw [if_neg e] at h
      rw [if_neg (fun z => e z.symm)]
      exact tlt_asym h
theorem tlt_tr : ∀ {a b c : Tg}, tlt a b = true → tlt b c = true → tlt a c = true
  | .num i, .num j, .num k, h1, h2 => decide_eq_true (by have := of_decide_eq_true h1; have := of_decide_eq_true h2; omega)
  | .num _, _, .nam _, _, _ => rfl
  | .num _, _, .par _ _, _, _ => rfl
  | .num _, .nam _, .num _, _, h2 => by cases h2
  | .num _, .par _ _, .num _, _, h2 => by cases h2
  | .nam _, .num _, _, h1, _ => by cases h1
  | .nam _, .nam _, .num _, _, h2 => by cases h2
  | .nam a, .nam b, .nam c, h1, h2 => slt_tr (b := b) h1 h2
  | .nam _, _, .par _ _, _, _ => rfl
  | .nam _, .par _ _, .num _, _, h2 => by cases h2
  | .nam _, .par _ _, .nam _, _, h2 => by cases h2
  | .par _ _, .num _, _, h1, _ => by cases h1
  | .par _ _, .nam _, _, h1, _ => by cases h1
  | .par _ _, .par _ _, .num _, _, h2 => by cases h2
  | .par _ _, .par _ _, .nam _, _, h2 => by cases h2
  | .par a b, .par c d, .par e f, h1, h2 => by
    have h1 : (if a = c then tlt b d else tlt a c) = true := h1
    have h2 : (if c = e then tlt d f else tlt c e) = true := h2
    show (if a = e then tlt b f else tlt a e) = true
    by_cases e1 : a = c
    · rw [if_pos e1] at h1
      by_cases e2 : c = e
      · rw [if_pos e2] at h2
        rw [if_pos (e1.trans e2)]
        exact tlt_tr h1 h2
      · rw [if_neg e2] at h2
        rw [if_neg (fun z => e2 (e1.symm.trans z)), e1]
        exact h2
    · rw [if_neg e1] at h1
      by_cases e2 : c = e
      · rw [if_pos e2] at h2
        rw [if_neg (fun z => e1 (z.trans e2.symm)), ← e2]
        exact h1
      · rw [if_neg e2] at h2
        have h := tlt_tr h1 h2
        by_cases e3 : a = e
        · rw [e3, tlt_irr] at h; cases h
        · rw [if_neg e3]
          exact h
theorem tlt_ntr {a b c : Tg} (h1 : tlt b a = false) (h2 : tlt c b = false) : tlt c a = false := by
  cases h : tlt c a with
  | false => rfl
  | true =>
    cases h3 : tlt a b with
    | true => rw [tlt_tr h h3] at h2; cases h2
    | false => rw [tlt_tri h3 h1] at h; rw [h] at h2; cases h2
def TR (H : Hp) : V → Tg → Prop
  | x, .num i => x = .int i
  | x, .nam z => x = .str z
  | x, .par a b => ∃ (l : Addr) (p q : V), x = .ref l ∧ H l = some (.tup [p, q]) ∧ TR H p a ∧ TR H q b
def KRt (H : Hp) : V → Tg → Prop
  | x, .num i => ∃ l, x = .ref l ∧ H l = some (.tup [.int 0, .int i])
  | x, .nam z => ∃ l, x = .ref l ∧ H l = some (.tup [.int 1, .str z])
  | x, .par a b => ∃ (l : Addr) (p q : V), x = .ref l ∧ H l = some (.tup [.int 2, p, q]) ∧ KRt H p a ∧ KRt H q b
def Tups (H H' : Hp) : Prop := ∀ t l, H t = some (.tup l) → H' t = some (.tup l)
theorem TR.mono {H H' : Hp} (k : Tups H H') : ∀ {x : V} (t : Tg), TR H x t → TR H' x t
  | x, .num i, h => h
  | x, .nam z, h => h
  | x, .par a b, h => by
    obtain ⟨l, p, q, e, hl, h1, h2⟩ := h
    exact ⟨l, p, q, e, k _ _ hl, TR.mono k a h1, TR.mono k b h2⟩
theorem KRt.mono {H H' : Hp} (k : Tups H H') : ∀ {x : V} (t : Tg), KRt H x t → KRt H' x t
  | x, .num i, h => by obtain ⟨l, e, hl⟩ := h; exact ⟨l, e, k _ _ hl⟩
  | x, .nam z, h => by obtain ⟨l, e, hl⟩ := h; exact ⟨l, e, k _ _ hl⟩
  | x, .par a b, h => by
    obtain ⟨l, p, q, e, hl, h1, h2⟩ := h
    exact ⟨l, p, q, e, k _ _ hl, KRt.mono k a h1, KRt.mono k b h2⟩
def kNum : Tg → Int
  | .num _ => 0
  | .nam _ => 1
  | .par _ _ => 2
theorem KRt.first {H : Hp} {x : V} : ∀ (t : Tg), KRt H x t → ∃ (l : Addr) (xs : List V), x = .ref l ∧ H l = some (.tup (.int (kNum t) :: xs))
  | .num i, h => by obtain ⟨l, e, hl⟩ := h; exact ⟨l, _, e, hl⟩
  | .nam z, h => by obtain ⟨l, e, hl⟩ := h; exact ⟨l, _, e, hl⟩
  | .par a b, h => by obtain ⟨l, p, q, e, hl, _⟩ := h; exact ⟨l, _, e, hl⟩
section
variable {P : Program} {w : World} {H : Hp} {s : Shared}
theorem tup_at (hok : HOk P w H s.heap) {l : Addr} {xs : List V} (h : H l = some (.tup xs)) : ∃ its : List Value, Vals xs its ∧ IsTup s.heap l its.toArray := by
  obtain ⟨_, its, r, p⟩ := (show ObjOk P w H s.heap l (.tup xs) from hok l _ h)
  exact ⟨its, r, p⟩
theorem vals_two {p q : V} {its : List Value} (r : Vals [p, q] its) : ∃ u v, its = [u, v] ∧ RelV p u ∧ RelV q v := by
  cases r with
  | cons r1 r2 => cases r2 with
    | cons r2 r3 => cases r3; exact ⟨_, _, rfl, r1, r2⟩
theorem vals_three {o p q : V} {its : List Value} (r : Vals [o, p, q] its) : ∃ t u v, its = [t, u, v] ∧ RelV o t ∧ RelV p u ∧ RelV q v := by
  cases r with
  | cons r0 r => obtain ⟨u, v, e, r1, r2⟩ := vals_two r; subst e; exact ⟨_, _, _, rfl, r0, r1, r2⟩
end
end L2
end
section
set_option Elab.async false
set_option linter.all false
set_option maxRecDepth 100000
set_option maxHeartbeats 2000000
namespace L2
open PySem PySem.Spec PyProof.Rows PySem.SeqAt
inductive EqL (A : Around) (s : Shared) : List Value → List Value → Bool → Prop where
  | nn : EqL A s [] [] true
  | nc {y : Value} {ys : List Value} : EqL A s [] (y :: ys) false
  | cn {x : Value} {xs : List Value} : EqL A s (x :: xs) [] false
  | cons {x y : Value} {xs ys : List Value} {b r : Bool} : EqAt A s x y b → EqL A s xs ys r → EqL A s (x :: xs) (y :: ys) (b && r)
theorem EqL.fn {A : Around} {s : Shared} : ∀ {vs ws : List Value} {r : Bool}, EqL A s vs ws r → ∃ e : Nat → Bool, (∀ j (h1 : j < vs.length) (h2 : j < ws.length), EqAt A s vs[j] ws[j] (e j)) ∧ ((List.range (min vs.length ws.length)).all e && (vs.length == ws.length)) = r
  | _, _, _, .nn => ⟨fun _ => true, fun j h1 _ => absurd h1 (Nat.not_lt_zero _), rfl⟩
  | _, _, _, .nc => ⟨fun _ => true, fun j h1 _ => absurd h1 (Nat.not_lt_zero _), by simp⟩
  | _, _, _, .cn => ⟨fun _ => true, fun j _ h2 => absurd h2 (Nat.not_lt_zero _), by simp⟩
  | _, _, _, @EqL.cons _ _ x y xs ys b r h t => by
    obtain ⟨e, h1, h2⟩ := t.fn
    refine ⟨fun j => match j with | 0 => b | j + 1 => e j, fun j l1 l2 => ?_, ?_⟩
    · cases j with
      | zero => exact h
      | succ j => exact h1 j (by simpa using l1) (by simpa using l2)
    · rw [List.length_cons, List.length_cons, Nat.succ_min_succ, List.range_succ_eq_map, List.all_cons, List.all_map, ← h2]
      simp [Bool.and_assoc, Function.comp_def]
theorem rc_tups {A : Around} {s : Shared} {l b : Addr} {vs ws : List Value} {r : Bool} (hl : IsTup s.heap l vs.toArray) (hb : IsTup s.heap b ws.toArray) (hu : A.units < cLine) (h : EqL A.in1 s vs ws r) : RcAt A s (.ref l) (.ref b) r := by
  obtain ⟨e, h1, h2⟩ := h.fn
  have := RcAt.tuples (A := A) (s := s) (e := e) hl hb hu fun j l1 l2 => by
    have l1 : j < vs.length := by simpa using l1
    have l2 : j < ws.length := by simpa using l2
    simpa using h1 j l1 l2
  simp only [List.size_toArray] at this
  rw [h2] at this
  exact this
theorem rc_lists {A : Around} {s : Shared} {l b : Addr} {vs ws : List Value} {r : Bool} (hl : s.heap.IsList l vs.toArray) (hb : s.heap.IsList b ws.toArray) (hu : A.units < cLine) (h : EqL A.in1 s vs ws r) : RcAt A s (.ref l) (.ref b) r := by
  obtain ⟨e, h1, h2⟩ := h.fn
  by_cases z : vs.length = ws.length
  · have := RcAt.lists (A := A) (s := s) (e := e) hl hb (by simpa using z) hu fun j l1 l2 => by
      have l1 : j < vs.length := by simpa using l1
      have l2 : j < ws.length := by simpa using l2
      simpa using h1 j l1 l2
    simp only [List.size_toArray] at this
    rw [z, Nat.min_self, beq_self_eq_true, Bool.and_true] at h2
    rw [z, h2] at this
    exact this
  · have e0 : (vs.length == ws.length) = false := beq_eq_false_iff_ne.mpr z
    rw [e0, Bool.and_false] at h2
    rw [← h2]
    exact RcAt.lists_lengths hl hb (by simpa using z) hu
theorem TR.uniq {H : Hp} : ∀ {x : V} (t t' : Tg), TR H x t → TR H x t' → t = t'
  | x, .num i, .num j, h, g => by rw [show x = .int i from h] at g; cases (show V.int i = .int j from g); rfl
  | x, .num i, .nam z, h, g => by rw [show x = .int i from h] at g; cases (show V.int i = .str z from g)
  | x, .num i, .par c d, h, g => by obtain ⟨l, p, q, e, _⟩ := g; rw [show x = .int i from h] at e; cases e
  | x, .nam z, .num j, h, g => by rw [show x = .str z from h] at g; cases (show V.str z = .int j from g)
  | x, .nam z, .nam y, h, g => by rw [show x = .str z from h] at g; cases (show V.str z = .str y from g); rfl
  | x, .nam z, .par c d, h, g => by obtain ⟨l, p, q, e, _⟩ := g; rw [show x = .str z from h] at e; cases e
  | x, .par a b, .num j, h, g => by obtain ⟨l, p, q, e, _⟩ := h; rw [show x = .int j from g] at e; cases e
  | x, .par a b, .nam y, h, g => by obtain ⟨l, p, q, e, _⟩ := h; rw [show x = .str y from g] at e; cases e
  | x, .par a b, .par c d, h, g => by
    obtain ⟨l, p, q, e, hl, h1, h2⟩ := h
    obtain ⟨l', p', q', e', hl', g1, g2⟩ := g
    rw [e] at e'; cases e'
    rw [hl] at hl'; cases hl'
    rw [TR.uniq a c h1 g1, TR.uniq b d h2 g2]
section
variable {P : Program} {w : World} {H : Hp} {s : Shared}
theorem tag_eq (hok : HOk P w H s.heap) : ∀ (t t' : Tg) {x y : V} {u v : Value} {A : Around}, TR H x t → TR H y t' → RelV x u → RelV y v → A.units + t.dep < cLine → EqAt A s u v (decide (t = t'))
  | .num i, .num j, x, y, u, v, A, h, g, ru, rv, hu => by
    cases (show x = .int i from h); cases (show y = .int j from g)
    obtain ⟨tk, rfl⟩ := ru; obtain ⟨tl, rfl⟩ := rv
    have := EqAt.int_int (A := A) (s := s) i tk j tl
    rwa [show (i == j) = decide (Tg.num i = Tg.num j) by rw [Bool.eq_iff_iff]; simp] at this
  | .num i, .nam z, x, y, u, v, A, h, g, ru, rv, hu => by
    cases (show x = .int i from h); cases (show y = .str z from g)
    obtain ⟨tk, rfl⟩ := ru; obtain ⟨tl, rfl⟩ := rv
    exact EqAt.int_str i tk z tl
  | .num i, .par c d, x, y, u, v, A, h, g, ru, rv, hu => by
    cases (show x = .int i from h)
    obtain ⟨l, p, q, rfl, hl, _⟩ := g
    obtain ⟨tk, rfl⟩ := ru; cases rv
    obtain ⟨its, _, ht⟩ := tup_at hok hl
    exact EqAt.int_tuple i tk ht (by omega)
  | .nam z, .num j, x, y, u, v, A, h, g, ru, rv, hu => by
    cases (show x = .str z from h); cases (show y = .int j from g)
    obtain ⟨tk, rfl⟩ := ru; obtain ⟨tl, rfl⟩ := rv
    exact EqAt.str_int z tk j tl
  | .nam z, .nam o, x, y, u, v, A, h, g, ru, rv, hu => by
    cases (show x = .str z from h); cases (show y = .str o from g)
    obtain ⟨tk, rfl⟩ := ru; obtain ⟨tl, rfl⟩ := rv
    have := EqAt.str_str (A := A) (s := s) z tk o tl
    rwa [show (z == o) = decide (Tg.nam z = Tg.nam o) by rw [Bool.eq_iff_iff]; simp] at this
  | .nam z, .par c d, x, y, u, v, A, h, g, ru, rv, hu => by
    cases (show x = .str z from h)
    obtain ⟨l, p, q, rfl, hl, _⟩ := g
    obtain ⟨tk, rfl⟩ := ru; cases rv
    obtain ⟨its, _, ht⟩ := tup_at hok hl
    exact EqAt.str_tuple z tk ht (by omega)
  | .par a b, .num j, x, y, u, v, A, h, g, ru, rv, hu => by
    cases (show y = .int j from g)
    obtain ⟨l, p, q, rfl, hl, _⟩ := h
    obtain ⟨tl, rfl⟩ := rv; cases ru
    obtain ⟨its, _, ht⟩ := tup_at hok hl
    exact EqAt.tuple_int j tl ht (by omega)
  | .par a b, .nam z, x, y, u, v, A, h, g, ru, rv, hu => by
    cases (show y = .str z from g)
    obtain ⟨l, p, q, rfl, hl, _⟩ := h
    obtain ⟨tl, rfl⟩ := rv; cases ru
    obtain ⟨its, _, ht⟩ := tup_at hok hl
    exact EqAt.tuple_str z tl ht (by omega)
  | .par a b, .par c d, x, y, u, v, A, h, g, ru, rv, hu => by
    have hh := h
    obtain ⟨l, p, q, rfl, hl, h1, h2⟩ := h
    obtain ⟨l', p', q', rfl, hl', g1, g2⟩ := g
    cases ru; cases rv
    by_cases e : l = l'
    · subst e
      have e2 := TR.uniq (.par a b) (.par c d) hh ⟨l, p', q', rfl, hl', g1, g2⟩
      rw [decide_eq_true e2]
      exact EqAt.same _
    · obtain ⟨its, r, ht⟩ := tup_at hok hl
      obtain ⟨its', r', ht'⟩ := tup_at hok hl'
      obtain ⟨u1, u2, rfl, ru1, ru2⟩ := vals_two r
      obtain ⟨v1, v2, rfl, rv1, rv2⟩ := vals_two r'
      have d0 : (Tg.par a b).dep = max a.dep b.dep + 1 := rfl
      have i1 : A.in1.units = A.units + 1 := rfl
      have k1 := tag_eq hok a c (A := A.in1) h1 g1 ru1 rv1 (by omega)
      have k2 := tag_eq hok b d (A := A.in1) h2 g2 ru2 rv2 (by omega)
      refine EqAt.of_refs e ?_
      have := rc_tups (A := A) ht ht' (by omega) (.cons k1 (.cons k2 .nn))
      rwa [show (decide (a = c) && (decide (b = d) && true)) = decide (Tg.par a b = Tg.par c d) by rw [Bool.eq_iff_iff]; simp] at this
theorem KRt.uniq {H : Hp} : ∀ {x : V} (t t' : Tg), KRt H x t → KRt H x t' → t = t'
  | x, .num i, .num j, h, g => by obtain ⟨l, e, hl⟩ := h; obtain ⟨l', e', hl'⟩ := g; rw [e] at e'; cases e'; rw [hl] at hl'; cases hl'; rfl
  | x, .num i, .nam z, h, g => by obtain ⟨l, e, hl⟩ := h; obtain ⟨l', e', hl'⟩ := g; rw [e] at e'; cases e'; rw [hl] at hl'; cases hl'
  | x, .num i, .par c d, h, g => by obtain ⟨l, e, hl⟩ := h; obtain ⟨l', p, q, e', hl', _⟩ := g; rw [e] at e'; cases e'; rw [hl] at hl'; cases hl'
  | x, .nam z, .num j, h, g => by obtain ⟨l, e, hl⟩ := h; obtain ⟨l', e', hl'⟩ := g; rw [e] at e'; cases e'; rw [hl] at hl'; cases hl'
  | x, .nam z, .nam y, h, g => by obtain ⟨l, e, hl⟩ := h; obtain ⟨l', e', hl'⟩ := g; rw [e] at e'; cases e'; rw [hl] at hl'; cases hl'; rfl
  | x, .nam z, .par c d, h, g => by obtain ⟨l, e, hl⟩ := h; obtain ⟨l', p, q, e', hl', _⟩ := g; rw [e] at e'; cases e'; rw [hl] at hl'; cases hl'
  | x, .par a b, .num j, h, g => by obtain ⟨l, p, q, e, hl, _⟩ := h; obtain ⟨l', e', hl'⟩ := g; rw [e] at e'; cases e'; rw [hl] at hl'; cases hl'
  | x, .par a b, .nam z, h, g => by obtain ⟨l, p, q, e, hl, _⟩ := h; obtain ⟨l', e', hl'⟩ := g; rw [e] at e'; cases e'; rw [hl] at hl'; cases hl'
  | x, .par a b, .par c d, h, g => by
    obtain ⟨l, p, q, e, hl, h1, h2⟩ := h
    obtain ⟨l', p', q', e', hl', g1, g2⟩ := g
    rw [e] at e'; cases e'
    rw [hl] at hl'; cases hl'
    rw [KRt.uniq a c h1 g1, KRt.uniq b d h2 g2]
def kVals (H : Hp) (t : Tg) (vs : List V) : Prop := match t with
  | .num i => vs = [.int 0, .int i]
  | .nam z => vs = [.int 1, .str z]
  | .par a b => ∃ p q, vs = [.int 2, p, q] ∧ KRt H p a ∧ KRt H q b
theorem KRt.get {H : Hp} {x : V} : ∀ (t : Tg), KRt H x t → ∃ l vs, x = .ref l ∧ H l = some (.tup vs) ∧ kVals H t vs
  | .num i, h => by obtain ⟨l, e, hl⟩ := h; exact ⟨l, _, e, hl, rfl⟩
  | .nam z, h => by obtain ⟨l, e, hl⟩ := h; exact ⟨l, _, e, hl, rfl⟩
  | .par a b, h => by obtain ⟨l, p, q, e, hl, h1, h2⟩ := h; exact ⟨l, _, e, hl, p, q, rfl, h1, h2⟩
theorem eq_int {A : Around} {i j : Int} {u v : Value} (r : RelV (.int i) u) (r' : RelV (.int j) v) : EqAt A s u v (decide (i = j)) := by
  obtain ⟨tk, rfl⟩ := r; obtain ⟨tl, rfl⟩ := r'
  have := EqAt.int_int (A := A) (s := s) i tk j tl
  rwa [show (i == j) = decide (i = j) by rw [Bool.eq_iff_iff]; simp] at this
theorem eq_str {A : Around} {i j : Str} {u v : Value} (r : RelV (.str i) u) (r' : RelV (.str j) v) : EqAt A s u v (decide (i = j)) := by
  obtain ⟨tk, rfl⟩ := r; obtain ⟨tl, rfl⟩ := r'
  have := EqAt.str_str (A := A) (s := s) i tk j tl
  rwa [show (i == j) = decide (i = j) by rw [Bool.eq_iff_iff]; simp] at this
mutual
theorem key_eq (hok : HOk P w H s.heap) : ∀ (t t' : Tg) {x y : V} {u v : Value} {A : Around}, KRt H x t → KRt H y t' → RelV x u → RelV y v → A.units + t.dep + 1 < cLine → EqAt A s u v (decide (t = t')) := fun t t' {x y u v A} h g ru rv hu => by
    obtain ⟨l, vs, rfl, hl, kv⟩ := h.get
    obtain ⟨l', vs', rfl, hl', kv'⟩ := g.get
    cases ru; cases rv
    by_cases e : l = l'
    · subst e
      rw [decide_eq_true (KRt.uniq t t' h g)]
      exact EqAt.same _
    · obtain ⟨its, r, ht⟩ := tup_at hok hl
      obtain ⟨its', r', ht'⟩ := tup_at hok hl'
      exact EqAt.of_refs e (rc_tups ht ht' (by omega) (key_eqL hok t t' kv kv' r r' hu))
theorem key_eqL (hok : HOk P w H s.heap) : ∀ (t t' : Tg) {vs vs' : List V} {us us' : List Value} {A : Around}, kVals H t vs → kVals H t' vs' → Vals vs us → Vals vs' us' → A.units + t.dep + 1 < cLine → EqL A.in1 s us us' (decide (t = t')) 
  | .num i, .num j, vs, vs', us, us', A, k, k', r, r', hu => by
    cases (show vs = _ from k); cases (show vs' = _ from k')
    obtain ⟨u1, u2, rfl, ru1, ru2⟩ := vals_two r
    obtain ⟨v1, v2, rfl, rv1, rv2⟩ := vals_two r'
    have := EqL.cons (eq_int (A := A.in1) (s := s) ru1 rv1) (.cons (eq_int ru2 rv2) .nn)
    rwa [show (decide ((0 : Int) = 0) && (decide (i = j) && true)) = decide (Tg.num i = Tg.num j) by rw [Bool.eq_iff_iff]; simp] at this
  | .num i, .nam z, vs, vs', us, us', A, k, k', r, r', hu => by
    cases (show vs = _ from k); cases (show vs' = _ from k')
    obtain ⟨u1, u2, rfl, ru1, ru2⟩ := vals_two r
    obtain ⟨v1, v2, rfl, rv1, rv2⟩ := vals_two r'
    obtain ⟨tk, rfl⟩ := ru2; obtain ⟨tl, rfl⟩ := rv2
    exact EqL.cons (eq_int (A := A.in1) (s := s) ru1 rv1) (.cons (EqAt.int_str i tk z tl) .nn)
  | .num i, .par c d, vs, vs', us, us', A, k, k', r, r', hu => by
    cases (show vs = _ from k)
    obtain ⟨p, q, rfl, h1, h2⟩ := k'
    obtain ⟨u1, u2, rfl, ru1, ru2⟩ := vals_two r
    obtain ⟨v1, v2, v3, rfl, rv1, rv2, rv3⟩ := vals_three r'
    obtain ⟨l, ws, rfl, hl, _⟩ := h1.get
    obtain ⟨its, _, ht⟩ := tup_at hok hl
    obtain ⟨tk, rfl⟩ := ru2; cases rv2
    exact EqL.cons (eq_int (A := A.in1) (s := s) ru1 rv1) (.cons (EqAt.int_tuple i tk ht (by show A.units + 1 < cLine; omega)) .nc)
  | .nam z, .num j, vs, vs', us, us', A, k, k', r, r', hu => by
    cases (show vs = _ from k); cases (show vs' = _ from k')
    obtain ⟨u1, u2, rfl, ru1, ru2⟩ := vals_two r
    obtain ⟨v1, v2, rfl, rv1, rv2⟩ := vals_two r'
    obtain ⟨tk, rfl⟩ := ru2; obtain ⟨tl, rfl⟩ := rv2
    exact EqL.cons (eq_int (A := A.in1) (s := s) ru1 rv1) (.cons (EqAt.str_int z tk j tl) .nn)
  | .nam z, .nam y, vs, vs', us, us', A, k, k', r, r', hu => by
    cases (show vs = _ from k); cases (show vs' = _ from k')
    obtain ⟨u1, u2, rfl, ru1, ru2⟩ := vals_two r
    obtain ⟨v1, v2, rfl, rv1, rv2⟩ := vals_two r'
    have := EqL.cons (eq_int (A := A.in1) (s := s) ru1 rv1) (.cons (eq_str ru2 rv2) .nn)
    rwa [show (decide ((1 : Int) = 1) && (decide (z = y) && true)) = decide (Tg.nam z = Tg.nam y) by rw [Bool.eq_iff_iff]; simp] at this
  | .nam z, .par c d, vs, vs', us, us', A, k, k', r, r', hu => by
    cases (show vs = _ from k)
    obtain ⟨p, q, rfl, h1, h2⟩ := k'
    obtain ⟨u1, u2, rfl, ru1, ru2⟩ := vals_two r
    obtain ⟨v1, v2, v3, rfl, rv1, rv2, rv3⟩ := vals_three r'
    obtain ⟨l, ws, rfl, hl, _⟩ := h1.get
    obtain ⟨its, _, ht⟩ := tup_at hok hl
    obtain ⟨tk, rfl⟩ := ru2; cases rv2
    exact EqL.cons (eq_int (A := A.in1) (s := s) ru1 rv1) (.cons (EqAt.str_tuple z tk ht (by show A.units + 1 < cLine; omega)) .nc)
  | .par a b, .num j, vs, vs', us, us', A, k, k', r, r', hu => by
    cases (show vs' = _ from k')
    obtain ⟨p, q, rfl, h1, h2⟩ := k
    obtain ⟨u1, u2, u3, rfl, ru1, ru2, ru3⟩ := vals_three r
    obtain ⟨v1, v2, rfl, rv1, rv2⟩ := vals_two r'
    obtain ⟨l, ws, rfl, hl, _⟩ := h1.get
    obtain ⟨its, _, ht⟩ := tup_at hok hl
    obtain ⟨tk, rfl⟩ := rv2; cases ru2
    exact EqL.cons (eq_int (A := A.in1) (s := s) ru1 rv1) (.cons (EqAt.tuple_int j tk ht (by show A.units + 1 < cLine; omega)) .cn)
  | .par a b, .nam z, vs, vs', us, us', A, k, k', r, r', hu => by
    cases (show vs' = _ from k')
    obtain ⟨p, q, rfl, h1, h2⟩ := k
    obtain ⟨u1, u2, u3, rfl, ru1, ru2, ru3⟩ := vals_three r
    obtain ⟨v1, v2, rfl, rv1, rv2⟩ := vals_two r'
    obtain ⟨l, ws, rfl, hl, _⟩ := h1.get
    obtain ⟨its, _, ht⟩ := tup_at hok hl
    obtain ⟨tk, rfl⟩ := rv2; cases ru2
    exact EqL.cons (eq_int (A := A.in1) (s := s) ru1 rv1) (.cons (EqAt.tuple_str z tk ht (by show A.units + 1 < cLine; omega)) .cn)
  | .par a b, .par c d, vs, vs', us, us', A, k, k', r, r', hu => by
    obtain ⟨p, q, rfl, h1, h2⟩ := k
    obtain ⟨p', q', rfl, g1, g2⟩ := k'
    obtain ⟨u1, u2, u3, rfl, ru1, ru2, ru3⟩ := vals_three r
    obtain ⟨v1, v2, v3, rfl, rv1, rv2, rv3⟩ := vals_three r'
    have d0 : (Tg.par a b).dep = max a.dep b.dep + 1 := rfl
    have i1 : A.in1.units = A.units + 1 := rfl
    have := EqL.cons (eq_int (A := A.in1) (s := s) ru1 rv1) (.cons (key_eq hok a c h1 g1 ru2 rv2 (by omega)) (.cons (key_eq hok b d h2 g2 ru3 rv3 (by omega)) .nn))
    rwa [show (decide ((2 : Int) = 2) && (decide (a = c) && (decide (b = d) && true))) = decide (Tg.par a b = Tg.par c d) by rw [Bool.eq_iff_iff]; simp] at this
end
end
end L2
end
section
set_option Elab.async false
set_option linter.all false
set_option maxRecDepth 100000
set_option maxHeartbeats 2000000
namespace L2
open PySem PySem.Spec PyProof.Rows PySem.SeqAt
section
variable {P : Program} {w : World} {H : Hp} {s : Shared}
theorem lt_intAt {A : Around} {i j : Int} {u v : Value} (r : RelV (.int i) u) (r' : RelV (.int j) v) : LtAt A s u v (decide (i < j)) := fun prog w E Q h => by
  obtain ⟨tk, rfl⟩ := r; obtain ⟨tl, rfl⟩ := r'
  exact (PyProof.Rows.lt_int h : wpAny (model prog w) A (compareOp .Lt (.int i tk) (.int j tl)) Q E s)
theorem lt_strAt {A : Around} {i j : Str} {u v : Value} (r : RelV (.str i) u) (r' : RelV (.str j) v) : LtAt A s u v (slt i j) := fun prog w E Q h => by
  obtain ⟨tk, rfl⟩ := r; obtain ⟨tl, rfl⟩ := r'
  exact (PyProof.Rows.lt_str h : wpAny (model prog w) A (compareOp .Lt (.str i tk) (.str j tl)) Q E s)
def KLx (A : Around) (s : Shared) (t t' : Tg) (us us' : List Value) : Prop := ∃ u v us1 us1', us = u :: us1 ∧ us' = v :: us1' ∧ RelV (.int (kNum t)) u ∧ RelV (.int (kNum t')) v ∧ (kNum t = kNum t' → Lex A s us1 us1' (tlt t t')) ∧ (kNum t ≠ kNum t' → tlt t t' = decide (kNum t < kNum t'))
theorem KLx.lex {A : Around} {t t' : Tg} {us us' : List Value} (h : KLx A s t t' us us') : Lex A s us us' (tlt t t') := by
  obtain ⟨u, v, us1, us1', rfl, rfl, ru, rv, h1, h2⟩ := h
  have e := eq_int (A := A) (s := s) ru rv
  by_cases z : kNum t = kNum t'
  · rw [decide_eq_true z] at e
    exact .eq e (h1 z)
  · rw [decide_eq_false z] at e
    rw [h2 z]
    exact .lt e (lt_intAt ru rv)
theorem key_lex (hok : HOk P w H s.heap) : ∀ (t t' : Tg) {vs vs' : List V} {us us' : List Value} {A : Around}, kVals H t vs → kVals H t' vs' → Vals vs us → Vals vs' us' → A.units + t.dep + 1 < cLine → KLx A s t t' us us'
  | .num i, .num j, vs, vs', us, us', A, k, k', r, r', hu => by
    cases (show vs = _ from k); cases (show vs' = _ from k')
    obtain ⟨u1, u2, rfl, ru1, ru2⟩ := vals_two r
    obtain ⟨v1, v2, rfl, rv1, rv2⟩ := vals_two r'
    refine ⟨_, _, _, _, rfl, rfl, ru1, rv1, fun _ => ?_, fun z => absurd rfl z⟩
    have e := eq_int (A := A) (s := s) ru2 rv2
    by_cases z : i = j
    · rw [decide_eq_true z] at e
      have t0 : tlt (.num i) (.num j) = false := decide_eq_false (by omega)
      rw [t0]
      exact .eq e .nn
    · rw [decide_eq_false z] at e
      exact .lt e (lt_intAt ru2 rv2)
  | .num i, .nam z, vs, vs', us, us', A, k, k', r, r', hu => by
    cases (show vs = _ from k); cases (show vs' = _ from k')
    obtain ⟨u1, u2, rfl, ru1, ru2⟩ := vals_two r
    obtain ⟨v1, v2, rfl, rv1, rv2⟩ := vals_two r'
    exact ⟨_, _, _, _, rfl, rfl, ru1, rv1, (fun z => by cases z), fun _ => rfl⟩
  | .num i, .par c d, vs, vs', us, us', A, k, k', r, r', hu => by
    cases (show vs = _ from k)
    obtain ⟨p, q, rfl, h1, h2⟩ := k'
    obtain ⟨u1, u2, rfl, ru1, ru2⟩ := vals_two r
    obtain ⟨v1, v2, v3, rfl, rv1, rv2, rv3⟩ := vals_three r'
    exact ⟨_, _, _, _, rfl, rfl, ru1, rv1, (fun z => by cases z), fun _ => rfl⟩
  | .nam z, .num j, vs, vs', us, us', A, k, k', r, r', hu => by
    cases (show vs = _ from k); cases (show vs' = _ from k')
    obtain ⟨u1, u2, rfl, ru1, ru2⟩ := vals_two r
    obtain ⟨v1, v2, rfl, rv1, rv2⟩ := vals_two r'
    exact ⟨_, _, _, _, rfl, rfl, ru1, rv1, (fun z => by cases z), fun _ => rfl⟩
  | .nam z, .nam y, vs, vs', us, us', A, k, k', r, r', hu => by
    cases (show vs = _ from k); cases (show vs' = _ from k')
    obtain ⟨u1, u2, rfl, ru1, ru2⟩ := vals_two r
    obtain ⟨v1, v2, rfl, rv1, rv2⟩ := vals_two r'
    refine ⟨_, _, _, _, rfl, rfl, ru1, rv1, fun _ => ?_, fun z => absurd rfl z⟩
    have e := eq_str (A := A) (s := s) ru2 rv2
    by_cases q : z = y
    · rw [decide_eq_true q] at e
      have t0 : tlt (.nam z) (.nam y) = false := by rw [q]; exact slt_irr y
      rw [t0]
      exact .eq e .nn
    · rw [decide_eq_false q] at e
      exact .lt e (lt_strAt ru2 rv2)
  | .nam z, .par c d, vs, vs', us, us', A, k, k', r, r', hu => by
    cases (show vs = _ from k)
    obtain ⟨p, q, rfl, h1, h2⟩ := k'
    obtain ⟨u1, u2, rfl, ru1, ru2⟩ := vals_two r
    obtain ⟨v1, v2, v3, rfl, rv1, rv2, rv3⟩ := vals_three r'
    exact ⟨_, _, _, _, rfl, rfl, ru1, rv1, (fun z => by cases z), fun _ => rfl⟩
  | .par a b, .num j, vs, vs', us, us', A, k, k', r, r', hu => by
    cases (show vs' = _ from k')
    obtain ⟨p, q, rfl, h1, h2⟩ := k
    obtain ⟨u1, u2, u3, rfl, ru1, ru2, ru3⟩ := vals_three r
    obtain ⟨v1, v2, rfl, rv1, rv2⟩ := vals_two r'
    exact ⟨_, _, _, _, rfl, rfl, ru1, rv1, (fun z => by cases z), fun _ => rfl⟩
  | .par a b, .nam z, vs, vs', us, us', A, k, k', r, r', hu => by
    cases (show vs' = _ from k')
    obtain ⟨p, q, rfl, h1, h2⟩ := k
    obtain ⟨u1, u2, u3, rfl, ru1, ru2, ru3⟩ := vals_three r
    obtain ⟨v1, v2, rfl, rv1, rv2⟩ := vals_two r'
    exact ⟨_, _, _, _, rfl, rfl, ru1, rv1, (fun z => by cases z), fun _ => rfl⟩
  | .par a b, .par c d, vs, vs', us, us', A, k, k', r, r', hu => by
    obtain ⟨p, q, rfl, h1, h2⟩ := k
    obtain ⟨p', q', rfl, g1, g2⟩ := k'
    obtain ⟨u1, u2, u3, rfl, ru1, ru2, ru3⟩ := vals_three r
    obtain ⟨v1, v2, v3, rfl, rv1, rv2, rv3⟩ := vals_three r'
    have d0 : (Tg.par a b).dep = max a.dep b.dep + 1 := rfl
    have i1 : A.in1.units = A.units + 1 := rfl
    refine ⟨_, _, _, _, rfl, rfl, ru1, rv1, fun _ => ?_, fun z => absurd rfl z⟩
    have sub : ∀ (t t' : Tg) {x y : V} {u v : Value}, (∀ {vs vs' : List V} {us us' : List Value}, kVals H t vs → kVals H t' vs' → Vals vs us → Vals vs' us' → KLx A.in1 s t t' us us') → KRt H x t → KRt H y t' → RelV x u → RelV y v → LtAt A s u v (tlt t t') := fun t t' {x y u v} ih h g ru rv => by
      obtain ⟨l, vs, rfl, hl, kv⟩ := h.get
      obtain ⟨l', vs', rfl, hl', kv'⟩ := g.get
      cases ru; cases rv
      obtain ⟨its, r, ht⟩ := tup_at hok hl
      obtain ⟨its', r', ht'⟩ := tup_at hok hl'
      exact lt_tups ht ht' (by simpa using (ih kv kv' r r').lex) (by omega)
    have e1 := key_eq hok a c (A := A) h1 g1 ru2 rv2 (by omega)
    have et : tlt (.par a b) (.par c d) = if a = c then tlt b d else tlt a c := rfl
    rw [et]
    by_cases z : a = c
    · rw [decide_eq_true z] at e1
      rw [if_pos z]
      refine .eq e1 ?_
      have e2 := key_eq hok b d (A := A) h2 g2 ru3 rv3 (by omega)
      by_cases y : b = d
      · rw [decide_eq_true y] at e2
        rw [y, tlt_irr]
        exact .eq e2 .nn
      · rw [decide_eq_false y] at e2
        exact .lt e2 (sub b d (fun k k' r r' => key_lex hok b d k k' r r' (by omega)) h2 g2 ru3 rv3)
    · rw [decide_eq_false z] at e1
      rw [if_neg z]
      exact .lt e1 (sub a c (fun k k' r r' => key_lex hok a c k k' r r' (by omega)) h1 g1 ru2 rv2)
theorem kat_of_lex {prog : Program} {w : World} {A : Around} {fin r : Bool} {N1 N2 : Nat} (hf : fin = decide (N1 < N2)) {Q : Bool → Shared → Prop} (h : Q r s) : ∀ {vs ws : List Value} (i : Nat), 1 ≤ i → Lex A s vs ws r → vs.length + N2 = ws.length + N1 → PySem.W.KatLex prog w A true fin Q (vs.zip ws) i s
  | _, _, i, hi, .nn, hl => by
    show Q fin s
    rw [hf, show decide (N1 < N2) = false from decide_eq_false (by simp only [List.length_nil] at hl; omega)]
    exact h
  | _, _, i, hi, .nc, hl => by
    show Q fin s
    rw [hf, show decide (N1 < N2) = true from decide_eq_true (by simp only [List.length_nil, List.length_cons] at hl; omega)]
    exact h
  | _, _, i, hi, .cn, hl => by
    rw [List.zip_nil_right]
    show Q fin s
    rw [hf, show decide (N1 < N2) = false from decide_eq_false (by simp only [List.length_nil, List.length_cons] at hl; omega)]
    exact h
  | _, _, i, hi, .eq he hx, hl => by
    rw [List.zip_cons_cons]
    exact PySem.W.kat_cons (he prog w _ _ (PySem.W.kat_yes (kat_of_lex hf h (i + 1) (by omega) hx (by simp only [List.length_cons] at hl; omega))))
  | _, _, i, hi, .lt he hlt, hl => by
    rw [List.zip_cons_cons]
    refine PySem.W.kat_cons (he prog w _ _ (PySem.W.kat_no ?_))
    have e0 : (true && i == 0) = false := by
      have : (i == 0) = false := beq_eq_false_iff_ne.mpr (by omega)
      rw [this]; rfl
    rw [e0]
    exact PySem.W.kat_one _ _ (hlt prog w _ _ h)
end
theorem klt_of {X : Cx} {H : Hp} {x y : V} {t t' : Tg} (h : KRt H x t) (g : KRt H y t') (hd : t.dep ≤ 50) : KLt X H x y (tlt t t') := fun A s u v Q hu hok ru rv hq => by
  obtain ⟨l, vs, rfl, hl, kv⟩ := h.get
  obtain ⟨l', vs', rfl, hl', kv'⟩ := g.get
  cases ru; cases rv
  obtain ⟨its, r, ht⟩ := tup_at hok hl
  obtain ⟨its', r', ht'⟩ := tup_at hok hl'
  have lx := key_lex hok t t' (A := A) kv kv' r r' (by omega)
  obtain ⟨o, ho, _, n, hd'⟩ := ht
  obtain ⟨o', ho', _, n', hd''⟩ := ht'
  refine PySem.W.kat_lt ho hd' ho' hd'' ?_
  obtain ⟨u, v, us1, us1', rfl, rfl, ru, rv, h1, h2⟩ := lx
  have e := eq_int (A := A) (s := s) ru rv
  show PySem.W.KatLex X.prog X.w A true _ Q ((u :: us1).zip (v :: us1')) 0 s
  rw [List.zip_cons_cons]
  by_cases z : kNum t = kNum t'
  · rw [decide_eq_true z] at e
    exact PySem.W.kat_cons (e X.prog X.w _ _ (PySem.W.kat_yes (kat_of_lex (N1 := (u :: us1).length) (N2 := (v :: us1').length) (by simp) hq 1 (Nat.le_refl _) (h1 z) (by simp only [List.length_cons]; omega))))
  · rw [decide_eq_false z] at e
    refine PySem.W.kat_cons (e X.prog X.w _ _ (PySem.W.kat_no ?_))
    obtain ⟨tk, rfl⟩ := ru; obtain ⟨tl, rfl⟩ := rv
    refine oneLt_int ?_
    rw [← h2 z]
    exact hq
section
variable {X : Cx}
def rLtKey : R2 := fun x y H Q => ∃ t t', KRt H x t ∧ KRt H y t' ∧ t.dep ≤ 50 ∧ Q (.bl (tlt t t')) H
def rEqKey : R2 := fun x y H Q => ∃ t t', KRt H x t ∧ KRt H y t' ∧ t.dep ≤ 50 ∧ Q (.bl (decide (t = t'))) H
theorem op_ltKey (hu : X.A.units + 100 < cLine) : OpR X (compareOp .Lt) rLtKey := by
  intro pins s σ H x y v u Q I rx ry h
  obtain ⟨t, t', k, k', hd, q⟩ := h
  obtain ⟨l, vs, rfl, hl, kv⟩ := k.get
  obtain ⟨l', vs', rfl, hl', kv'⟩ := k'.get
  cases rx; cases ry
  obtain ⟨its, r, ht⟩ := tup_at I.hok hl
  obtain ⟨its', r', ht'⟩ := tup_at I.hok hl'
  have lx := key_lex I.hok t t' (A := X.A.in1) kv kv' r r' (by show X.A.units + 1 + t.dep + 1 < cLine; omega)
  exact lt_tups ht ht' (by simpa using lx.lex) (by omega) X.prog X.w _ _ (fin_bl I q rfl)
theorem op_eqKey (hu : X.A.units + 100 < cLine) : OpR X (compareOp .Eq) rEqKey := by
  intro pins s σ H x y v u Q I rx ry h
  obtain ⟨t, t', k, k', hd, q⟩ := h
  obtain ⟨l, vs, rfl, hl, kv⟩ := k.get
  obtain ⟨l', vs', rfl, hl', kv'⟩ := k'.get
  cases rx; cases ry
  obtain ⟨its, r, ht⟩ := tup_at I.hok hl
  obtain ⟨its', r', ht'⟩ := tup_at I.hok hl'
  exact rc_tups ht ht' (by omega) (key_eqL I.hok t t' kv kv' r r' (by omega)) X.prog X.w _ _ (fin_bl I q rfl)
def TRs (H : Hp) : List V → List Tg → Prop
  | [], [] => True
  | x :: xs, t :: ts => TR H x t ∧ TRs H xs ts
  | _, _ => False
theorem tags_eqL {P : Program} {w : World} {H : Hp} {s : Shared} {A : Around} (hok : HOk P w H s.heap) (hu : A.units + 50 < cLine) : ∀ {xs ys : List V} {ts ts' : List Tg} {us vs : List Value}, TRs H xs ts → TRs H ys ts' → Vals xs us → Vals ys vs → (∀ t ∈ ts, t.dep ≤ 50) → EqL A s us vs (decide (ts = ts'))
  | [], [], [], [], _, _, _, _, .nil, .nil, _ => .nn
  | [], y :: ys, [], t' :: ts', _, _, _, _, .nil, .cons _ _, _ => .nc
  | x :: xs, [], t :: ts, [], _, _, _, _, .cons _ _, .nil, _ => .cn
  | x :: xs, y :: ys, t :: ts, t' :: ts', _, _, h, g, .cons r1 r2, .cons q1 q2, hd => by
    have e1 := tag_eq hok t t' (A := A) h.1 g.1 r1 q1 (by have := hd t List.mem_cons_self; omega)
    have e2 := tags_eqL hok hu h.2 g.2 r2 q2 fun t m => hd t (List.mem_cons_of_mem _ m)
    have := EqL.cons e1 e2
    rwa [show (decide (t = t') && decide (ts = ts')) = decide (t :: ts = t' :: ts') by rw [Bool.eq_iff_iff]; simp] at this
  | [], _, _ :: _, _, _, _, h, _, _, _, _ => h.elim
  | _ :: _, _, [], _, _, _, h, _, _, _, _ => h.elim
  | _, [], _, _ :: _, _, _, _, g, _, _, _ => g.elim
  | _, _ :: _, _, [], _, _, _, g, _, _, _ => g.elim
def rEqTags (K : PySem.W.Frag) : R2 := fun x y H Q => ∃ a b xs ys ts ts', x = .ref a ∧ y = .ref b ∧ SqL K H a xs ∧ SqL K H b ys ∧ TRs H xs ts ∧ TRs H ys ts' ∧ (∀ t ∈ ts, t.dep ≤ 50) ∧ Q (.bl (decide (ts = ts'))) H
theorem op_eqTags (hu : X.A.units + 100 < cLine) : OpR X (compareOp .Eq) (rEqTags X.K) := by
  intro pins s σ H x y v u Q I rx ry h
  obtain ⟨a, b, xs, ys, ts, ts', rfl, rfl, ha, hb, h1, h2, hd, q⟩ := h
  cases rx; cases ry
  obtain ⟨its, r1, p1, _⟩ := I.list ha
  obtain ⟨its2, r2, p2, _⟩ := I.list hb
  exact rc_lists p1.isList p2.isList (by omega) (tags_eqL I.hok (by show X.A.units + 1 + 50 < cLine; omega) h1 h2 r1 r2 hd) X.prog X.w _ _ (fin_bl I q rfl)
end
end L2
namespace L2
open PySem
section
variable {X : Cx} {k : Nat} {ps : List Str} {sp : Sp} {x : Str} {p pos kp pk : Pos} {e : Expr} {ta : TA}
theorem qe_sortK (C : Callee X.prog X.w X.K X.mg X.base x ps k sp) (hr : Room (k + 2) X.A) (hg : Gl X "sorted") (hm : X.mg "sorted" = none) (hgx : Gl X x) (ha : QA X [e] ta) (hst : isStar e = false := by rfl) (hdb : (x == ("__debug__" : Str)) = false := by decide) :
    QE X (.Call (.Name "sorted" p) [e] [⟨some "key", .Name x pk, kp⟩] pos) (tSortK X sp ta) := ⟨pe_sortK C hr hg hm hgx ha.p hst hdb⟩
end
end L2
namespace L2
open PySem PySem.Spec PyProof.Rows
section
variable {X : Cx}
theorem op_gtIS : OpR X (compareOp .Gt) (fun x y H Q => (∃ i j, x = .int i ∧ y = .int j ∧ Q (.bl (decide (j < i))) H) ∨ (∃ i j, x = .str i ∧ y = .str j ∧ Q (.bl (slt j i)) H)) := by
  intro pins s σ H x y v u Q I rx ry h
  rcases h with ⟨i, j, rfl, rfl, q⟩ | ⟨i, j, rfl, rfl, q⟩
  · obtain ⟨t, rfl⟩ := rx
    obtain ⟨t', rfl⟩ := ry
    exact gt_int (fin_bl I q rfl)
  · obtain ⟨t, rfl⟩ := rx
    obtain ⟨t', rfl⟩ := ry
    exact PySem.P.gt_str (fin_bl I q rfl)
end
theorem Same.tups {H H' : Hp} (s : Same H H') : Tups H H' := fun t l e => s t _ e
theorem Tups.trans {H H1 H2 : Hp} (a : Tups H H1) (b : Tups H1 H2) : Tups H H2 := fun t l e => b t l (a t l e)
theorem Tups.upd {H : Hp} {a : Addr} {xs ys : List V} (h : H a = some (.lst xs)) : Tups H (upd H a (.lst ys)) := fun t l e => by
  rw [upd_ne (fun z => by rw [z, h] at e; cases e)]
  exact e
theorem TRs.mono {H H' : Hp} (k : Tups H H') : ∀ {xs : List V} {ts : List Tg}, TRs H xs ts → TRs H' xs ts
  | [], [], h => h
  | x :: xs, t :: ts, h => ⟨TR.mono k t h.1, h.2.mono k⟩
  | [], _ :: _, h => h.elim
  | _ :: _, [], h => h.elim
theorem TRs.len {H : Hp} : ∀ {xs : List V} {ts : List Tg}, TRs H xs ts → xs.length = ts.length
  | [], [], _ => rfl
  | x :: xs, t :: ts, h => by rw [List.length_cons, List.length_cons, TRs.len h.2]
  | [], _ :: _, h => h.elim
  | _ :: _, [], h => h.elim
theorem TRs.at {H : Hp} : ∀ {xs : List V} {ts : List Tg} {k : Nat} {x : V}, TRs H xs ts → xs[k]? = some x → ∃ t, ts[k]? = some t ∧ TR H x t
  | [], [], _, _, _, e => by simp at e
  | x :: xs, t :: ts, 0, y, h, e => by
    have e : x = y := Option.some.inj e
    exact ⟨t, rfl, e ▸ h.1⟩
  | x :: xs, t :: ts, k + 1, y, h, e => TRs.at (k := k) h.2 e
  | [], _ :: _, _, _, h, _ => h.elim
  | _ :: _, [], _, _, h, _ => h.elim
theorem TRs.app {H : Hp} {ys : List V} {us : List Tg} : ∀ {xs : List V} {ts : List Tg}, TRs H xs ts → TRs H ys us → TRs H (xs ++ ys) (ts ++ us)
  | [], [], _, h => h
  | x :: xs, t :: ts, h, h' => ⟨h.1, TRs.app h.2 h'⟩
  | [], _ :: _, h, _ => h.elim
  | _ :: _, [], h, _ => h.elim
theorem TRs.drop {H : Hp} : ∀ {xs : List V} {ts : List Tg} (k : Nat), TRs H xs ts → TRs H (xs.drop k) (ts.drop k)
  | [], [], k, _ => by simp only [List.drop_nil]; trivial
  | x :: xs, t :: ts, 0, h => h
  | x :: xs, t :: ts, k + 1, h => TRs.drop k h.2
  | [], _ :: _, _, h => h.elim
  | _ :: _, [], _, h => h.elim
theorem TRs.take {H : Hp} : ∀ {xs : List V} {ts : List Tg} (k : Nat), TRs H xs ts → TRs H (xs.take k) (ts.take k)
  | [], [], k, _ => by simp only [List.take_nil]; trivial
  | x :: xs, t :: ts, 0, h => trivial
  | x :: xs, t :: ts, k + 1, h => ⟨h.1, TRs.take k h.2⟩
  | [], _ :: _, _, h => h.elim
  | _ :: _, [], _, h => h.elim
end L2
namespace L2
theorem hu100 {A : PySem.Around} {k : Nat} (hr : Room k A) : A.units + 100 < PySem.cLine := by have := hr.un; omega
end L2
end
section
set_option Elab.async false
set_option linter.all false
set_option maxRecDepth 100000
set_option maxHeartbeats 4000000
namespace L2G
open PySem PySem.Spec PyProof.Rows
class Ask where
  num : Keyed → Int
  IsI : Keyed → Prop
  kd : SortKind
variable [Ask]
def gallop' : Bool → Keyed → Array Keyed → Nat → Nat → Nat → StateT SortSt Sem (Option Nat) := sortPriv% PySem.Builtin.gallop
def num (x : Keyed) : Int := Ask.num x
def IsI (x : Keyed) : Prop := Ask.IsI x
class AskLt (prog : Program) (w : World) (A : Around) (s : Shared) : Prop where
  lt : ∀ {x y : Keyed} {Q : Bool → Shared → Prop}, IsI x → IsI y → Q (decide (num x < num y)) s → wpAny (model prog w) A (keyLt' Ask.kd x.1 y.1) Q (fun _ _ => False) s
def nth (arr : Array Keyed) (i : Nat) : Keyed := arr.getD i (.none, .none)
theorem nth_some {arr : Array Keyed} {i : Nat} (h : i < arr.size) : arr[i]? = some (nth arr i) := by
  unfold nth
  rw [Array.getD_eq_getD_getElem?, getElem?_pos arr i h]
  rfl
theorem nth_of {arr : Array Keyed} {i : Nat} {x : Keyed} (h : arr[i]? = some x) : nth arr i = x := by
  unfold nth
  rw [Array.getD_eq_getD_getElem?, h]
  rfl
def AllI (arr : Array Keyed) : Prop := ∀ i, i < arr.size → IsI (nth arr i)
section
variable {prog : Program} {w : World} {A : Around} {E : Value → Shared → Prop} {s : Shared} {st : SortSt}
variable [AskLt prog w A s]
theorem tm_lt {x y : Keyed} {Q : Option Bool → SortSt → Prop} (hk : kindOf st = Ask.kd) (hx : IsI x) (hy : IsI y) (h : Q (some (decide (num x < num y))) st) : wpS (model prog w) A E s (lt' x y) Q st := by
  obtain ⟨x1, x2⟩ := x
  obtain ⟨y1, y2⟩ := y
  exact wpS_bind (wpS_get (wpS_bind (wpS_lift (wpAny_attempt (show wpAny _ _ (keyLt' (kindOf st) x1 y1) _ _ _ by
    rw [hk]
    exact wpAny_mono (AskLt.lt (x := (x1, x2)) (y := (y1, y2)) hx hy (show _ from ⟨rfl, wpS_pure h⟩)) (fun _ _ q => q) fun _ _ q => q.elim)))))
theorem tm_elem {arr : Array Keyed} {i : Nat} {Q : Keyed → SortSt → Prop} (hi : i < arr.size) (h : Q (nth arr i) st) : wpS (model prog w) A E s (elem' arr i) Q st := by
  rw [elem'_eq, nth_some hi]
  exact wpS_pure h
def near (left : Bool) (key x : Keyed) : Bool := if left = true then decide (num x < num key) else !decide (num key < num x)
def nearM (left : Bool) (key : Keyed) (arr : Array Keyed) (b i : Nat) : StateT SortSt Sem (Option Bool) := elem' arr (b + i) >>= fun x => if left = true then lt' x key else lt' key x >>= fun r => pure (r.map fun v => !v)
theorem tm_near {left : Bool} {key : Keyed} {arr : Array Keyed} {b i : Nat} {Q : Option Bool → SortSt → Prop} (hk : kindOf st = Ask.kd) (hkey : IsI key) (hA : AllI arr) (hi : b + i < arr.size) (h : Q (some (near left key (nth arr (b + i)))) st) :
    wpS (model prog w) A E s (nearM left key arr b i) Q st := by
  refine wpS_bind (tm_elem hi ?_)
  cases left with
  | true => exact tm_lt hk (hA _ hi) hkey h
  | false => exact wpS_bind (tm_lt hk hkey (hA _ hi) (wpS_pure h))
theorem tm_gallop {left : Bool} {key : Keyed} {arr : Array Keyed} {base n hint : Nat} {Q : Option Nat → SortSt → Prop} (hk : kindOf st = Ask.kd) (hkey : IsI key) (hA : AllI arr) (hb : base + n ≤ arr.size) (hh : hint < n)
    (mono : ∀ i j, i ≤ j → j < n → near left key (nth arr (base + j)) = true → near left key (nth arr (base + i)) = true)
    (h : ∀ k, k ≤ n → (∀ i, i < k → near left key (nth arr (base + i)) = true) → (∀ i, k ≤ i → i < n → near left key (nth arr (base + i)) = false) → Q (some k) st) :
    wpS (model prog w) A E s (gallop' left key arr base n hint) Q st := by
  have anti : ∀ i j, i ≤ j → j < n → near left key (nth arr (base + i)) = false → near left key (nth arr (base + j)) = false := fun i j hij hj e => by
    cases q : near left key (nth arr (base + j)) with
    | false => rfl
    | true => rw [mono i j hij hj q] at e; cases e
  refine wpS_bind ?_
  refine tm_near (left := left) (key := key) (arr := arr) (b := base) (i := hint) hk hkey hA (by omega) ?_
  cases first : near left key (nth arr (base + hint)) with
  | true =>
    dsimp only
    refine wpS_bind (wpS_mono (wpS_forRange (I := fun x c st' => st' = st ∧ ∃ lst ofs, c = (none, lst, ofs) ∧ x + 1 ≤ ofs ∧ lst < ofs ∧ hint + lst < n ∧ near left key (nth arr (base + (hint + lst))) = true)
      (Q := fun c st' => st' = st ∧ ∃ lst ofs, c = (none, lst, ofs) ∧ lst < ofs ∧ hint + lst < n ∧ near left key (nth arr (base + (hint + lst))) = true ∧ (n - hint ≤ ofs ∨ near left key (nth arr (base + (hint + ofs))) = false)) ?step ?fin ?init) ?post)
    case init => exact ⟨rfl, 0, 1, rfl, by omega, by omega, by omega, first⟩
    case fin =>
      rintro c st' ⟨rfl, lst, ofs, rfl, h1, h2, h3, h4⟩
      exact ⟨rfl, lst, ofs, rfl, h2, h3, h4, .inl (by omega)⟩
    case step =>
      rintro x c st' _ hx ⟨rfl, lst, ofs, rfl, h1, h2, h3, h4⟩
      dsimp only
      by_cases ge : ofs ≥ n - hint
      · rw [if_pos ge]
        exact wpS_pure ⟨rfl, lst, ofs, rfl, h2, h3, h4, .inl ge⟩
      · rw [if_neg ge]
        refine wpS_bind (tm_near (left := left) (key := key) (arr := arr) (b := base) (i := hint + ofs) hk hkey hA (by omega) ?_)
        cases q : near left key (nth arr (base + (hint + ofs))) with
        | true => exact wpS_pure ⟨rfl, ofs, 2 * ofs + 1, rfl, by omega, by omega, by omega, q⟩
        | false => exact wpS_pure ⟨rfl, lst, ofs, rfl, h2, h3, h4, .inr q⟩
    case post =>
      rintro c st' ⟨rfl, lst, ofs, rfl, h2, h3, h4, h5⟩
      dsimp only
      have below : ∀ i, i < hint + lst + 1 → near left key (nth arr (base + i)) = true := fun i hi => mono i _ (by omega) h3 h4
      have above : ∀ i, hint + min ofs (n - hint) ≤ i → i < n → near left key (nth arr (base + i)) = false := fun i h6 h7 => by
        rcases h5 with h5 | h5
        · omega
        · exact anti (hint + ofs) i (by omega) h7 h5
      have o1 : hint + lst + 1 ≤ hint + min ofs (n - hint) := by omega
      have o2 : hint + min ofs (n - hint) ≤ n := by omega
      generalize hint + lst + 1 = lo at below o1 ⊢
      generalize hint + min ofs (n - hint) = hi at above o1 o2 ⊢
      refine wpS_bind (wpS_mono (wpS_forRange (I := fun x c st'' => st'' = st' ∧ ∃ lo hi, c = (none, lo, hi) ∧ lo ≤ hi ∧ hi ≤ n ∧ hi - lo ≤ n - x ∧ (∀ i, i < lo → near left key (nth arr (base + i)) = true) ∧ ∀ i, hi ≤ i → i < n → near left key (nth arr (base + i)) = false)
        (Q := fun c st'' => st'' = st' ∧ ∃ hi, c = (none, hi, hi) ∧ hi ≤ n ∧ (∀ i, i < hi → near left key (nth arr (base + i)) = true) ∧ ∀ i, hi ≤ i → i < n → near left key (nth arr (base + i)) = false) ?sstep ?sfin ⟨rfl, lo, hi, rfl, o1, o2, by omega, below, above⟩) ?spost)
      case sfin =>
        rintro c st'' ⟨rfl, lo, hi, rfl, q1, q2, q3, q4, q5⟩
        obtain rfl : lo = hi := by omega
        exact ⟨rfl, lo, rfl, q2, q4, q5⟩
      case spost =>
        rintro c st'' ⟨rfl, hi, rfl, q2, q4, q5⟩
        exact wpS_pure (h hi q2 q4 q5)
      case sstep =>
        rintro x c st'' _ hx ⟨rfl, lo, hi, rfl, q1, q2, q3, q4, q5⟩
        dsimp only
        by_cases ge : lo ≥ hi
        · rw [if_pos ge]
          obtain rfl : lo = hi := by omega
          exact wpS_pure ⟨rfl, lo, rfl, q2, q4, q5⟩
        · rw [if_neg ge]
          refine wpS_bind (tm_near (left := left) (key := key) (arr := arr) (b := base) (i := lo + (hi - lo) / 2) hk hkey hA (by omega) ?_)
          cases q : near left key (nth arr (base + (lo + (hi - lo) / 2))) with
          | true => exact wpS_pure ⟨rfl, _, hi, rfl, by omega, q2, by omega, fun i hi' => mono i _ (by omega) (by omega) q, q5⟩
          | false => exact wpS_pure ⟨rfl, lo, _, rfl, by omega, by omega, by omega, q4, fun i h6 h7 => anti _ i h6 h7 q⟩
  | false =>
    dsimp only
    refine wpS_bind (wpS_mono (wpS_forRange (I := fun x c st' => st' = st ∧ ∃ lst ofs, c = (none, lst, ofs) ∧ x + 1 ≤ ofs ∧ lst < ofs ∧ lst ≤ hint ∧ near left key (nth arr (base + (hint - lst))) = false)
      (Q := fun c st' => st' = st ∧ ∃ lst ofs, c = (none, lst, ofs) ∧ lst < ofs ∧ lst ≤ hint ∧ near left key (nth arr (base + (hint - lst))) = false ∧ (hint + 1 ≤ ofs ∨ (ofs ≤ hint ∧ near left key (nth arr (base + (hint - ofs))) = true))) ?step ?fin ?init) ?post)
    case init => exact ⟨rfl, 0, 1, rfl, by omega, by omega, by omega, first⟩
    case fin =>
      rintro c st' ⟨rfl, lst, ofs, rfl, h1, h2, h3, h4⟩
      exact ⟨rfl, lst, ofs, rfl, h2, h3, h4, .inl (by omega)⟩
    case step =>
      rintro x c st' _ hx ⟨rfl, lst, ofs, rfl, h1, h2, h3, h4⟩
      dsimp only
      by_cases ge : ofs ≥ hint + 1
      · rw [if_pos ge]
        exact wpS_pure ⟨rfl, lst, ofs, rfl, h2, h3, h4, .inl ge⟩
      · rw [if_neg ge]
        refine wpS_bind (tm_near (left := left) (key := key) (arr := arr) (b := base) (i := hint - ofs) hk hkey hA (by omega) ?_)
        cases q : near left key (nth arr (base + (hint - ofs))) with
        | true => exact wpS_pure ⟨rfl, lst, ofs, rfl, h2, h3, h4, .inr ⟨by omega, q⟩⟩
        | false => exact wpS_pure ⟨rfl, ofs, 2 * ofs + 1, rfl, by omega, by omega, by omega, q⟩
    case post =>
      rintro c st' ⟨rfl, lst, ofs, rfl, h2, h3, h4, h5⟩
      dsimp only
      have below : ∀ i, i < hint + 1 - min ofs (hint + 1) → near left key (nth arr (base + i)) = true := fun i hi => by
        rcases h5 with h5 | ⟨h5, h6⟩
        · omega
        · exact mono i (hint - ofs) (by omega) (by omega) h6
      have above : ∀ i, hint - lst ≤ i → i < n → near left key (nth arr (base + i)) = false := fun i h6 h7 => anti (hint - lst) i h6 h7 h4
      have o1 : hint + 1 - min ofs (hint + 1) ≤ hint - lst := by omega
      have o2 : hint - lst ≤ n := by omega
      generalize hint + 1 - min ofs (hint + 1) = lo at below o1 ⊢
      generalize hint - lst = hi at above o1 o2 ⊢
      refine wpS_bind (wpS_mono (wpS_forRange (I := fun x c st'' => st'' = st' ∧ ∃ lo hi, c = (none, lo, hi) ∧ lo ≤ hi ∧ hi ≤ n ∧ hi - lo ≤ n - x ∧ (∀ i, i < lo → near left key (nth arr (base + i)) = true) ∧ ∀ i, hi ≤ i → i < n → near left key (nth arr (base + i)) = false)
        (Q := fun c st'' => st'' = st' ∧ ∃ hi, c = (none, hi, hi) ∧ hi ≤ n ∧ (∀ i, i < hi → near left key (nth arr (base + i)) = true) ∧ ∀ i, hi ≤ i → i < n → near left key (nth arr (base + i)) = false) ?sstep ?sfin ⟨rfl, lo, hi, rfl, o1, o2, by omega, below, above⟩) ?spost)
      case sfin =>
        rintro c st'' ⟨rfl, lo, hi, rfl, q1, q2, q3, q4, q5⟩
        obtain rfl : lo = hi := by omega
        exact ⟨rfl, lo, rfl, q2, q4, q5⟩
      case spost =>
        rintro c st'' ⟨rfl, hi, rfl, q2, q4, q5⟩
        exact wpS_pure (h hi q2 q4 q5)
      case sstep =>
        rintro x c st'' _ hx ⟨rfl, lo, hi, rfl, q1, q2, q3, q4, q5⟩
        dsimp only
        by_cases ge : lo ≥ hi
        · rw [if_pos ge]
          obtain rfl : lo = hi := by omega
          exact wpS_pure ⟨rfl, lo, rfl, q2, q4, q5⟩
        · rw [if_neg ge]
          refine wpS_bind (tm_near (left := left) (key := key) (arr := arr) (b := base) (i := lo + (hi - lo) / 2) hk hkey hA (by omega) ?_)
          cases q : near left key (nth arr (base + (lo + (hi - lo) / 2))) with
          | true => exact wpS_pure ⟨rfl, _, hi, rfl, by omega, q2, by omega, fun i hi' => mono i _ (by omega) (by omega) q, q5⟩
          | false => exact wpS_pure ⟨rfl, lo, _, rfl, by omega, by omega, by omega, q4, fun i h6 h7 => anti _ i h6 h7 q⟩
end
end L2G
end
section
set_option Elab.async false
set_option linter.all false
set_option maxRecDepth 100000
set_option maxHeartbeats 4000000
namespace L2G
open PySem PySem.Spec PyProof.Rows
variable [Ask]
structure MI (r : Keyed → Keyed → Prop) (l o ra rb : List Keyed) : Prop where
  perm : (o ++ (ra ++ rb)).Perm l
  so : o.Pairwise r
  sa : ra.Pairwise r
  sb : rb.Pairwise r
  oa : ∀ x ∈ o, ∀ y ∈ ra, r x y
  ob : ∀ x ∈ o, ∀ y ∈ rb, r x y
section
variable {r : Keyed → Keyed → Prop} {l o ra rb t ra' rb' : List Keyed} {z : Keyed}
theorem MI.swap (m : MI r l o ra rb) : MI r l o rb ra := ⟨(List.Perm.append_left o List.perm_append_comm).trans m.perm, m.so, m.sb, m.sa, m.ob, m.oa⟩
theorem MI.a (m : MI r l o (t ++ ra') rb) (h : ∀ x ∈ t, ∀ y ∈ rb, r x y) : MI r l (o ++ t) ra' rb := by
  obtain ⟨q1, q2, q3⟩ := List.pairwise_append.mp m.sa
  refine ⟨?_, List.pairwise_append.mpr ⟨m.so, q1, fun x hx y hy => m.oa x hx y (List.mem_append_left _ hy)⟩, q2, m.sb, fun x hx y hy => ?_, fun x hx y hy => ?_⟩
  · rw [List.append_assoc, ← List.append_assoc t]
    exact m.perm
  · rcases List.mem_append.mp hx with hx | hx
    · exact m.oa x hx y (List.mem_append_right _ hy)
    · exact q3 x hx y hy
  · rcases List.mem_append.mp hx with hx | hx
    · exact m.ob x hx y hy
    · exact h x hx y hy
theorem MI.b (m : MI r l o ra (t ++ rb')) (h : ∀ x ∈ t, ∀ y ∈ ra, r x y) : MI r l (o ++ t) ra rb' := (m.swap.a h).swap
theorem MI.endB (m : MI r l o ra []) : (o ++ ra).Perm l ∧ (o ++ ra).Pairwise r := by
  have p := m.perm
  rw [List.append_nil] at p
  exact ⟨p, List.pairwise_append.mpr ⟨m.so, m.sa, m.oa⟩⟩
theorem MI.endA (m : MI r l o [] rb) : (o ++ rb).Perm l ∧ (o ++ rb).Pairwise r := m.swap.endB
theorem MI.last (m : MI r l o [z] rb) (h : ∀ y ∈ rb, r y z) : (o ++ rb ++ [z]).Perm l ∧ (o ++ rb ++ [z]).Pairwise r := by
  have q : MI r l (o ++ rb) [z] [] := MI.b (t := rb) (rb' := []) (by rw [List.append_nil]; exact m) fun x hx y hy => by rw [List.mem_singleton.mp hy]; exact h x hx
  exact q.endB
end
section
variable {a b : Array Keyed} {i k : Nat}
theorem drop_nth (h : i < a.size) : a.toList.drop i = nth a i :: a.toList.drop (i + 1) := by
  have hl : i < a.toList.length := h
  rw [List.drop_eq_getElem_cons hl]
  congr 1
  have e := nth_some h
  rw [← Array.getElem?_toList, List.getElem?_eq_getElem hl] at e
  exact Option.some.inj e
theorem drop_end (h : a.size ≤ i) : a.toList.drop i = [] := List.drop_eq_nil_of_le h
theorem ext_to (a : Array Keyed) (i k : Nat) : (a.extract i (i + k)).toList = (a.toList.drop i).take k := by
  rw [Array.toList_extract, List.extract_eq_take_drop, Nat.add_sub_cancel_left]
theorem ext_end (a : Array Keyed) (i : Nat) : (a.extract i).toList = a.toList.drop i := by
  rw [Array.toList_extract, List.extract_eq_take_drop]
  exact List.take_of_length_le (by rw [List.length_drop]; exact Nat.le_refl _)
theorem ext_first (a : Array Keyed) (k : Nat) : (a.extract 0 k).toList = a.toList.take k := by
  rw [Array.toList_extract, List.extract_eq_take_drop, Nat.sub_zero, List.drop_zero]
theorem mem_nth {x : Keyed} (h : x ∈ a.toList) : ∃ j, j < a.size ∧ x = nth a j := by
  obtain ⟨j, hj, e⟩ := List.mem_iff_getElem.mp h
  refine ⟨j, hj, ?_⟩
  have q := nth_some (arr := a) (i := j) hj
  rw [← Array.getElem?_toList, List.getElem?_eq_getElem hj, e] at q
  exact Option.some.inj q
theorem mem_drop {x : Keyed} (h : x ∈ a.toList.drop i) : ∃ j, i ≤ j ∧ j < a.size ∧ x = nth a j := by
  obtain ⟨j, hj, e⟩ := List.mem_iff_getElem.mp h
  rw [List.length_drop] at hj
  have hj' : i + j < a.size := by have : a.toList.length = a.size := rfl; omega
  refine ⟨i + j, Nat.le_add_right _ _, hj', ?_⟩
  rw [List.getElem_drop] at e
  have q := nth_some (arr := a) (i := i + j) hj'
  rw [← Array.getElem?_toList, List.getElem?_eq_getElem (by exact hj'), e] at q
  exact Option.some.inj q
theorem mem_mid {x : Keyed} (h : x ∈ (a.toList.drop i).take k) : ∃ j, i ≤ j ∧ j < i + k ∧ j < a.size ∧ x = nth a j := by
  obtain ⟨j, hj, e⟩ := List.mem_iff_getElem.mp h
  rw [List.length_take, List.length_drop] at hj
  have hz : a.toList.length = a.size := rfl
  have hj' : i + j < a.size := by omega
  refine ⟨i + j, Nat.le_add_right _ _, by omega, hj', ?_⟩
  rw [List.getElem_take, List.getElem_drop] at e
  have q := nth_some (arr := a) (i := i + j) hj'
  rw [← Array.getElem?_toList, List.getElem?_eq_getElem (by exact hj'), e] at q
  exact Option.some.inj q
def Rise (a : Array Keyed) (lo hi : Nat) : Prop := ∀ i j, lo ≤ i → i ≤ j → j < hi → num (nth a i) ≤ num (nth a j)
def le (x y : Keyed) : Prop := num x ≤ num y
theorem Rise.pairwise (h : Rise a 0 a.size) : a.toList.Pairwise le := by
  rw [List.pairwise_iff_getElem]
  intro i j hi hj hij
  have q := h i j (Nat.zero_le _) (Nat.le_of_lt hij) hj
  have e1 := nth_some (arr := a) (i := i) hi
  have e2 := nth_some (arr := a) (i := j) hj
  rw [← Array.getElem?_toList, List.getElem?_eq_getElem hi] at e1
  rw [← Array.getElem?_toList, List.getElem?_eq_getElem hj] at e2
  rw [← Option.some.inj e1, ← Option.some.inj e2] at q
  exact q
end
structure SameS (st st' : SortSt) : Prop where
  kind : kindOf st' = kindOf st
  arr : arrOf st' = arrOf st
  pend : pendingOf st' = pendingOf st
  fail : failedOf st' = failedOf st
theorem SameS.refl (st : SortSt) : SameS st st := ⟨rfl, rfl, rfl, rfl⟩
theorem SameS.trans {s1 s2 s3 : SortSt} (a : SameS s1 s2) (b : SameS s2 s3) : SameS s1 s3 := ⟨b.kind.trans a.kind, b.arr.trans a.arr, b.pend.trans a.pend, b.fail.trans a.fail⟩
theorem wps_ite {α : Type} {M : Model} {A : Around} {E : Value → Shared → Prop} {s : Shared} {c : Prop} [Decidable c] {x y : StateT SortSt Sem α} {Q : α → SortSt → Prop} {st : SortSt} (h1 : c → wpS M A E s x Q st) (h2 : ¬c → wpS M A E s y Q st) : wpS M A E s (if c then x else y) Q st := by
  by_cases h : c
  · rw [if_pos h]; exact h1 h
  · rw [if_neg h]; exact h2 h
def mergeLo' : Array Keyed → Array Keyed → StateT SortSt Sem (Array Keyed) := sortPriv% PySem.Builtin.mergeLo
def Mgd (a b r : Array Keyed) : Prop := r.toList.Perm (a.toList ++ b.toList) ∧ r.toList.Pairwise le
section
variable {a b out : Array Keyed} {ia ib : Nat}
abbrev ML (a b out : Array Keyed) (ia ib : Nat) : Prop := MI le (a.toList ++ b.toList) out.toList (a.toList.drop ia) (b.toList.drop ib)
theorem ML.endB (m : ML a b out ia ib) (h : b.size ≤ ib) : Mgd a b (out ++ a.extract ia ++ b.extract ib) := by
  have m : MI le (a.toList ++ b.toList) out.toList (a.toList.drop ia) (b.toList.drop ib) := m
  have e := ext_end b ib
  rw [drop_end h] at m e
  have q := m.endB
  unfold Mgd
  rw [Array.toList_append, Array.toList_append, e, ext_end, List.append_nil]
  exact q
theorem ML.endA (m : ML a b out ia ib) (h : a.size ≤ ia) : Mgd a b (out ++ a.extract ia ++ b.extract ib) := by
  have m : MI le (a.toList ++ b.toList) out.toList (a.toList.drop ia) (b.toList.drop ib) := m
  have e := ext_end a ia
  rw [drop_end h] at m e
  have q := m.endA
  unfold Mgd
  rw [Array.toList_append, Array.toList_append, e, ext_end, List.append_nil]
  exact q
theorem ML.last (m : ML a b out ia ib) (h : ia + 1 = a.size) (hl : ∀ i, i < b.size → num (nth b i) ≤ num (nth a (a.size - 1))) : Mgd a b (out ++ b.extract ib ++ a.extract ia) := by
  have m : MI le (a.toList ++ b.toList) out.toList (a.toList.drop ia) (b.toList.drop ib) := m
  have e := ext_end a ia
  rw [drop_nth (by omega), drop_end (by omega : a.size ≤ ia + 1)] at m e
  have q := m.last fun y hy => by
    obtain ⟨j, _, hj, rfl⟩ := mem_drop hy
    have z := hl j hj
    rw [show a.size - 1 = ia by omega] at z
    exact z
  unfold Mgd
  rw [Array.toList_append, Array.toList_append, e, ext_end]
  exact q
theorem ML.takeA (m : ML a b out ia ib) (k : Nat) (h : ∀ j, ia ≤ j → j < ia + k → j < a.size → ∀ i, ib ≤ i → i < b.size → num (nth a j) ≤ num (nth b i)) : ML a b (out ++ a.extract ia (ia + k)) (ia + k) ib := by
  have m : MI le (a.toList ++ b.toList) out.toList (a.toList.drop ia) (b.toList.drop ib) := m
  rw [← List.take_append_drop k (a.toList.drop ia), List.drop_drop] at m
  have q := m.a fun x hx y hy => by
    obtain ⟨j, h1, h2, h3, rfl⟩ := mem_mid hx
    obtain ⟨i, h4, h5, rfl⟩ := mem_drop hy
    exact h j h1 h2 h3 i h4 h5
  show MI le _ (out ++ a.extract ia (ia + k)).toList _ _
  rw [Array.toList_append, ext_to]
  exact q
theorem ML.takeB (m : ML a b out ia ib) (k : Nat) (h : ∀ j, ib ≤ j → j < ib + k → j < b.size → ∀ i, ia ≤ i → i < a.size → num (nth b j) ≤ num (nth a i)) : ML a b (out ++ b.extract ib (ib + k)) ia (ib + k) := by
  have m : MI le (a.toList ++ b.toList) out.toList (a.toList.drop ia) (b.toList.drop ib) := m
  rw [← List.take_append_drop k (b.toList.drop ib), List.drop_drop] at m
  have q := m.b fun x hx y hy => by
    obtain ⟨j, h1, h2, h3, rfl⟩ := mem_mid hx
    obtain ⟨i, h4, h5, rfl⟩ := mem_drop hy
    exact h j h1 h2 h3 i h4 h5
  show MI le _ (out ++ b.extract ib (ib + k)).toList _ _
  rw [Array.toList_append, ext_to]
  exact q
theorem one_ext (h : ia < a.size) : out ++ a.extract ia (ia + 1) = out.push (nth a ia) := by
  apply Array.toList_inj.mp
  rw [Array.toList_append, ext_to, drop_nth h, Array.toList_push]
  rfl
theorem ML.pushA (m : ML a b out ia ib) (h : ia < a.size) (hle : ∀ i, ib ≤ i → i < b.size → num (nth a ia) ≤ num (nth b i)) : ML a b (out.push (nth a ia)) (ia + 1) ib := by
  rw [← one_ext h]
  exact m.takeA 1 fun j h1 h2 _ => by rw [show j = ia by omega]; exact hle
theorem ML.pushB (m : ML a b out ia ib) (h : ib < b.size) (hle : ∀ i, ia ≤ i → i < a.size → num (nth b ib) ≤ num (nth a i)) : ML a b (out.push (nth b ib)) ia (ib + 1) := by
  rw [← one_ext h]
  exact m.takeB 1 fun j h1 h2 _ => by rw [show j = ib by omega]; exact hle
end
end L2G
end
section
set_option Elab.async false
set_option linter.all false
set_option maxRecDepth 100000
set_option maxHeartbeats 4000000
namespace L2G
open PySem PySem.Spec PyProof.Rows
variable [Ask]
section
variable {prog : Program} {w : World} {A : Around} {E : Value → Shared → Prop} {s : Shared} {st : SortSt} {a b : Array Keyed}
variable [AskLt prog w A s]
theorem near_right {key x : Keyed} : near false key x = true ↔ num x ≤ num key := by
  unfold near
  rw [if_neg Bool.false_ne_true, Bool.not_eq_true', decide_eq_false_iff_not, Int.not_lt]
theorem near_rightF {key x : Keyed} : near false key x = false ↔ num key < num x := by
  unfold near
  rw [if_neg Bool.false_ne_true, Bool.not_eq_false', decide_eq_true_iff]
theorem near_left {key x : Keyed} : near true key x = true ↔ num x < num key := by
  unfold near
  rw [if_pos rfl, decide_eq_true_iff]
theorem near_leftF {key x : Keyed} : near true key x = false ↔ num key ≤ num x := by
  unfold near
  rw [if_pos rfl, decide_eq_false_iff_not, Int.not_lt]
theorem near_mono {left : Bool} {key : Keyed} {arr : Array Keyed} {base n : Nat} (h : Rise arr base (base + n)) : ∀ i j, i ≤ j → j < n → near left key (nth arr (base + j)) = true → near left key (nth arr (base + i)) = true := by
  intro i j hij hj e
  have q := h (base + i) (base + j) (by omega) (by omega) (by omega)
  cases left with
  | true => rw [near_left] at e ⊢; omega
  | false => rw [near_right] at e ⊢; omega
theorem Rise.sub {lo hi lo' hi' : Nat} (h : Rise a lo hi) (h1 : lo ≤ lo') (h2 : hi' ≤ hi) : Rise a lo' hi' := fun i j q1 q2 q3 => h i j (by omega) q2 (by omega)
theorem tm_lo {Q : Array Keyed → SortSt → Prop} (hk : kindOf st = Ask.kd) (iA : AllI a) (iB : AllI b) (ha : 0 < a.size) (hb : 0 < b.size) (sA : Rise a 0 a.size) (sB : Rise b 0 b.size)
    (first : ∀ i, i < a.size → num (nth b 0) ≤ num (nth a i)) (last : ∀ i, i < b.size → num (nth b i) ≤ num (nth a (a.size - 1)))
    (h : ∀ r st', Mgd a b r → SameS st st' → Q r st') : wpS (model prog w) A E s (mergeLo' a b) Q st := by
  refine wpS_bind (wpS_lift (wpAny_rule ⟨rfl, ?_⟩))
  refine wpS_bind (tm_elem hb ?_)
  have m0 : ML a b #[nth b 0] 0 1 := by
    have q : ML a b #[] 0 0 := ⟨by show (([] : List Keyed) ++ (a.toList.drop 0 ++ b.toList.drop 0)).Perm _; exact List.Perm.refl _, List.Pairwise.nil, sA.pairwise, sB.pairwise, fun x hx => (by cases hx), fun x hx => (by cases hx)⟩
    exact q.pushB hb fun i _ hi => first i hi
  dsimp only
  by_cases e1 : 1 = b.size
  · rw [if_pos (beq_iff_eq.mpr e1)]
    exact wpS_pure (h _ _ (m0.endB (by omega)) (SameS.refl _))
  rw [if_neg (fun z => e1 (beq_iff_eq.mp z))]
  by_cases e2 : 0 + 1 = a.size
  · rw [if_pos (beq_iff_eq.mpr e2)]
    exact wpS_pure (h _ _ (m0.last e2 last) (SameS.refl _))
  rw [if_neg (fun z => e2 (beq_iff_eq.mp z))]
  refine wpS_bind (wpS_get ?_)
  refine wpS_bind (wpS_mono (wpS_forRange
    (I := fun x c st' => SameS st st' ∧ ∃ out ia ib g, c = (none, out, ia, ib, g) ∧ ML a b out ia ib ∧ ia + 1 < a.size ∧ ib < b.size ∧ x + 1 ≤ ia + ib)
    (Q := fun c st' => SameS st st' ∧ ∃ r c', c = (some r, c') ∧ Mgd a b r) ?step ?fin ⟨SameS.refl _, _, 0, 1, _, rfl, m0, by omega, by omega, by omega⟩) ?post)
  case post =>
    rintro c st' ⟨ss, r, c', rfl, hr⟩
    exact wpS_pure (h r st' hr ss)
  case fin =>
    rintro c st' ⟨ss, out, ia, ib, g, rfl, m, h1, h2, h3⟩
    omega
  case step =>
    rintro x c st' _ hx ⟨ss, out, ia, ib, g, rfl, m, h1, h2, h3⟩
    dsimp only
    have hk1 : kindOf st' = Ask.kd := ss.kind.trans hk
    refine wpS_bind (wpS_mono (wpS_forRange
      (I := fun y c st'' => st'' = st' ∧ ∃ out ja jb ac bc, c = (none, out, ja, jb, ac, bc) ∧ ML a b out ja jb ∧ ja + 1 < a.size ∧ jb < b.size ∧ ia + ib + y ≤ ja + jb)
      (Q := fun c st'' => st'' = st' ∧ ((∃ r c', c = (some r, c') ∧ Mgd a b r) ∨ ∃ out ja jb ac bc, c = (none, out, ja, jb, ac, bc) ∧ ML a b out ja jb ∧ ja + 1 < a.size ∧ jb < b.size ∧ ia + ib + 1 ≤ ja + jb)) ?istep ?ifin ⟨rfl, out, ia, ib, 0, 0, rfl, m, h1, h2, by omega⟩) ?ipost)
    case ifin =>
      rintro c st'' ⟨rfl, out, ja, jb, ac, bc, rfl, m, q1, q2, q3⟩
      exact ⟨rfl, .inr ⟨out, ja, jb, ac, bc, rfl, m, q1, q2, by omega⟩⟩
    case istep =>
      rintro y c st'' _ hy ⟨rfl, out, ja, jb, ac, bc, rfl, m, q1, q2, q3⟩
      dsimp only
      refine wpS_bind (tm_elem q2 (wpS_bind (tm_elem (by omega) (wpS_bind (tm_lt hk1 (iB _ q2) (iA _ (by omega)) ?_)))))
      by_cases lt : num (nth b jb) < num (nth a ja)
      · rw [decide_eq_true lt]
        dsimp only
        rw [if_pos rfl]
        refine wpS_bind (tm_elem q2 ?_)
        have m2 := m.pushB q2 fun i hi hi2 => Int.le_trans (Int.le_of_lt lt) (sA ja i (Nat.zero_le _) hi hi2)
        by_cases e : jb + 1 = b.size
        · rw [if_pos (beq_iff_eq.mpr e)]
          exact wpS_pure ⟨rfl, .inl ⟨_, _, rfl, m2.endB (by omega)⟩⟩
        · rw [if_neg (fun z => e (beq_iff_eq.mp z))]
          split
          · exact wpS_pure ⟨rfl, .inr ⟨_, ja, jb + 1, _, _, rfl, m2, q1, by omega, by omega⟩⟩
          · exact wpS_pure ⟨rfl, _, ja, jb + 1, _, _, rfl, m2, q1, by omega, by omega⟩
      · rw [decide_eq_false lt]
        dsimp only
        rw [if_neg Bool.false_ne_true]
        refine wpS_bind (tm_elem (by omega) ?_)
        have m2 := m.pushA (by omega) fun i hi hi2 => Int.le_trans (Int.not_lt.mp lt) (sB jb i (Nat.zero_le _) hi hi2)
        by_cases e : ja + 1 + 1 = a.size
        · rw [if_pos (beq_iff_eq.mpr e)]
          exact wpS_pure ⟨rfl, .inl ⟨_, _, rfl, m2.last e last⟩⟩
        · rw [if_neg (fun z => e (beq_iff_eq.mp z))]
          split
          · exact wpS_pure ⟨rfl, .inr ⟨_, ja + 1, jb, _, _, rfl, m2, by omega, q2, by omega⟩⟩
          · exact wpS_pure ⟨rfl, _, ja + 1, jb, _, _, rfl, m2, by omega, q2, by omega⟩
    case ipost =>
      rintro c st'' ⟨rfl, ⟨r, c', rfl, hr⟩ | ⟨out, ja, jb, ac, bc, rfl, m, q1, q2, q3⟩⟩
      · exact wpS_pure ⟨ss, r, _, rfl, hr⟩
      dsimp only
      refine wpS_bind (wpS_lift (wpAny_rule ⟨rfl, ?_⟩))
      refine wpS_bind (wpS_mono (wpS_forRange
        (I := fun y c st2 => SameS st'' st2 ∧ ∃ out ka kb g ac bc, c = (none, out, ka, kb, g, ac, bc) ∧ ML a b out ka kb ∧ ka + 1 < a.size ∧ kb < b.size ∧ ja + jb ≤ ka + kb)
        (Q := fun c st2 => SameS st'' st2 ∧ ((∃ r c', c = (some r, c') ∧ Mgd a b r) ∨ ∃ out ka kb g ac bc, c = (none, out, ka, kb, g, ac, bc) ∧ ML a b out ka kb ∧ ka + 1 < a.size ∧ kb < b.size ∧ ja + jb ≤ ka + kb)) ?gstep ?gfin ⟨SameS.refl _, out, ja, jb, _, _, _, rfl, m, q1, q2, Nat.le_refl _⟩) ?gpost)
      case gfin =>
        rintro c st2 ⟨s2, w⟩
        exact ⟨s2, .inr w⟩
      case gpost =>
        rintro c st2 ⟨s2, ⟨r, c', rfl, hr⟩ | ⟨out, ka, kb, g, ac, bc, rfl, m, w1, w2, w3⟩⟩
        · exact wpS_pure ⟨ss.trans s2, r, _, rfl, hr⟩
        · dsimp only
          refine wpS_bind (wpS_modify (wpS_pure ⟨(ss.trans s2).trans ⟨rfl, rfl, rfl, rfl⟩, out, ka, kb, _, rfl, m, w1, w2, by omega⟩))
      case gstep =>
        rintro y c st2 _ hy ⟨s2, out, ka, kb, g, ac, bc, rfl, m, w1, w2, w3⟩
        dsimp only
        have s3 : SameS st'' (SortSt.mk' (kindOf st2) (arrOf st2) (pendingOf st2) (if g > 1 then g - 1 else g) (failedOf st2)) := ⟨s2.kind, s2.arr, s2.pend, s2.fail⟩
        have hk3 := s3.kind.trans hk1
        refine wps_ite (fun gg => ?_) (fun gg => ?_)
        all_goals
          first | rw [if_pos gg] at s3 hk3 | rw [if_neg gg] at s3 hk3
          refine wpS_bind (wpS_modify ?_)
          refine wpS_bind (tm_elem w2 (wpS_bind (tm_gallop (left := false) (key := nth b kb) (arr := a) (base := ka) (n := a.size - ka) (hint := 0) hk3 (iB _ w2) iA (by omega) (by omega) (near_mono (sA.sub (Nat.zero_le _) (by omega))) fun k k1 k2 k3 => ?_)))
          dsimp only
          have big : ∀ i, ka + k ≤ i → i < a.size → num (nth b kb) < num (nth a i) := fun i h5 h6 => by
            have z := near_rightF.mp (k3 (i - ka) (by omega) (by omega))
            rw [show ka + (i - ka) = i by omega] at z
            exact z
          have m2 := m.takeA k fun j h5 h6 h7 i h8 h9 => by
            have z := near_right.mp (k2 (j - ka) (by omega))
            rw [show ka + (j - ka) = j by omega] at z
            exact Int.le_trans z (sB kb i (Nat.zero_le _) h8 h9)
          by_cases kp : k > 0
          · rw [if_pos kp]
            by_cases e1 : ka + k + 1 = a.size
            · rw [if_pos (beq_iff_eq.mpr e1)]
              exact wpS_pure ⟨s3, .inl ⟨_, _, rfl, m2.last e1 last⟩⟩
            rw [if_neg (fun z => e1 (beq_iff_eq.mp z))]
            by_cases e2 : ka + k = a.size
            · rw [if_pos (beq_iff_eq.mpr e2)]
              exact wpS_pure ⟨s3, .inl ⟨_, _, rfl, m2.endA (by omega)⟩⟩
            rw [if_neg (fun z => e2 (beq_iff_eq.mp z))]
            refine wpS_bind (tm_elem w2 ?_)
            have m3 := m2.pushB w2 fun i hi hi2 => Int.le_of_lt (big i hi hi2)
            by_cases e3 : kb + 1 = b.size
            · rw [if_pos (beq_iff_eq.mpr e3)]
              exact wpS_pure ⟨s3, .inl ⟨_, _, rfl, m3.endB (by omega)⟩⟩
            rw [if_neg (fun z => e3 (beq_iff_eq.mp z))]
            refine wpS_bind (tm_elem (by omega) (wpS_bind (tm_gallop (left := true) (key := nth a (ka + k)) (arr := b) (base := kb + 1) (n := b.size - (kb + 1)) (hint := 0) hk3 (iA _ (by omega)) iB (by omega) (by omega) (near_mono (sB.sub (Nat.zero_le _) (by omega))) fun k' u1 u2 u3 => ?_)))
            dsimp only
            have small : ∀ i, kb + 1 + k' ≤ i → i < b.size → num (nth a (ka + k)) ≤ num (nth b i) := fun i h5 h6 => by
              have z := near_leftF.mp (u3 (i - (kb + 1)) (by omega) (by omega))
              rw [show kb + 1 + (i - (kb + 1)) = i by omega] at z
              exact z
            have m4 := m3.takeB k' fun j h5 h6 h7 i h8 h9 => by
              have z := near_left.mp (u2 (j - (kb + 1)) (by omega))
              rw [show kb + 1 + (j - (kb + 1)) = j by omega] at z
              exact Int.le_trans (Int.le_of_lt z) (sA _ i (Nat.zero_le _) h8 h9)
            by_cases kp' : k' > 0
            · rw [if_pos kp']
              by_cases e4 : kb + 1 + k' = b.size
              · rw [if_pos (beq_iff_eq.mpr e4)]
                exact wpS_pure ⟨s3, .inl ⟨_, _, rfl, m4.endB (by omega)⟩⟩
              · rw [if_neg (fun z => e4 (beq_iff_eq.mp z))]
                refine wpS_bind (tm_elem (by omega) ?_)
                have m5 := m4.pushA (by omega) small
                by_cases e5 : ka + k + 1 + 1 = a.size
                · rw [if_pos (beq_iff_eq.mpr e5)]
                  exact wpS_pure ⟨s3, .inl ⟨_, _, rfl, m5.last e5 last⟩⟩
                · rw [if_neg (fun z => e5 (beq_iff_eq.mp z))]
                  split
                  · exact wpS_pure ⟨s3, .inr ⟨_, _, _, _, _, _, rfl, m5, by omega, by omega, by omega⟩⟩
                  · exact wpS_pure ⟨s3, _, _, _, _, _, _, rfl, m5, by omega, by omega, by omega⟩
            · rw [if_neg kp']
              obtain rfl : k' = 0 := by omega
              have small : ∀ i, kb + 1 ≤ i → i < b.size → num (nth a (ka + k)) ≤ num (nth b i) := small
              refine wpS_bind (tm_elem (by omega) ?_)
              have m5 := m3.pushA (by omega) small
              by_cases e5 : ka + k + 1 + 1 = a.size
              · rw [if_pos (beq_iff_eq.mpr e5)]
                exact wpS_pure ⟨s3, .inl ⟨_, _, rfl, m5.last e5 last⟩⟩
              · rw [if_neg (fun z => e5 (beq_iff_eq.mp z))]
                split
                · exact wpS_pure ⟨s3, .inr ⟨_, _, _, _, _, _, rfl, m5, by omega, by omega, by omega⟩⟩
                · exact wpS_pure ⟨s3, _, _, _, _, _, _, rfl, m5, by omega, by omega, by omega⟩
          · rw [if_neg kp]
            obtain rfl : k = 0 := by omega
            have big : ∀ i, ka ≤ i → i < a.size → num (nth b kb) < num (nth a i) := big
            refine wpS_bind (tm_elem w2 ?_)
            have m3 := m.pushB w2 fun i hi hi2 => Int.le_of_lt (big i hi hi2)
            by_cases e3 : kb + 1 = b.size
            · rw [if_pos (beq_iff_eq.mpr e3)]
              exact wpS_pure ⟨s3, .inl ⟨_, _, rfl, m3.endB (by omega)⟩⟩
            rw [if_neg (fun z => e3 (beq_iff_eq.mp z))]
            refine wpS_bind (tm_elem (by omega) (wpS_bind (tm_gallop (left := true) (key := nth a (ka)) (arr := b) (base := kb + 1) (n := b.size - (kb + 1)) (hint := 0) hk3 (iA _ (by omega)) iB (by omega) (by omega) (near_mono (sB.sub (Nat.zero_le _) (by omega))) fun k' u1 u2 u3 => ?_)))
            dsimp only
            have small : ∀ i, kb + 1 + k' ≤ i → i < b.size → num (nth a (ka)) ≤ num (nth b i) := fun i h5 h6 => by
              have z := near_leftF.mp (u3 (i - (kb + 1)) (by omega) (by omega))
              rw [show kb + 1 + (i - (kb + 1)) = i by omega] at z
              exact z
            have m4 := m3.takeB k' fun j h5 h6 h7 i h8 h9 => by
              have z := near_left.mp (u2 (j - (kb + 1)) (by omega))
              rw [show kb + 1 + (j - (kb + 1)) = j by omega] at z
              exact Int.le_trans (Int.le_of_lt z) (sA _ i (Nat.zero_le _) h8 h9)
            by_cases kp' : k' > 0
            · rw [if_pos kp']
              by_cases e4 : kb + 1 + k' = b.size
              · rw [if_pos (beq_iff_eq.mpr e4)]
                exact wpS_pure ⟨s3, .inl ⟨_, _, rfl, m4.endB (by omega)⟩⟩
              · rw [if_neg (fun z => e4 (beq_iff_eq.mp z))]
                refine wpS_bind (tm_elem (by omega) ?_)
                have m5 := m4.pushA (by omega) small
                by_cases e5 : ka + 1 + 1 = a.size
                · rw [if_pos (beq_iff_eq.mpr e5)]
                  exact wpS_pure ⟨s3, .inl ⟨_, _, rfl, m5.last e5 last⟩⟩
                · rw [if_neg (fun z => e5 (beq_iff_eq.mp z))]
                  split
                  · exact wpS_pure ⟨s3, .inr ⟨_, _, _, _, _, _, rfl, m5, by omega, by omega, by omega⟩⟩
                  · exact wpS_pure ⟨s3, _, _, _, _, _, _, rfl, m5, by omega, by omega, by omega⟩
            · rw [if_neg kp']
              obtain rfl : k' = 0 := by omega
              have small : ∀ i, kb + 1 ≤ i → i < b.size → num (nth a (ka)) ≤ num (nth b i) := small
              refine wpS_bind (tm_elem (by omega) ?_)
              have m5 := m3.pushA (by omega) small
              by_cases e5 : ka + 1 + 1 = a.size
              · rw [if_pos (beq_iff_eq.mpr e5)]
                exact wpS_pure ⟨s3, .inl ⟨_, _, rfl, m5.last e5 last⟩⟩
              · rw [if_neg (fun z => e5 (beq_iff_eq.mp z))]
                split
                · exact wpS_pure ⟨s3, .inr ⟨_, _, _, _, _, _, rfl, m5, by omega, by omega, by omega⟩⟩
                · exact wpS_pure ⟨s3, _, _, _, _, _, _, rfl, m5, by omega, by omega, by omega⟩
end
end L2G
end
section
set_option Elab.async false
set_option linter.all false
set_option maxRecDepth 100000
set_option maxHeartbeats 4000000
namespace L2G
open PySem PySem.Spec PyProof.Rows
variable [Ask]
def mergeHi' : Array Keyed → Array Keyed → StateT SortSt Sem (Array Keyed) := sortPriv% PySem.Builtin.mergeHi
def ge (x y : Keyed) : Prop := num y ≤ num x
section
variable {a b out : Array Keyed} {na nb : Nat}
abbrev MH (a b out : Array Keyed) (na nb : Nat) : Prop := MI ge (a.toList ++ b.toList) out.toList (a.toList.take na).reverse (b.toList.take nb).reverse
theorem mem_take {x : Keyed} {n : Nat} (h : x ∈ (a.toList.take n).reverse) : ∃ j, j < n ∧ j < a.size ∧ x = nth a j := by
  have h := List.mem_reverse.mp h
  obtain ⟨j, h1, h2, h3, e⟩ := mem_mid (a := a) (i := 0) (k := n) h
  exact ⟨j, by omega, h3, e⟩
theorem rev_ge {l : List Keyed} (h : l.Pairwise ge) : l.reverse.Pairwise le := List.pairwise_reverse.mpr h
theorem rev_le {l : List Keyed} (h : l.Pairwise le) : l.reverse.Pairwise ge := List.pairwise_reverse.mpr h
theorem rev_mgd {r : Array Keyed} {l : List Keyed} (e : r.toList = l.reverse) (h : l.Perm (a.toList ++ b.toList) ∧ l.Pairwise ge) : Mgd a b r := by
  unfold Mgd
  rw [e]
  exact ⟨(List.reverse_perm _).trans h.1, rev_ge h.2⟩
theorem MH.endB (m : MH a b out na 0) : Mgd a b (a.extract 0 na ++ b.extract 0 0 ++ out.reverse) := by
  have m : MI ge (a.toList ++ b.toList) out.toList (a.toList.take na).reverse [] := m
  refine rev_mgd ?_ m.endB
  rw [Array.toList_append, Array.toList_append, ext_first, ext_first, Array.toList_reverse, List.reverse_append, List.reverse_reverse, List.take_zero, List.append_nil]
theorem MH.endA (m : MH a b out 0 nb) : Mgd a b (a.extract 0 0 ++ b.extract 0 nb ++ out.reverse) := by
  have m : MI ge (a.toList ++ b.toList) out.toList [] (b.toList.take nb).reverse := m
  refine rev_mgd ?_ m.endA
  rw [Array.toList_append, Array.toList_append, ext_first, ext_first, Array.toList_reverse, List.reverse_append, List.reverse_reverse, List.take_zero, List.nil_append]
theorem MH.first (m : MH a b out na 1) (hb : 0 < b.size) (hl : ∀ i, i < a.size → num (nth b 0) ≤ num (nth a i)) : Mgd a b (b.extract 0 1 ++ a.extract 0 na ++ out.reverse) := by
  have m : MI ge (a.toList ++ b.toList) out.toList (a.toList.take na).reverse (b.toList.take 1).reverse := m
  have e : b.toList.take 1 = [nth b 0] := by
    have z := drop_nth (a := b) (i := 0) hb
    rw [List.drop_zero] at z
    rw [z]
    rfl
  rw [e] at m
  have q := m.swap.last fun y hy => by
    obtain ⟨j, _, hj, rfl⟩ := mem_take hy
    exact hl j hj
  refine rev_mgd ?_ q
  rw [Array.toList_append, Array.toList_append, ext_first, ext_first, Array.toList_reverse, e]
  simp only [List.reverse_append, List.reverse_reverse, List.reverse_cons, List.reverse_nil, List.nil_append, List.append_assoc]
theorem take_cut (l : List Keyed) {n k : Nat} (h : k ≤ n) : (l.take n).reverse = ((l.drop k).take (n - k)).reverse ++ (l.take k).reverse := by
  rw [← List.reverse_append]
  congr 1
  obtain ⟨d, rfl⟩ := Nat.exists_eq_add_of_le h
  rw [List.take_add, Nat.add_sub_cancel_left]
theorem ext_rev (a : Array Keyed) (k n : Nat) : (a.extract k n).reverse.toList = ((a.toList.drop k).take (n - k)).reverse := by
  rw [Array.toList_reverse, Array.toList_extract, List.extract_eq_take_drop]
theorem MH.takeA (m : MH a b out na nb) {k : Nat} (hk : k ≤ na) (h : ∀ j, k ≤ j → j < na → j < a.size → ∀ i, i < nb → i < b.size → num (nth b i) ≤ num (nth a j)) : MH a b (out ++ (a.extract k na).reverse) k nb := by
  have m : MI ge (a.toList ++ b.toList) out.toList (a.toList.take na).reverse (b.toList.take nb).reverse := m
  rw [take_cut a.toList hk] at m
  have q := m.a fun x hx y hy => by
    obtain ⟨j, h1, h2, h3, rfl⟩ := mem_mid (List.mem_reverse.mp hx)
    obtain ⟨i, h4, h5, rfl⟩ := mem_take hy
    exact h j h1 (by omega) h3 i h4 h5
  show MI ge _ (out ++ (a.extract k na).reverse).toList _ _
  rw [Array.toList_append, ext_rev]
  exact q
theorem MH.takeB (m : MH a b out na nb) {k : Nat} (hk : k ≤ nb) (h : ∀ j, k ≤ j → j < nb → j < b.size → ∀ i, i < na → i < a.size → num (nth a i) ≤ num (nth b j)) : MH a b (out ++ (b.extract k nb).reverse) na k := by
  have m : MI ge (a.toList ++ b.toList) out.toList (a.toList.take na).reverse (b.toList.take nb).reverse := m
  rw [take_cut b.toList hk] at m
  have q := m.b fun x hx y hy => by
    obtain ⟨j, h1, h2, h3, rfl⟩ := mem_mid (List.mem_reverse.mp hx)
    obtain ⟨i, h4, h5, rfl⟩ := mem_take hy
    exact h j h1 (by omega) h3 i h4 h5
  show MI ge _ (out ++ (b.extract k nb).reverse).toList _ _
  rw [Array.toList_append, ext_rev]
  exact q
theorem one_rev (h0 : 0 < na) (h : na ≤ a.size) : out ++ (a.extract (na - 1) na).reverse = out.push (nth a (na - 1)) := by
  apply Array.toList_inj.mp
  rw [Array.toList_append, ext_rev, drop_nth (by omega), Array.toList_push, show na - (na - 1) = 1 by omega]
  rfl
theorem MH.pushA (m : MH a b out na nb) (h0 : 0 < na) (h : na ≤ a.size) (hle : ∀ i, i < nb → i < b.size → num (nth b i) ≤ num (nth a (na - 1))) : MH a b (out.push (nth a (na - 1))) (na - 1) nb := by
  rw [← one_rev h0 h]
  exact m.takeA (by omega) fun j h1 h2 _ => by rw [show j = na - 1 by omega]; exact hle
theorem MH.pushB (m : MH a b out na nb) (h0 : 0 < nb) (h : nb ≤ b.size) (hle : ∀ i, i < na → i < a.size → num (nth a i) ≤ num (nth b (nb - 1))) : MH a b (out.push (nth b (nb - 1))) na (nb - 1) := by
  rw [← one_rev h0 h]
  exact m.takeB (by omega) fun j h1 h2 _ => by rw [show j = nb - 1 by omega]; exact hle
end
section
variable {prog : Program} {w : World} {A : Around} {E : Value → Shared → Prop} {s : Shared} {st : SortSt} {a b : Array Keyed}
variable [AskLt prog w A s]
theorem tm_hi {Q : Array Keyed → SortSt → Prop} (hk : kindOf st = Ask.kd) (iA : AllI a) (iB : AllI b) (ha : 0 < a.size) (hb : 0 < b.size) (sA : Rise a 0 a.size) (sB : Rise b 0 b.size)
    (first : ∀ i, i < a.size → num (nth b 0) ≤ num (nth a i)) (last : ∀ i, i < b.size → num (nth b i) ≤ num (nth a (a.size - 1)))
    (h : ∀ r st', Mgd a b r → SameS st st' → Q r st') : wpS (model prog w) A E s (mergeHi' a b) Q st := by
  refine wpS_bind (wpS_lift (wpAny_rule ⟨rfl, ?_⟩))
  refine wpS_bind (tm_elem (by omega) ?_)
  have m0 : MH a b #[nth a (a.size - 1)] (a.size - 1) b.size := by
    have q : MH a b #[] a.size b.size := by
      have e1 : a.toList.take a.size = a.toList := List.take_of_length_le (Nat.le_refl _)
      have e2 : b.toList.take b.size = b.toList := List.take_of_length_le (Nat.le_refl _)
      show MI ge _ ([] : List Keyed) (a.toList.take a.size).reverse (b.toList.take b.size).reverse
      rw [e1, e2]
      exact ⟨by rw [List.nil_append]; exact (List.reverse_perm _).append (List.reverse_perm _), List.Pairwise.nil, rev_le sA.pairwise, rev_le sB.pairwise, fun x hx => (by cases hx), fun x hx => (by cases hx)⟩
    exact q.pushA ha (Nat.le_refl _) fun i _ hi => last i hi
  dsimp only
  by_cases e1 : a.size - 1 = 0
  · rw [if_pos (beq_iff_eq.mpr e1)]
    rw [e1] at m0 ⊢
    exact wpS_pure (h _ _ m0.endA (SameS.refl _))
  rw [if_neg (fun z => e1 (beq_iff_eq.mp z))]
  by_cases e2 : b.size = 1
  · rw [if_pos (beq_iff_eq.mpr e2)]
    have q := MH.first (by rw [e2] at m0; exact m0) hb first
    have e3 : b.extract 0 1 = b.extract := by rw [← e2]
    rw [e3] at q
    exact wpS_pure (h _ _ q (SameS.refl _))
  rw [if_neg (fun z => e2 (beq_iff_eq.mp z))]
  refine wpS_bind (wpS_get ?_)
  refine wpS_bind (wpS_mono (wpS_forRange
    (I := fun x c st' => SameS st st' ∧ ∃ na nb out g, c = (none, na, nb, out, g) ∧ MH a b out na nb ∧ 0 < na ∧ 1 < nb ∧ na ≤ a.size ∧ nb ≤ b.size ∧ x + 1 + na + nb ≤ a.size + b.size)
    (Q := fun c st' => SameS st st' ∧ ∃ r c', c = (some r, c') ∧ Mgd a b r) ?step ?fin ⟨SameS.refl _, _, _, _, _, rfl, m0, by omega, by omega, by omega, by omega, by omega⟩) ?post)
  case post =>
    rintro c st' ⟨ss, r, c', rfl, hr⟩
    exact wpS_pure (h r st' hr ss)
  case fin =>
    rintro c st' ⟨ss, na, nb, out, g, rfl, m, h1, h2, h3, h4, h5⟩
    omega
  case step =>
    rintro x c st' _ hx ⟨ss, na, nb, out, g, rfl, m, h1, h2, h3, h4, h5⟩
    dsimp only
    have hk1 : kindOf st' = Ask.kd := ss.kind.trans hk
    refine wpS_bind (wpS_mono (wpS_forRange
      (I := fun y c st'' => st'' = st' ∧ ∃ ja jb out ac bc, c = (none, ja, jb, out, ac, bc) ∧ MH a b out ja jb ∧ 0 < ja ∧ 1 < jb ∧ ja ≤ a.size ∧ jb ≤ b.size ∧ y + ja + jb ≤ na + nb)
      (Q := fun c st'' => st'' = st' ∧ ((∃ r c', c = (some r, c') ∧ Mgd a b r) ∨ ∃ ja jb out ac bc, c = (none, ja, jb, out, ac, bc) ∧ MH a b out ja jb ∧ 0 < ja ∧ 1 < jb ∧ ja ≤ a.size ∧ jb ≤ b.size ∧ 1 + ja + jb ≤ na + nb)) ?istep ?ifin ⟨rfl, na, nb, out, 0, 0, rfl, m, h1, h2, h3, h4, by omega⟩) ?ipost)
    case ifin =>
      rintro c st'' ⟨rfl, ja, jb, out, ac, bc, rfl, m, q1, q2, q3, q4, q5⟩
      exact ⟨rfl, .inr ⟨ja, jb, out, ac, bc, rfl, m, q1, q2, q3, q4, by omega⟩⟩
    case istep =>
      rintro y c st'' _ hy ⟨rfl, ja, jb, out, ac, bc, rfl, m, q1, q2, q3, q4, q5⟩
      dsimp only
      refine wpS_bind (tm_elem (by omega) (wpS_bind (tm_elem (by omega) (wpS_bind (tm_lt hk1 (iB _ (by omega)) (iA _ (by omega)) ?_)))))
      by_cases lt : num (nth b (jb - 1)) < num (nth a (ja - 1))
      · rw [decide_eq_true lt]
        dsimp only
        rw [if_pos rfl]
        refine wpS_bind (tm_elem (by omega) ?_)
        have m2 := m.pushA q1 q3 fun i hi hi2 => Int.le_trans (sB i (jb - 1) (Nat.zero_le _) (by omega) (by omega)) (Int.le_of_lt lt)
        by_cases e : ja - 1 = 0
        · rw [if_pos (beq_iff_eq.mpr e)]
          rw [e] at m2 ⊢
          exact wpS_pure ⟨rfl, .inl ⟨_, _, rfl, m2.endA⟩⟩
        · rw [if_neg (fun z => e (beq_iff_eq.mp z))]
          refine wps_ite (fun _ => wpS_pure ⟨rfl, .inr ⟨_, _, _, _, _, rfl, m2, by omega, by omega, by omega, by omega, by omega⟩⟩) fun _ => wpS_pure ⟨rfl, _, _, _, _, _, rfl, m2, by omega, by omega, by omega, by omega, by omega⟩
      · rw [decide_eq_false lt]
        dsimp only
        rw [if_neg Bool.false_ne_true]
        refine wpS_bind (tm_elem (by omega) ?_)
        have m2 := m.pushB (by omega) q4 fun i hi hi2 => Int.le_trans (sA i (ja - 1) (Nat.zero_le _) (by omega) (by omega)) (Int.not_lt.mp lt)
        by_cases e : jb - 1 = 1
        · rw [if_pos (beq_iff_eq.mpr e)]
          rw [e] at m2 ⊢
          exact wpS_pure ⟨rfl, .inl ⟨_, _, rfl, m2.first hb first⟩⟩
        · rw [if_neg (fun z => e (beq_iff_eq.mp z))]
          refine wps_ite (fun _ => wpS_pure ⟨rfl, .inr ⟨_, _, _, _, _, rfl, m2, by omega, by omega, by omega, by omega, by omega⟩⟩) fun _ => wpS_pure ⟨rfl, _, _, _, _, _, rfl, m2, by omega, by omega, by omega, by omega, by omega⟩
    case ipost =>
      rintro c st'' ⟨rfl, ⟨r, c', rfl, hr⟩ | ⟨ja, jb, out, ac, bc, rfl, m, q1, q2, q3, q4, q5⟩⟩
      · exact wpS_pure ⟨ss, r, _, rfl, hr⟩
      dsimp only
      refine wpS_bind (wpS_lift (wpAny_rule ⟨rfl, ?_⟩))
      refine wpS_bind (wpS_mono (wpS_forRange
        (I := fun y c st2 => SameS st'' st2 ∧ ∃ ka kb out g ac bc, c = (none, ka, kb, out, g, ac, bc) ∧ MH a b out ka kb ∧ 0 < ka ∧ 1 < kb ∧ ka ≤ a.size ∧ kb ≤ b.size ∧ ka + kb ≤ ja + jb)
        (Q := fun c st2 => SameS st'' st2 ∧ ((∃ r c', c = (some r, c') ∧ Mgd a b r) ∨ ∃ ka kb out g ac bc, c = (none, ka, kb, out, g, ac, bc) ∧ MH a b out ka kb ∧ 0 < ka ∧ 1 < kb ∧ ka ≤ a.size ∧ kb ≤ b.size ∧ ka + kb ≤ ja + jb)) ?gstep ?gfin ⟨SameS.refl _, ja, jb, out, _, _, _, rfl, m, q1, q2, q3, q4, Nat.le_refl _⟩) ?gpost)
      case gfin =>
        rintro c st2 ⟨s2, w⟩
        exact ⟨s2, .inr w⟩
      case gpost =>
        rintro c st2 ⟨s2, ⟨r, c', rfl, hr⟩ | ⟨ka, kb, out, g, ac, bc, rfl, m, w1, w2, w3, w4, w5⟩⟩
        · exact wpS_pure ⟨ss.trans s2, r, _, rfl, hr⟩
        · dsimp only
          refine wpS_bind (wpS_modify (wpS_pure ⟨(ss.trans s2).trans ⟨rfl, rfl, rfl, rfl⟩, ka, kb, out, _, rfl, m, w1, w2, w3, w4, by omega⟩))
      case gstep =>
        rintro y c st2 _ hy ⟨s2, ka, kb, out, g, ac, bc, rfl, m, w1, w2, w3, w4, w5⟩
        dsimp only
        have s3 : SameS st'' (SortSt.mk' (kindOf st2) (arrOf st2) (pendingOf st2) (if g > 1 then g - 1 else g) (failedOf st2)) := ⟨s2.kind, s2.arr, s2.pend, s2.fail⟩
        have hk3 := s3.kind.trans hk1
        refine wps_ite (fun gg => ?_) (fun gg => ?_)
        all_goals
          first | rw [if_pos gg] at s3 hk3 | rw [if_neg gg] at s3 hk3
          refine wpS_bind (wpS_modify ?_)
          refine wpS_bind (tm_elem (by omega) (wpS_bind (tm_gallop (left := false) (key := nth b (kb - 1)) (arr := a) (base := 0) (n := ka) (hint := ka - 1) hk3 (iB _ (by omega)) iA (by omega) (by omega) (near_mono (sA.sub (Nat.zero_le _) (by omega))) fun k k1 k2 k3 => ?_)))
          dsimp only
          have big : ∀ i, i < k → i < a.size → num (nth a i) ≤ num (nth b (kb - 1)) := fun i h5 h6 => by
            have z := near_right.mp (k2 i h5)
            rw [Nat.zero_add] at z
            exact z
          have m2 := m.takeA (k := k) k1 fun j h5 h6 h7 i h8 h9 => by
            have z := near_rightF.mp (k3 j h5 h6)
            rw [Nat.zero_add] at z
            exact Int.le_trans (sB i (kb - 1) (Nat.zero_le _) (by omega) (by omega)) (Int.le_of_lt z)
          by_cases kp : ka - k > 0
          · rw [if_pos kp]
            by_cases e2 : k = 0
            · rw [if_pos (beq_iff_eq.mpr e2)]
              rw [e2] at m2 ⊢
              exact wpS_pure ⟨s3, .inl ⟨_, _, rfl, m2.endA⟩⟩
            rw [if_neg (fun z => e2 (beq_iff_eq.mp z))]
            refine wpS_bind (tm_elem (by omega) ?_)
            have m3 := m2.pushB (by omega) (by omega) big
            by_cases e3 : kb - 1 = 1
            · rw [if_pos (beq_iff_eq.mpr e3)]
              rw [e3] at m3 ⊢
              exact wpS_pure ⟨s3, .inl ⟨_, _, rfl, m3.first hb first⟩⟩
            rw [if_neg (fun z => e3 (beq_iff_eq.mp z))]
            refine wpS_bind (tm_elem (by omega) (wpS_bind (tm_gallop (left := true) (key := nth a (k - 1)) (arr := b) (base := 0) (n := kb - 1) (hint := kb - 1 - 1) hk3 (iA _ (by omega)) iB (by omega) (by omega) (near_mono (sB.sub (Nat.zero_le _) (by omega))) fun k' u1 u2 u3 => ?_)))
            dsimp only
            have small : ∀ i, i < k' → i < b.size → num (nth b i) ≤ num (nth a (k - 1)) := fun i h5 h6 => by
              have z := near_left.mp (u2 i h5)
              rw [Nat.zero_add] at z
              exact Int.le_of_lt z
            have m4 := m3.takeB (k := k') u1 fun j h5 h6 h7 i h8 h9 => by
              have z := near_leftF.mp (u3 j h5 h6)
              rw [Nat.zero_add] at z
              exact Int.le_trans (sA i (k - 1) (Nat.zero_le _) (by omega) (by omega)) z
            by_cases kp' : kb - 1 - k' > 0
            · rw [if_pos kp']
              by_cases e4 : k' = 1
              · rw [if_pos (beq_iff_eq.mpr e4)]
                rw [e4] at m4 ⊢
                exact wpS_pure ⟨s3, .inl ⟨_, _, rfl, m4.first hb first⟩⟩
              rw [if_neg (fun z => e4 (beq_iff_eq.mp z))]
              by_cases e6 : k' = 0
              · rw [if_pos (beq_iff_eq.mpr e6)]
                rw [e6] at m4 ⊢
                exact wpS_pure ⟨s3, .inl ⟨_, _, rfl, m4.endB⟩⟩
              rw [if_neg (fun z => e6 (beq_iff_eq.mp z))]
              refine wpS_bind (tm_elem (by omega) ?_)
              have m5 := m4.pushA (by omega) (by omega) small
              by_cases e5 : k - 1 = 0
              · rw [if_pos (beq_iff_eq.mpr e5)]
                rw [e5] at m5 ⊢
                exact wpS_pure ⟨s3, .inl ⟨_, _, rfl, m5.endA⟩⟩
              · rw [if_neg (fun z => e5 (beq_iff_eq.mp z))]
                refine wps_ite (fun _ => wpS_pure ⟨s3, .inr ⟨_, _, _, _, _, _, rfl, m5, by omega, by omega, by omega, by omega, by omega⟩⟩) fun _ => wpS_pure ⟨s3, _, _, _, _, _, _, rfl, m5, by omega, by omega, by omega, by omega, by omega⟩
            · rw [if_neg kp']
              obtain rfl : k' = kb - 1 := by omega
              refine wpS_bind (tm_elem (by omega) ?_)
              have m5 := m3.pushA (by omega) (by omega) small
              by_cases e5 : k - 1 = 0
              · rw [if_pos (beq_iff_eq.mpr e5)]
                rw [e5] at m5 ⊢
                exact wpS_pure ⟨s3, .inl ⟨_, _, rfl, m5.endA⟩⟩
              · rw [if_neg (fun z => e5 (beq_iff_eq.mp z))]
                refine wps_ite (fun _ => wpS_pure ⟨s3, .inr ⟨_, _, _, _, _, _, rfl, m5, by omega, by omega, by omega, by omega, by omega⟩⟩) fun _ => wpS_pure ⟨s3, _, _, _, _, _, _, rfl, m5, by omega, by omega, by omega, by omega, by omega⟩
          · rw [if_neg kp]
            obtain rfl : k = ka := by omega
            refine wpS_bind (tm_elem (by omega) ?_)
            have m3 := m.pushB (by omega) (by omega) big
            by_cases e3 : kb - 1 = 1
            · rw [if_pos (beq_iff_eq.mpr e3)]
              rw [e3] at m3 ⊢
              exact wpS_pure ⟨s3, .inl ⟨_, _, rfl, m3.first hb first⟩⟩
            rw [if_neg (fun z => e3 (beq_iff_eq.mp z))]
            refine wpS_bind (tm_elem (by omega) (wpS_bind (tm_gallop (left := true) (key := nth a (k - 1)) (arr := b) (base := 0) (n := kb - 1) (hint := kb - 1 - 1) hk3 (iA _ (by omega)) iB (by omega) (by omega) (near_mono (sB.sub (Nat.zero_le _) (by omega))) fun k' u1 u2 u3 => ?_)))
            dsimp only
            have small : ∀ i, i < k' → i < b.size → num (nth b i) ≤ num (nth a (k - 1)) := fun i h5 h6 => by
              have z := near_left.mp (u2 i h5)
              rw [Nat.zero_add] at z
              exact Int.le_of_lt z
            have m4 := m3.takeB (k := k') u1 fun j h5 h6 h7 i h8 h9 => by
              have z := near_leftF.mp (u3 j h5 h6)
              rw [Nat.zero_add] at z
              exact Int.le_trans (sA i (k - 1) (Nat.zero_le _) (by omega) (by omega)) z
            by_cases kp' : kb - 1 - k' > 0
            · rw [if_pos kp']
              by_cases e4 : k' = 1
              · rw [if_pos (beq_iff_eq.mpr e4)]
                rw [e4] at m4 ⊢
                exact wpS_pure ⟨s3, .inl ⟨_, _, rfl, m4.first hb first⟩⟩
              rw [if_neg (fun z => e4 (beq_iff_eq.mp z))]
              by_cases e6 : k' = 0
              · rw [if_pos (beq_iff_eq.mpr e6)]
                rw [e6] at m4 ⊢
                exact wpS_pure ⟨s3, .inl ⟨_, _, rfl, m4.endB⟩⟩
              rw [if_neg (fun z => e6 (beq_iff_eq.mp z))]
              refine wpS_bind (tm_elem (by omega) ?_)
              have m5 := m4.pushA (by omega) (by omega) small
              by_cases e5 : k - 1 = 0
              · rw [if_pos (beq_iff_eq.mpr e5)]
                rw [e5] at m5 ⊢
                exact wpS_pure ⟨s3, .inl ⟨_, _, rfl, m5.endA⟩⟩
              · rw [if_neg (fun z => e5 (beq_iff_eq.mp z))]
                refine wps_ite (fun _ => wpS_pure ⟨s3, .inr ⟨_, _, _, _, _, _, rfl, m5, by omega, by omega, by omega, by omega, by omega⟩⟩) fun _ => wpS_pure ⟨s3, _, _, _, _, _, _, rfl, m5, by omega, by omega, by omega, by omega, by omega⟩
            · rw [if_neg kp']
              obtain rfl : k' = kb - 1 := by omega
              refine wpS_bind (tm_elem (by omega) ?_)
              have m5 := m3.pushA (by omega) (by omega) small
              by_cases e5 : k - 1 = 0
              · rw [if_pos (beq_iff_eq.mpr e5)]
                rw [e5] at m5 ⊢
                exact wpS_pure ⟨s3, .inl ⟨_, _, rfl, m5.endA⟩⟩
              · rw [if_neg (fun z => e5 (beq_iff_eq.mp z))]
                refine wps_ite (fun _ => wpS_pure ⟨s3, .inr ⟨_, _, _, _, _, _, rfl, m5, by omega, by omega, by omega, by omega, by omega⟩⟩) fun _ => wpS_pure ⟨s3, _, _, _, _, _, _, rfl, m5, by omega, by omega, by omega, by omega, by omega⟩
end
end L2G
end
section
set_option Elab.async false
set_option linter.all false
set_option maxRecDepth 100000
set_option maxHeartbeats 4000000
namespace L2G
open PySem PySem.Spec PyProof.Rows
variable [Ask]
theorem nth_mem {a : Array Keyed} {i : Nat} (h : i < a.size) : nth a i ∈ a.toList := by
  have q := drop_nth h
  exact List.mem_of_mem_drop (i := i) (by rw [q]; exact List.mem_cons_self)
theorem AllI.of_mem {a : Array Keyed} (h : ∀ x ∈ a.toList, IsI x) : AllI a := fun i hi => h _ (nth_mem hi)
theorem AllI.mem {a : Array Keyed} (h : AllI a) : ∀ x ∈ a.toList, IsI x := fun x hx => by
  obtain ⟨j, hj, rfl⟩ := mem_nth hx
  exact h j hj
theorem AllI.perm {a b : Array Keyed} (h : AllI a) (p : b.Perm a) : AllI b := .of_mem fun x hx => h.mem x ((Array.perm_iff_toList_perm.mp p).mem_iff.mp hx)
theorem nth_ext {a : Array Keyed} {i j t : Nat} (h : i + t < j) (hj : j ≤ a.size) : nth (a.extract i j) t = nth a (i + t) := by
  refine nth_of ?_
  rw [Array.getElem?_extract, if_pos (by omega), nth_some (by omega)]
theorem size_ext {a : Array Keyed} {i j : Nat} (hj : j ≤ a.size) : (a.extract i j).size = j - i := by
  rw [Array.size_extract]
  omega
theorem Rise.of_pairwise {a : Array Keyed} (h : a.toList.Pairwise le) : Rise a 0 a.size := by
  intro i j _ hij hj
  rcases Nat.lt_or_ge i j with lt | ge
  · have q := List.pairwise_iff_getElem.mp h i j (by exact Nat.lt_trans lt hj) (by exact hj) lt
    have e1 := nth_some (arr := a) (i := i) (Nat.lt_trans lt hj)
    have e2 := nth_some (arr := a) (i := j) hj
    rw [← Array.getElem?_toList, List.getElem?_eq_getElem (by exact Nat.lt_trans lt hj)] at e1
    rw [← Array.getElem?_toList, List.getElem?_eq_getElem (by exact hj)] at e2
    rw [Option.some.inj e1, Option.some.inj e2] at q
    exact q
  · rw [show i = j by omega]
    exact Int.le_refl _
def lay (xs : Array Keyed) (k : Nat) (l : List (Keyed × Nat)) : Array Keyed := l.foldl (fun a x => a.setIfInBounds (k + x.2) x.1) xs
theorem lay_size : ∀ (l : List (Keyed × Nat)) (xs : Array Keyed) (k : Nat), (lay xs k l).size = xs.size
  | [], _, _ => rfl
  | x :: l, xs, k => (lay_size l (xs.setIfInBounds (k + x.2) x.1) k).trans Array.size_setIfInBounds
theorem lay_get : ∀ (l : List Keyed) (xs : Array Keyed) (k j i : Nat), k + j + l.length ≤ xs.size → (lay xs k (l.zipIdx j))[i]? = if k + j ≤ i ∧ i < k + j + l.length then l[i - (k + j)]? else xs[i]?
  | [], xs, k, j, i, _ => by
    rw [if_neg (by simp only [List.length_nil]; omega)]
    rfl
  | x :: l, xs, k, j, i, h => by
    rw [List.length_cons] at h
    have ih := lay_get l (xs.setIfInBounds (k + j) x) k (j + 1) i (by rw [Array.size_setIfInBounds]; omega)
    show (lay (xs.setIfInBounds (k + j) x) k (l.zipIdx (j + 1)))[i]? = _
    rw [ih, Array.getElem?_setIfInBounds]
    rw [List.length_cons]
    rcases Nat.lt_trichotomy i (k + j) with c | c | c
    · rw [if_neg (by omega), if_neg (by omega), if_neg (by omega)]
    · rw [if_neg (by omega), if_pos (by omega), if_pos (by omega), if_pos (by omega), c, Nat.sub_self]
      rfl
    · by_cases d : i < k + j + (l.length + 1)
      · rw [if_pos (by omega), if_pos (by omega), show i - (k + j) = (i - (k + (j + 1))) + 1 by omega, List.getElem?_cons_succ]
      · rw [if_neg (by omega), if_neg (by omega), if_neg (by omega)]
theorem lay_list (l : List Keyed) (xs : Array Keyed) (k : Nat) (h : k + l.length ≤ xs.size) : (lay xs k l.zipIdx).toList = xs.toList.take k ++ (l ++ xs.toList.drop (k + l.length)) := by
  refine List.ext_getElem? fun i => ?_
  have hz : xs.toList.length = xs.size := rfl
  rw [Array.getElem?_toList, lay_get l xs k 0 i (by omega), Nat.add_zero]
  have tl : (xs.toList.take k).length = k := by rw [List.length_take]; omega
  rcases Nat.lt_or_ge i k with c | c
  · rw [if_neg (by omega), List.getElem?_append_left (by omega), List.getElem?_take_of_lt c, Array.getElem?_toList]
  · rw [List.getElem?_append_right (by omega), tl]
    rcases Nat.lt_or_ge i (k + l.length) with d | d
    · rw [if_pos ⟨c, d⟩, List.getElem?_append_left (by omega)]
    · rw [if_neg (by omega), List.getElem?_append_right (by omega), List.getElem?_drop, Array.getElem?_toList]
      congr 1
      omega
theorem nth_lay {l : List Keyed} {xs : Array Keyed} {k i : Nat} (h : k + l.length ≤ xs.size) (hi : i < k ∨ k + l.length ≤ i) : nth (lay xs k l.zipIdx) i = nth xs i := by
  unfold nth
  rw [Array.getD_eq_getD_getElem?, Array.getD_eq_getD_getElem?, lay_get l xs k 0 i (by omega), if_neg (by omega)]
theorem nth_laid {m xs : Array Keyed} {k i : Nat} (h : k + m.size ≤ xs.size) (h1 : k ≤ i) (h2 : i < k + m.size) : nth (lay xs k m.toList.zipIdx) i = nth m (i - k) := by
  have hz : m.toList.length = m.size := rfl
  refine nth_of ?_
  rw [lay_get m.toList xs k 0 i (by omega), if_pos (by omega), Nat.add_zero, Array.getElem?_toList, nth_some (by omega)]
section
variable {prog : Program} {w : World} {A : Around} {E : Value → Shared → Prop} {s : Shared} {st : SortSt}
variable [AskLt prog w A s]
theorem tm_set {st' : SortSt} {Q : PUnit → SortSt → Prop} (h : Q ⟨⟩ st') : wpS (model prog w) A E s (set st' : StateT SortSt Sem PUnit) Q st := by
  unfold wpS
  rw [StateT.run_set]
  exact wpAny_pure ⟨rfl, h⟩
theorem tm_ltAt {i j : Nat} {Q : Option Bool → SortSt → Prop} (hk : kindOf st = Ask.kd) (hA : AllI (arrOf st)) (hi : i < (arrOf st).size) (hj : j < (arrOf st).size) (h : Q (some (decide (num (nth (arrOf st) i) < num (nth (arrOf st) j)))) st) : wpS (model prog w) A E s (ltAt' i j) Q st :=
  wpS_bind (wpS_get (wpS_bind (tm_elem hi (wpS_bind (tm_elem hj (tm_lt hk (hA _ hi) (hA _ hj) h))))))
theorem tm_mergeAt {i sa na pw sb nb pw2 : Nat} {Q : Bool → SortSt → Prop} (hk : kindOf st = Ask.kd) (hf : failedOf st = none) (hA : AllI (arrOf st)) (p1 : (pendingOf st)[i]? = some (sa, na, pw)) (p2 : (pendingOf st)[i + 1]? = some (sb, nb, pw2))
    (hs : sb = sa + na) (h1 : 0 < na) (h2 : 0 < nb) (hz : sb + nb ≤ (arrOf st).size) (rA : Rise (arrOf st) sa sb) (rB : Rise (arrOf st) sb (sb + nb))
    (h : ∀ st', (arrOf st').Perm (arrOf st) → kindOf st' = kindOf st → failedOf st' = none → pendingOf st' = ((pendingOf st).setIfInBounds i (sa, na + nb, pw)).eraseIdxIfInBounds (i + 1) → (∀ j, j < sa ∨ sb + nb ≤ j → nth (arrOf st') j = nth (arrOf st) j) → Rise (arrOf st') sa (sb + nb) → Q true st') :
    wpS (model prog w) A E s (mergeAt' i) Q st := by
  obtain ⟨kd, xs, pn, gl, fl⟩ := st
  have hk : kd = Ask.kd := hk
  have hf : fl = none := hf
  have hA : AllI xs := hA
  have p1 : pn[i]? = some (sa, na, pw) := p1
  have p2 : pn[i + 1]? = some (sb, nb, pw2) := p2
  have hz : sb + nb ≤ xs.size := hz
  have rA : Rise xs sa sb := rA
  have rB : Rise xs sb (sb + nb) := rB
  have h : ∀ st', (arrOf st').Perm xs → kindOf st' = kd → failedOf st' = none → pendingOf st' = (pn.setIfInBounds i (sa, na + nb, pw)).eraseIdxIfInBounds (i + 1) → (∀ j, j < sa ∨ sb + nb ≤ j → nth (arrOf st') j = nth xs j) → Rise (arrOf st') sa (sb + nb) → Q true st' := h
  refine wpS_bind (wpS_get ?_)
  dsimp only
  rw [p1, p2]
  dsimp only
  refine wpS_bind (tm_set ?_)
  refine wpS_bind (tm_elem (by omega) (wpS_bind (tm_gallop (left := false) (key := nth xs sb) (arr := xs) (base := sa) (n := na) (hint := 0) hk (hA _ (by omega)) hA (by omega) (by omega) (near_mono (rA.sub (Nat.le_refl _) (by omega))) fun k k1 k2 k3 => ?_)))
  dsimp only
  have low : ∀ j, sa ≤ j → j < sa + k → num (nth xs j) ≤ num (nth xs sb) := fun j q1 q2 => by
    have z := near_right.mp (k2 (j - sa) (by omega))
    rw [show sa + (j - sa) = j by omega] at z
    exact z
  have high : ∀ j, sa + k ≤ j → j < sb → num (nth xs sb) < num (nth xs j) := fun j q1 q2 => by
    have z := near_rightF.mp (k3 (j - sa) (by omega) (by omega))
    rw [show sa + (j - sa) = j by omega] at z
    exact z
  by_cases e1 : na - k = 0
  · rw [if_pos (beq_iff_eq.mpr e1)]
    refine wpS_pure (h _ (Array.Perm.refl _) rfl hf rfl (fun j _ => rfl) ?_)
    show Rise xs sa (sb + nb)
    intro i' j' q1 q2 q3
    rcases Nat.lt_or_ge j' sb with c | c
    · exact rA i' j' q1 q2 c
    · rcases Nat.lt_or_ge i' sb with d | d
      · exact Int.le_trans (low i' q1 (by omega)) (rB sb j' (Nat.le_refl _) c q3)
      · exact rB i' j' d q2 q3
  rw [if_neg (fun z => e1 (beq_iff_eq.mp z))]
  refine wpS_bind (tm_elem (by omega) (wpS_bind (tm_gallop (left := true) (key := nth xs (sa + k + (na - k) - 1)) (arr := xs) (base := sb) (n := nb) (hint := nb - 1) hk (hA _ (by omega)) hA (by omega) (by omega) (near_mono rB) fun m u1 u2 u3 => ?_)))
  dsimp only
  rw [show sa + k + (na - k) - 1 = sb - 1 by omega] at u2 u3
  have lowB : ∀ j, sb ≤ j → j < sb + m → num (nth xs j) < num (nth xs (sb - 1)) := fun j q1 q2 => by
    have z := near_left.mp (u2 (j - sb) (by omega))
    rw [show sb + (j - sb) = j by omega] at z
    exact z
  have highB : ∀ j, sb + m ≤ j → j < sb + nb → num (nth xs (sb - 1)) ≤ num (nth xs j) := fun j q1 q2 => by
    have z := near_leftF.mp (u3 (j - sb) (by omega) (by omega))
    rw [show sb + (j - sb) = j by omega] at z
    exact z
  by_cases e2 : m = 0
  · have z1 := highB sb (by omega) (by omega)
    have z2 := high (sb - 1) (by omega) (by omega)
    omega
  rw [if_neg (fun z => e2 (beq_iff_eq.mp z))]
  have zx : (xs.extract (sa + k) sb).size = sb - (sa + k) := size_ext (by omega)
  have zy : (xs.extract sb (sb + m)).size = m := by rw [size_ext (by omega)]; omega
  have nx : ∀ t, t < sb - (sa + k) → nth (xs.extract (sa + k) sb) t = nth xs (sa + k + t) := fun t ht => nth_ext (by omega) (by omega)
  have ny : ∀ t, t < m → nth (xs.extract sb (sb + m)) t = nth xs (sb + t) := fun t ht => nth_ext (by omega) (by omega)
  have iX : AllI (xs.extract (sa + k) sb) := fun t ht => by rw [nx t (by omega)]; exact hA _ (by omega)
  have iY : AllI (xs.extract sb (sb + m)) := fun t ht => by rw [ny t (by omega)]; exact hA _ (by omega)
  have sX : Rise (xs.extract (sa + k) sb) 0 (xs.extract (sa + k) sb).size := fun t u _ q2 q3 => by rw [nx t (by omega), nx u (by omega)]; exact rA _ _ (by omega) (by omega) (by omega)
  have sY : Rise (xs.extract sb (sb + m)) 0 (xs.extract sb (sb + m)).size := fun t u _ q2 q3 => by rw [ny t (by omega), ny u (by omega)]; exact rB _ _ (by omega) (by omega) (by omega)
  have first : ∀ t, t < (xs.extract (sa + k) sb).size → num (nth (xs.extract sb (sb + m)) 0) ≤ num (nth (xs.extract (sa + k) sb) t) := fun t ht => by
    rw [ny 0 (by omega), nx t (by omega)]
    exact Int.le_of_lt (high _ (by omega) (by omega))
  have last : ∀ t, t < (xs.extract sb (sb + m)).size → num (nth (xs.extract sb (sb + m)) t) ≤ num (nth (xs.extract (sa + k) sb) ((xs.extract (sa + k) sb).size - 1)) := fun t ht => by
    rw [ny t (by omega), nx _ (by omega), show sa + k + ((xs.extract (sa + k) sb).size - 1) = sb - 1 by omega]
    exact Int.le_of_lt (lowB _ (by omega) (by omega))
  have fin : ∀ (r : Array Keyed) (st3 : SortSt), Mgd (xs.extract (sa + k) sb) (xs.extract sb (sb + m)) r → SameS (SortSt.mk' kd xs ((pn.setIfInBounds i (sa, na + nb, pw)).eraseIdxIfInBounds (i + 1)) gl fl) st3 →
      Q (failedOf st3).isNone (SortSt.mk' (kindOf st3) (lay (arrOf st3) (sa + k) r.toList.zipIdx) (pendingOf st3) (gallopOf st3) (failedOf st3)) := by
    intro r st3 ⟨rp, rs⟩ ss
    have ef : failedOf st3 = none := ss.fail.trans hf
    have ea : arrOf st3 = xs := ss.arr
    have zr : r.size = sb - (sa + k) + m := by
      have z := rp.length_eq
      rw [List.length_append] at z
      have z1 : (xs.extract (sa + k) sb).toList.length = sb - (sa + k) := zx
      have z2 : (xs.extract sb (sb + m)).toList.length = m := zy
      have z3 : r.toList.length = r.size := rfl
      omega
    have hr : sa + k + r.size ≤ xs.size := by omega
    have rr := Rise.of_pairwise rs
    have within : ∀ t, t < r.size → num (nth xs sb) ≤ num (nth r t) ∧ num (nth r t) ≤ num (nth xs (sb - 1)) := fun t ht => by
      have q := rp.mem_iff.mp (nth_mem ht)
      rcases List.mem_append.mp q with q | q
      · obtain ⟨j, hj, e⟩ := mem_nth q
        rw [e, nx j (by omega)]
        exact ⟨Int.le_of_lt (high _ (by omega) (by omega)), rA _ _ (by omega) (by omega) (by omega)⟩
      · obtain ⟨j, hj, e⟩ := mem_nth q
        rw [e, ny j (by omega)]
        exact ⟨rB _ _ (by omega) (by omega) (by omega), Int.le_of_lt (lowB _ (by omega) (by omega))⟩
    rw [ef, ea]
    have hzl : r.toList.length = r.size := rfl
    have n1 : ∀ j, j < sa + k ∨ sa + k + r.size ≤ j → nth (lay xs (sa + k) r.toList.zipIdx) j = nth xs j := fun j hj => nth_lay (by omega) (by omega)
    have n2 : ∀ j, sa + k ≤ j → j < sa + k + r.size → nth (lay xs (sa + k) r.toList.zipIdx) j = nth r (j - (sa + k)) := fun j q1 q2 => nth_laid hr q1 q2
    refine h _ ?_ ss.kind rfl ss.pend (fun j hj => n1 j (by omega)) ?_
    · show (lay xs (sa + k) r.toList.zipIdx).Perm xs
      rw [Array.perm_iff_toList_perm, lay_list _ _ _ (by omega)]
      have e : xs.toList = xs.toList.take (sa + k) ++ ((xs.extract (sa + k) sb).toList ++ (xs.extract sb (sb + m)).toList ++ xs.toList.drop (sa + k + r.size)) := by
        have e1 : (xs.extract (sa + k) sb).toList = (xs.toList.drop (sa + k)).take (sb - (sa + k)) := by
          have q := ext_to xs (sa + k) (sb - (sa + k))
          rw [show sa + k + (sb - (sa + k)) = sb by omega] at q
          exact q
        have e2 : (xs.extract sb (sb + m)).toList = ((xs.toList.drop (sa + k)).drop (sb - (sa + k))).take m := by
          rw [ext_to, List.drop_drop, show sa + k + (sb - (sa + k)) = sb by omega]
        rw [e1, e2, ← List.take_add, ← zr, show xs.toList.drop (sa + k + r.size) = (xs.toList.drop (sa + k)).drop r.size by rw [List.drop_drop], List.take_append_drop, List.take_append_drop]
      refine List.Perm.trans ?_ (List.Perm.of_eq e.symm)
      exact List.Perm.append_left _ (List.Perm.append_right _ rp)
    · show Rise (lay xs (sa + k) r.toList.zipIdx) sa (sb + nb)
      intro i' j' q1 q2 q3
      rcases Nat.lt_or_ge i' (sa + k) with c | c
      · rw [n1 i' (.inl c)]
        rcases Nat.lt_or_ge j' (sa + k) with d | d
        · rw [n1 j' (.inl d)]
          exact rA _ _ q1 q2 (by omega)
        · rcases Nat.lt_or_ge j' (sa + k + r.size) with f | f
          · rw [n2 j' d f]
            exact Int.le_trans (low i' q1 c) (within _ (by omega)).1
          · rw [n1 j' (.inr f)]
            exact Int.le_trans (low i' q1 c) (rB sb j' (Nat.le_refl _) (by omega) q3)
      · rcases Nat.lt_or_ge i' (sa + k + r.size) with d | d
        · rw [n2 i' c d]
          rcases Nat.lt_or_ge j' (sa + k + r.size) with f | f
          · rw [n2 j' (by omega) f]
            exact rr _ _ (Nat.zero_le _) (by omega) (by omega)
          · rw [n1 j' (.inr f)]
            exact Int.le_trans (within _ (by omega)).2 (highB j' (by omega) q3)
        · rw [n1 i' (.inr d), n1 j' (.inr (by omega))]
          exact rB _ _ (by omega) q2 q3
  refine wps_ite (fun _ => ?_) (fun _ => ?_)
  · refine wpS_bind (tm_lo hk iX iY (by omega) (by omega) sX sY first last fun r st3 hr ss => ?_)
    exact wpS_bind (wpS_modify (wpS_bind (wpS_get (wpS_pure (fin r st3 hr ss)))))
  · refine wpS_bind (tm_hi hk iX iY (by omega) (by omega) sX sY first last fun r st3 hr ss => ?_)
    exact wpS_bind (wpS_modify (wpS_bind (wpS_get (wpS_pure (fin r st3 hr ss)))))
end
end L2G
end
section
set_option Elab.async false
set_option linter.all false
set_option maxRecDepth 100000
set_option maxHeartbeats 4000000
namespace L2G
open PySem PySem.Spec PyProof.Rows
variable [Ask]
def Fall (a : Array Keyed) (lo hi : Nat) : Prop := ∀ i j, lo ≤ i → i ≤ j → j < hi → num (nth a j) ≤ num (nth a i)
structure Kp (lo : Nat) (st st' : SortSt) : Prop where
  perm : (arrOf st').Perm (arrOf st)
  kind : kindOf st' = kindOf st
  pend : pendingOf st' = pendingOf st
  fail : failedOf st' = failedOf st
  low : ∀ i, i < lo → nth (arrOf st') i = nth (arrOf st) i
theorem Kp.refl (lo : Nat) (st : SortSt) : Kp lo st st := ⟨Array.Perm.refl _, rfl, rfl, rfl, fun _ _ => rfl⟩
theorem Kp.trans {lo : Nat} {s1 s2 s3 : SortSt} (a : Kp lo s1 s2) (b : Kp lo s2 s3) : Kp lo s1 s3 :=
  ⟨b.perm.trans a.perm, b.kind.trans a.kind, b.pend.trans a.pend, b.fail.trans a.fail, fun i h => (b.low i h).trans (a.low i h)⟩
theorem Kp.size {lo : Nat} {s1 s2 : SortSt} (a : Kp lo s1 s2) : (arrOf s2).size = (arrOf s1).size := a.perm.size_eq
theorem nth_mirror {xs : Array Keyed} {i j : Nat} (hj : j ≤ xs.size) (k : Nat) : nth (mirror xs i j ((j - i) / 2)) k = if i ≤ k ∧ k < j then nth xs (i + j - 1 - k) else nth xs k := by
  have e := getElem?_mirror_all (i := i) hj k
  unfold nth
  rw [Array.getD_eq_getD_getElem?, Array.getD_eq_getD_getElem?, Array.getD_eq_getD_getElem?, e]
  by_cases c : i ≤ k ∧ k < j
  · rw [if_pos c, if_pos c]
  · rw [if_neg c, if_neg c]
theorem num_mirror {xs : Array Keyed} {i j : Nat} (hj : j ≤ xs.size) (h : ∀ k, i ≤ k → k < j → num (nth xs k) = num (nth xs (j - 1))) (k : Nat) : num (nth (mirror xs i j ((j - i) / 2)) k) = num (nth xs k) := by
  rw [nth_mirror hj]
  by_cases c : i ≤ k ∧ k < j
  · rw [if_pos c, h _ (by omega) (by omega), h k c.1 c.2]
  · rw [if_neg c]
theorem Kp.rev {lo : Nat} {st : SortSt} {i j : Nat} (hi : lo ≤ i) (hj : j ≤ (arrOf st).size) : Kp lo st (setArr st (mirror (arrOf st) i j ((j - i) / 2))) :=
  ⟨mirror_perm _ _ _ _, rfl, rfl, rfl, fun k hk => by
    show nth (mirror (arrOf st) i j ((j - i) / 2)) k = _
    rw [nth_mirror hj, if_neg (by omega)]⟩
theorem nth_bubble {xs : Array Keyed} {src d : Nat} (hs : src < xs.size) (hd : d ≤ src) (k : Nat) : nth (bubble xs src d) k = if k = src - d then nth xs src else if src - d < k ∧ k ≤ src then nth xs (k - 1) else nth xs k := by
  have e := getElem?_bubble hs d hd k
  unfold nth
  rw [Array.getD_eq_getD_getElem?, e]
  by_cases c : k = src - d
  · rw [if_pos c, if_pos c, Array.getD_eq_getD_getElem?]
  · rw [if_neg c, if_neg c]
    by_cases c2 : src - d < k ∧ k ≤ src
    · rw [if_pos c2, if_pos c2, Array.getD_eq_getD_getElem?]
    · rw [if_neg c2, if_neg c2, Array.getD_eq_getD_getElem?]
section
variable {prog : Program} {w : World} {A : Around} {E : Value → Shared → Prop} {s : Shared} {st : SortSt}
variable [AskLt prog w A s]
abbrev Up := Option (Option Nat) × Nat
theorem tm_asc {lo a nrem : Nat} {f : Nat → Up → StateT SortSt Sem (ForInStep Up)} {Q : Up → SortSt → Prop}
    (hf : ∀ x n, f x (none, n) = ltAt' (lo + n) (lo + n - 1) >>= fun r => match r with | some sm => if sm = true then pure (.done (none, n)) else pure (.yield (none, n + 1)) | none => pure (.done (some none, n)))
    (hk : kindOf st = Ask.kd) (hA : AllI (arrOf st)) (ha : 1 ≤ a) (han : a ≤ nrem) (hz : lo + nrem ≤ (arrOf st).size) (hs : Rise (arrOf st) lo (lo + a))
    (h : ∀ m, a ≤ m → m ≤ nrem → Rise (arrOf st) lo (lo + m) → (m = nrem ∨ num (nth (arrOf st) (lo + m)) < num (nth (arrOf st) (lo + m - 1))) → Q (none, m) st) : wpS (model prog w) A E s (forIn [a:nrem] ((none, a) : Up) f) Q st := by
  refine wpS_forRange (I := fun x c st' => st' = st ∧ c = (none, x) ∧ Rise (arrOf st) lo (lo + x)) ?_ ?_ ⟨rfl, rfl, hs⟩
  · rintro x c st' h1 h2 ⟨rfl, rfl, r⟩
    rw [hf]
    refine wpS_bind (tm_ltAt hk hA (by omega) (by omega) ?_)
    by_cases lt : num (nth (arrOf st') (lo + x)) < num (nth (arrOf st') (lo + x - 1))
    · rw [decide_eq_true lt]
      exact wpS_pure (h x h1 (by omega) r (.inr lt))
    · rw [decide_eq_false lt]
      refine wpS_pure ⟨rfl, rfl, fun i j q1 q2 q3 => ?_⟩
      rcases Nat.lt_or_ge j (lo + x) with c | c
      · exact r i j q1 q2 c
      · rcases Nat.lt_or_ge i j with d | d
        · have z := r i (lo + x - 1) q1 (by omega) (by omega)
          rw [show j = lo + x by omega]
          omega
        · rw [show i = j by omega]; exact Int.le_refl _
  · rintro c st' ⟨rfl, rfl, r⟩
    rw [show max a nrem = nrem by omega] at r ⊢
    exact h nrem han (Nat.le_refl _) r (.inl rfl)
abbrev Dn3 := Option (Option Nat) × Nat × Nat
theorem tm_desc {lo a nrem : Nat} {f : Nat → Dn3 → StateT SortSt Sem (ForInStep Dn3)} {Q : Dn3 → SortSt → Prop}
    (hf : ∀ x n q, f x (none, n, q) = ltAt' (lo + n) (lo + n - 1) >>= fun r => match r with
      | some sm => if sm = true then (if q > 0 then reverseSlice' (lo + n - (q + 1)) (lo + n) >>= fun _ => pure (.yield (none, n + 1, 0)) else pure (.yield (none, n + 1, 0)))
          else ltAt' (lo + n - 1) (lo + n) >>= fun r2 => match r2 with | some lg => if lg = true then pure (.done (none, n, q)) else pure (.yield (none, n + 1, q + 1)) | none => pure (.done (some none, n, q))
      | none => pure (.done (some none, n, q)))
    (hk : kindOf st = Ask.kd) (hA : AllI (arrOf st)) (ha : 1 ≤ a) (han : a ≤ nrem) (hz : lo + nrem ≤ (arrOf st).size) (hs : Fall (arrOf st) lo (lo + a))
    (h : ∀ m q st', Kp lo st st' → a ≤ m → m ≤ nrem → Fall (arrOf st') lo (lo + m) → q + 1 ≤ m → (∀ i, lo + m - (q + 1) ≤ i → i < lo + m → num (nth (arrOf st') i) = num (nth (arrOf st') (lo + m - 1))) → Q (none, m, q) st') :
    wpS (model prog w) A E s (forIn [a:nrem] ((none, a, 0) : Dn3) f) Q st := by
  refine wpS_forRange (I := fun x c st' => ∃ q, c = (none, x, q) ∧ Kp lo st st' ∧ Fall (arrOf st') lo (lo + x) ∧ q + 1 ≤ x ∧ ∀ i, lo + x - (q + 1) ≤ i → i < lo + x → num (nth (arrOf st') i) = num (nth (arrOf st') (lo + x - 1))) ?_ ?_ ⟨0, rfl, Kp.refl _ _, hs, by omega, fun i q1 q2 => by rw [show i = lo + a - 1 by omega]⟩
  · rintro x c st' h1 h2 ⟨q, rfl, kp, r, hq, eq⟩
    have hz' : lo + nrem ≤ (arrOf st').size := by rw [kp.size]; exact hz
    have hA' := hA.perm kp.perm
    have hk' := kp.kind.trans hk
    have more : ∀ ys : Array Keyed, (∀ k, num (nth ys k) = num (nth (arrOf st') k)) → num (nth (arrOf st') (lo + x)) ≤ num (nth (arrOf st') (lo + x - 1)) → Fall ys lo (lo + (x + 1)) := fun ys ey lt i j q1 q2 q3 => by
      rw [ey, ey]
      rcases Nat.lt_or_ge j (lo + x) with c | c
      · exact r i j q1 q2 c
      · rcases Nat.lt_or_ge i j with d | d
        · have z := r i (lo + x - 1) q1 (by omega) (by omega)
          rw [show j = lo + x by omega]
          omega
        · rw [show i = j by omega]; exact Int.le_refl _
    rw [hf]
    refine wpS_bind (tm_ltAt hk' hA' (by omega) (by omega) ?_)
    by_cases lt : num (nth (arrOf st') (lo + x)) < num (nth (arrOf st') (lo + x - 1))
    · rw [decide_eq_true lt]
      refine wps_ite (fun _ => ?_) (fun z => absurd rfl z)
      refine wps_ite (fun _ => ?_) (fun _ => ?_)
      · refine wpS_bind (wpS_reverse (wpS_pure ⟨0, rfl, kp.trans (Kp.rev (by omega) (by omega)), ?_, by omega, fun i q1 q2 => by rw [show i = lo + (x + 1) - 1 by omega]⟩))
        exact more _ (num_mirror (by omega) eq) (Int.le_of_lt lt)
      · exact wpS_pure ⟨0, rfl, kp, more _ (fun _ => rfl) (Int.le_of_lt lt), by omega, fun i q1 q2 => by rw [show i = lo + (x + 1) - 1 by omega]⟩
    · rw [decide_eq_false lt]
      refine wps_ite (fun z => nomatch z) (fun _ => ?_)
      refine wpS_bind (tm_ltAt hk' hA' (by omega) (by omega) ?_)
      by_cases lg : num (nth (arrOf st') (lo + x - 1)) < num (nth (arrOf st') (lo + x))
      · rw [decide_eq_true lg]
        exact wpS_pure (h x q st' kp h1 (by omega) r hq eq)
      · rw [decide_eq_false lg]
        have same : num (nth (arrOf st') (lo + x)) = num (nth (arrOf st') (lo + x - 1)) := by omega
        refine wpS_pure ⟨q + 1, rfl, kp, more _ (fun _ => rfl) (by omega), by omega, fun i q1 q2 => ?_⟩
        rw [show lo + (x + 1) - 1 = lo + x by omega]
        rcases Nat.lt_or_ge i (lo + x) with c | c
        · rw [eq i (by omega) c, same]
        · rw [show i = lo + x by omega]
  · rintro c st' ⟨q, rfl, kp, r, hq, eq⟩
    rw [show max a nrem = nrem by omega] at r hq eq ⊢
    exact h nrem q st' kp han (Nat.le_refl _) r hq eq
theorem Fall.rev {xs : Array Keyed} {lo n : Nat} (h : Fall xs lo (lo + n)) (hz : lo + n ≤ xs.size) : Rise (mirror xs lo (lo + n) ((lo + n - lo) / 2)) lo (lo + n) := fun i j q1 q2 q3 => by
  rw [nth_mirror hz, nth_mirror hz, if_pos (by omega), if_pos (by omega)]
  exact h _ _ (by omega) (by omega) (by omega)
theorem tm_countRun {lo nrem : Nat} {Q : Option Nat → SortSt → Prop} (hk : kindOf st = Ask.kd) (hA : AllI (arrOf st)) (h1 : 1 ≤ nrem) (hz : lo + nrem ≤ (arrOf st).size)
    (h : ∀ m st', Kp lo st st' → 1 ≤ m → m ≤ nrem → Rise (arrOf st') lo (lo + m) → Q (some m) st') : wpS (model prog w) A E s (countRun' lo nrem) Q st := by
  refine wpS_bind (tm_asc (lo := lo) (fun x n => bind_congr fun r => by cases r <;> rfl) hk hA (Nat.le_refl 1) h1 hz (fun i j q1 q2 q3 => by rw [show i = j by omega]; exact Int.le_refl _) fun n n1 n2 r hor => ?_)
  dsimp only
  by_cases e : n = nrem
  · rw [if_pos (beq_iff_eq.mpr e)]
    exact wpS_pure (h n st (Kp.refl _ _) n1 n2 r)
  rw [if_neg (fun z => e (beq_iff_eq.mp z))]
  have lt := hor.resolve_left e
  by_cases g : n > 1
  · rw [if_pos g]
    refine wpS_bind (tm_ltAt hk hA (by omega) (by omega) ?_)
    by_cases rose : num (nth (arrOf st) lo) < num (nth (arrOf st) (lo + n - 1))
    · rw [decide_eq_true rose]
      exact wpS_pure (h n st (Kp.refl _ _) n1 n2 r)
    rw [decide_eq_false rose]
    refine wps_ite (fun z => nomatch z) (fun _ => ?_)
    have all : ∀ k, lo ≤ k → k < lo + n → num (nth (arrOf st) k) = num (nth (arrOf st) (lo + n - 1)) := fun k q1 q2 => by
      have z1 := r lo k (Nat.le_refl _) q1 q2
      have z2 := r k (lo + n - 1) q1 (by omega) (by omega)
      omega
    refine wpS_bind (wpS_reverse ?_)
    have nm := num_mirror (xs := arrOf st) (i := lo) (j := lo + n) (by omega) all
    have kp1 : Kp lo st (setArr st (mirror (arrOf st) lo (lo + n) ((lo + n - lo) / 2))) := Kp.rev (Nat.le_refl _) (by omega)
    have fl : Fall (mirror (arrOf st) lo (lo + n) ((lo + n - lo) / 2)) lo (lo + (n + 1)) := fun i j q1 q2 q3 => by
      rw [nm, nm]
      rcases Nat.lt_or_ge j (lo + n) with c | c
      · rw [all j (by omega) c, all i q1 (by omega)]; exact Int.le_refl _
      · rcases Nat.lt_or_ge i j with d | d
        · rw [all i q1 (by omega), show j = lo + n by omega]; exact Int.le_of_lt lt
        · rw [show i = j by omega]; exact Int.le_refl _
    refine wpS_bind (wpS_lift (wpAny_rule ⟨rfl, ?_⟩))
    refine wpS_bind (tm_desc (lo := lo) (fun x n q => bind_congr fun r => by
      cases r with
      | none => rfl
      | some b =>
        cases b with
        | true => rfl
        | false => exact bind_congr fun r2 => by cases r2 <;> rfl) (kp1.kind.trans hk) (hA.perm kp1.perm) (by omega) (by omega) (by rw [kp1.size]; exact hz) fl fun m q st2 kp2 m1 m2 fall hq eq => ?_)
    dsimp only
    have kp2 := kp1.trans kp2
    refine wps_ite (fun _ => ?_) (fun _ => ?_)
    · refine wpS_bind (wpS_reverse ?_)
      have kq := kp2.trans (Kp.rev (st := st2) (lo := lo) (i := lo + m - (q + 1)) (j := lo + m) (by omega) (by have z := kp2.size; omega))
      have fall2 : Fall (mirror (arrOf st2) (lo + m - (q + 1)) (lo + m) ((lo + m - (lo + m - (q + 1))) / 2)) lo (lo + m) := fun i j q1 q2 q3 => by
        rw [num_mirror (by have z := kp2.size; omega) eq, num_mirror (by have z := kp2.size; omega) eq]
        exact fall i j q1 q2 q3
      refine wpS_bind (wpS_reverse ?_)
      have kp3 := kq.trans (Kp.rev (st := setArr st2 (mirror (arrOf st2) (lo + m - (q + 1)) (lo + m) ((lo + m - (lo + m - (q + 1))) / 2))) (lo := lo) (i := lo) (j := lo + m) (Nat.le_refl _) (by have z := kq.size; omega))
      have ri := Fall.rev (n := m) fall2 (by have z := kp2.size; first | omega | (rw [mirror_size]; omega))
      refine wpS_bind (tm_asc (lo := lo) (fun x n => bind_congr fun r => by cases r <;> rfl) (kp3.kind.trans hk) (hA.perm kp3.perm) (by omega) (by omega) (by rw [kp3.size]; exact hz) ri fun m' p1 p2 ri' _ => ?_)
      exact wpS_pure (h m' _ kp3 (by omega) p2 ri')
    · refine wpS_bind (wpS_reverse ?_)
      have kp3 := kp2.trans (Kp.rev (st := st2) (lo := lo) (i := lo) (j := lo + m) (Nat.le_refl _) (by have z := kp2.size; omega))
      have ri := Fall.rev (n := m) fall (by have z := kp2.size; first | omega | (rw [mirror_size]; omega))
      refine wpS_bind (tm_asc (lo := lo) (fun x n => bind_congr fun r => by cases r <;> rfl) (kp3.kind.trans hk) (hA.perm kp3.perm) (by omega) (by omega) (by rw [kp3.size]; exact hz) ri fun m' p1 p2 ri' _ => ?_)
      exact wpS_pure (h m' _ kp3 (by omega) p2 ri')
  · rw [if_neg g]
    have kp1 := Kp.refl lo st
    have fl : Fall (arrOf st) lo (lo + (n + 1)) := fun i j q1 q2 q3 => by
      rcases Nat.lt_or_ge i j with d | d
      · rw [show i = lo by omega, show j = lo + n by omega]
        rw [show lo + n - 1 = lo by omega] at lt
        exact Int.le_of_lt lt
      · rw [show i = j by omega]; exact Int.le_refl _
    refine wpS_bind (wpS_lift (wpAny_rule ⟨rfl, ?_⟩))
    refine wpS_bind (tm_desc (lo := lo) (fun x n q => bind_congr fun r => by
      cases r with
      | none => rfl
      | some b =>
        cases b with
        | true => rfl
        | false => exact bind_congr fun r2 => by cases r2 <;> rfl) (kp1.kind.trans hk) (hA.perm kp1.perm) (by omega) (by omega) (by rw [kp1.size]; exact hz) fl fun m q st2 kp2 m1 m2 fall hq eq => ?_)
    dsimp only
    have kp2 := kp1.trans kp2
    refine wps_ite (fun _ => ?_) (fun _ => ?_)
    · refine wpS_bind (wpS_reverse ?_)
      have kq := kp2.trans (Kp.rev (st := st2) (lo := lo) (i := lo + m - (q + 1)) (j := lo + m) (by omega) (by have z := kp2.size; omega))
      have fall2 : Fall (mirror (arrOf st2) (lo + m - (q + 1)) (lo + m) ((lo + m - (lo + m - (q + 1))) / 2)) lo (lo + m) := fun i j q1 q2 q3 => by
        rw [num_mirror (by have z := kp2.size; omega) eq, num_mirror (by have z := kp2.size; omega) eq]
        exact fall i j q1 q2 q3
      refine wpS_bind (wpS_reverse ?_)
      have kp3 := kq.trans (Kp.rev (st := setArr st2 (mirror (arrOf st2) (lo + m - (q + 1)) (lo + m) ((lo + m - (lo + m - (q + 1))) / 2))) (lo := lo) (i := lo) (j := lo + m) (Nat.le_refl _) (by have z := kq.size; omega))
      have ri := Fall.rev (n := m) fall2 (by have z := kp2.size; first | omega | (rw [mirror_size]; omega))
      refine wpS_bind (tm_asc (lo := lo) (fun x n => bind_congr fun r => by cases r <;> rfl) (kp3.kind.trans hk) (hA.perm kp3.perm) (by omega) (by omega) (by rw [kp3.size]; exact hz) ri fun m' p1 p2 ri' _ => ?_)
      exact wpS_pure (h m' _ kp3 (by omega) p2 ri')
    · refine wpS_bind (wpS_reverse ?_)
      have kp3 := kp2.trans (Kp.rev (st := st2) (lo := lo) (i := lo) (j := lo + m) (Nat.le_refl _) (by have z := kp2.size; omega))
      have ri := Fall.rev (n := m) fall (by have z := kp2.size; first | omega | (rw [mirror_size]; omega))
      refine wpS_bind (tm_asc (lo := lo) (fun x n => bind_congr fun r => by cases r <;> rfl) (kp3.kind.trans hk) (hA.perm kp3.perm) (by omega) (by omega) (by rw [kp3.size]; exact hz) ri fun m' p1 p2 ri' _ => ?_)
      exact wpS_pure (h m' _ kp3 (by omega) p2 ri')
theorem tm_binarySort {lo n ok : Nat} {Q : Bool → SortSt → Prop} (hk : kindOf st = Ask.kd) (hA : AllI (arrOf st)) (hn : ok ≤ n) (hz : lo + n ≤ (arrOf st).size) (r : Rise (arrOf st) lo (lo + ok))
    (h : ∀ st', Kp lo st st' → Rise (arrOf st') lo (lo + n) → Q true st') : wpS (model prog w) A E s (binarySort' lo n ok) Q st := by
  refine wpS_bind (wpS_mono (wpS_forRange (I := fun k c st' => c = (none, ()) ∧ Kp lo st st' ∧ Rise (arrOf st') lo (lo + min k n)) (Q := fun c st' => c = (none, ()) ∧ Kp lo st st' ∧ Rise (arrOf st') lo (lo + n)) ?step ?fin ⟨rfl, Kp.refl _ _, ?init⟩) ?post)
  case init =>
    intro i j q1 q2 q3
    rcases Nat.lt_or_ge i j with d | d
    · exact r i j q1 q2 (by omega)
    · rw [show i = j by omega]; exact Int.le_refl _
  case post =>
    rintro c st' ⟨rfl, kp, r'⟩
    exact wpS_pure (h st' kp r')
  case fin =>
    rintro c st' ⟨hc, kp, r'⟩
    rw [show min (max (max ok 1) n) n = n by omega] at r'
    exact ⟨hc, kp, r'⟩
  case step =>
    rintro k c st' k1 k2 ⟨rfl, kp, r'⟩
    rw [show min k n = k by omega] at r'
    have hA' := hA.perm kp.perm
    have hk' := kp.kind.trans hk
    have zs := kp.size
    refine wpS_bind (wpS_mono (wpS_forRange (I := fun x c st2 => st2 = st' ∧ ∃ l u, c = (none, l, u) ∧ l ≤ u ∧ u ≤ k ∧ u - l ≤ k - x ∧ (∀ i, lo ≤ i → i < lo + l → num (nth (arrOf st') i) ≤ num (nth (arrOf st') (lo + k))) ∧ ∀ i, lo + u ≤ i → i < lo + k → num (nth (arrOf st') (lo + k)) < num (nth (arrOf st') i))
      (Q := fun c st2 => st2 = st' ∧ ∃ l, c = (none, l, l) ∧ l ≤ k ∧ (∀ i, lo ≤ i → i < lo + l → num (nth (arrOf st') i) ≤ num (nth (arrOf st') (lo + k))) ∧ ∀ i, lo + l ≤ i → i < lo + k → num (nth (arrOf st') (lo + k)) < num (nth (arrOf st') i)) ?bstep ?bfin ⟨rfl, 0, k, rfl, Nat.zero_le _, Nat.le_refl _, by omega, fun i q1 q2 => by omega, fun i q1 q2 => by omega⟩) ?bpost)
    case bfin =>
      rintro c st2 ⟨rfl, l, u, rfl, b1, b2, b3, b4, b5⟩
      obtain rfl : l = u := by omega
      exact ⟨rfl, l, rfl, b2, b4, b5⟩
    case bstep =>
      rintro x c st2 _ hx ⟨rfl, l, u, rfl, b1, b2, b3, b4, b5⟩
      dsimp only
      by_cases ge : l ≥ u
      · rw [if_pos ge]
        obtain rfl : l = u := by omega
        exact wpS_pure ⟨rfl, l, rfl, b2, b4, b5⟩
      rw [if_neg ge]
      refine wpS_bind (tm_ltAt hk' hA' (by omega) (by omega) ?_)
      by_cases lt : num (nth (arrOf st2) (lo + k)) < num (nth (arrOf st2) (lo + (l + u) / 2))
      · rw [decide_eq_true lt]
        exact wpS_pure ⟨rfl, l, (l + u) / 2, rfl, by omega, by omega, by omega, b4, fun i q1 q2 => Int.lt_of_lt_of_le lt (r' _ i (by omega) q1 q2)⟩
      · rw [decide_eq_false lt]
        exact wpS_pure ⟨rfl, (l + u) / 2 + 1, u, rfl, by omega, by omega, by omega, fun i q1 q2 => Int.le_trans (r' i (lo + (l + u) / 2) q1 (by omega) (by omega)) (Int.not_lt.mp lt), b5⟩
    case bpost =>
      rintro c st2 ⟨rfl, l, rfl, b2, b4, b5⟩
      have hs : lo + k < (arrOf st2).size := by omega
      have nb := nth_bubble (xs := arrOf st2) (src := lo + k) (d := lo + k - (lo + l)) hs (by omega)
      rw [show lo + k - (lo + k - (lo + l)) = lo + l by omega] at nb
      refine wpS_bind (wpS_modify (wpS_pure ⟨rfl, kp.trans ⟨bubble_perm _ _ _, rfl, rfl, rfl, fun i hi => ?_⟩, ?_⟩))
      · show nth (bubble (arrOf st2) (lo + k) (lo + k - (lo + l))) i = _
        rw [nb, if_neg (by omega), if_neg (by omega)]
      · rw [show min (k + 1) n = k + 1 by omega]
        show Rise (bubble (arrOf st2) (lo + k) (lo + k - (lo + l))) lo (lo + (k + 1))
        intro i j q1 q2 q3
        rw [nb, nb]
        by_cases c1 : i = lo + l
        · rw [if_pos c1]
          by_cases c2 : j = lo + l
          · rw [if_pos c2]; exact Int.le_refl _
          · rw [if_neg c2, if_pos (by omega)]
            exact Int.le_of_lt (b5 _ (by omega) (by omega))
        · rw [if_neg c1]
          by_cases c3 : lo + l < i ∧ i ≤ lo + k
          · rw [if_pos c3, if_neg (by omega), if_pos (by omega)]
            exact r' _ _ (by omega) (by omega) (by omega)
          · rw [if_neg c3]
            by_cases c2 : j = lo + l
            · rw [if_pos c2]
              exact b4 i q1 (by omega)
            · rw [if_neg c2]
              by_cases c4 : lo + l < j ∧ j ≤ lo + k
              · rw [if_pos c4]
                exact r' _ _ q1 (by omega) (by omega)
              · rw [if_neg c4]
                exact r' _ _ q1 q2 (by omega)
end
end L2G
end
section
set_option Elab.async false
set_option linter.all false
set_option maxRecDepth 100000
set_option maxHeartbeats 4000000
namespace L2G
open PySem PySem.Spec PyProof.Rows
variable [Ask]
abbrev Run := Nat × Nat × Nat
def Chain (xs : Array Keyed) : Nat → List Run → Nat → Prop
  | b, [], e => b = e
  | b, x :: p, e => x.1 = b ∧ 0 < x.2.1 ∧ Rise xs b (b + x.2.1) ∧ Chain xs (b + x.2.1) p e
theorem Chain.len {xs : Array Keyed} : ∀ {p : List Run} {b e : Nat}, Chain xs b p e → b + p.length ≤ e
  | [], b, e, h => by have h : b = e := h; rw [List.length_nil]; omega
  | x :: p, b, e, ⟨_, h1, _, h2⟩ => by have q := h2.len; rw [List.length_cons]; omega
theorem Chain.app {xs : Array Keyed} : ∀ {p q : List Run} {b e : Nat}, Chain xs b (p ++ q) e ↔ ∃ m, Chain xs b p m ∧ Chain xs m q e
  | [], q, b, e => ⟨fun h => ⟨b, rfl, h⟩, fun ⟨m, h1, h2⟩ => by have h1 : b = m := h1; rw [h1]; exact h2⟩
  | x :: p, q, b, e => ⟨fun ⟨h1, h2, h3, h4⟩ => by obtain ⟨m, h5, h6⟩ := Chain.app.mp h4; exact ⟨m, ⟨h1, h2, h3, h5⟩, h6⟩, fun ⟨m, ⟨h1, h2, h3, h5⟩, h6⟩ => ⟨h1, h2, h3, Chain.app.mpr ⟨m, h5, h6⟩⟩⟩
theorem Rise.congr {xs ys : Array Keyed} {b e : Nat} (h : Rise xs b e) (k : ∀ i, b ≤ i → i < e → nth ys i = nth xs i) : Rise ys b e := fun i j q1 q2 q3 => by
  rw [k i q1 (by omega), k j (by omega) q3]
  exact h i j q1 q2 q3
theorem Chain.congr {xs ys : Array Keyed} : ∀ {p : List Run} {b e : Nat}, Chain xs b p e → (∀ i, b ≤ i → i < e → nth ys i = nth xs i) → Chain ys b p e
  | [], _, _, h, _ => h
  | x :: p, b, e, ⟨h1, h2, h3, h4⟩, k => by
    have q := h4.len
    exact ⟨h1, h2, h3.congr fun i q1 q2 => k i q1 (by omega), h4.congr fun i q1 q2 => k i (by omega) q2⟩
theorem split2 {α : Type} {p : List α} {i : Nat} (h : i + 1 < p.length) : ∃ p1 a b p2, p = p1 ++ a :: b :: p2 ∧ p1.length = i := by
  refine ⟨p.take i, p[i], p[i + 1], p.drop (i + 2), ?_, by rw [List.length_take]; omega⟩
  rw [← List.drop_eq_getElem_cons (by omega), ← List.drop_eq_getElem_cons (by omega), List.take_append_drop]
theorem pend_merge {α : Type} (p1 p2 : List α) (a b v : α) : ((p1 ++ a :: b :: p2).toArray.setIfInBounds p1.length v).eraseIdxIfInBounds (p1.length + 1) = (p1 ++ v :: p2).toArray := by
  apply Array.toList_inj.mp
  rw [Array.eraseIdxIfInBounds_eq, dif_pos (by simp)]
  simp only [List.setIfInBounds_toArray, List.eraseIdx_toArray, List.set_append_right _ _ (Nat.le_refl _), Nat.sub_self, List.set_cons_zero]
  rw [List.eraseIdx_append_of_length_le (Nat.le_succ _), Nat.succ_sub (Nat.le_refl _), Nat.sub_self]
  rfl
theorem mod_last {α : Type} {y : α} {f : α → α} : ∀ q : List α, (q ++ [y]).modify q.length f = q ++ [f y]
  | [] => rfl
  | x :: q => by
    rw [List.cons_append, List.length_cons, List.modify_succ_cons, mod_last q]
    rfl
theorem pend_last {α : Type} (q : List α) (y : α) (f : α → α) : (q ++ [y]).toArray.modify ((q ++ [y]).toArray.size - 1) f = (q ++ [f y]).toArray := by
  apply Array.toList_inj.mp
  simp [mod_last]
theorem pend_push {α : Type} (q : List α) (y v : α) (f : α → α) : ((q ++ [y]).toArray.modify ((q ++ [y]).toArray.size - 1) f).push v = (q ++ [f y] ++ [v]).toArray := by
  rw [pend_last, List.push_toArray]
structure SR (a₀ : Array Keyed) (st : SortSt) (p : List Run) (lo : Nat) : Prop where
  perm : (arrOf st).Perm a₀
  kind : kindOf st = Ask.kd
  fail : failedOf st = none
  pend : pendingOf st = p.toArray
  chain : Chain (arrOf st) 0 p lo
section
variable {prog : Program} {w : World} {A : Around} {E : Value → Shared → Prop} {s : Shared} {st : SortSt} {a₀ : Array Keyed}
variable [AskLt prog w A s]
theorem tm_merge {p1 p2 : List Run} {a b : Run} {lo : Nat} {Q : Bool → SortSt → Prop} (hI : AllI a₀) (S : SR a₀ st (p1 ++ a :: b :: p2) lo) (hz : lo ≤ a₀.size)
    (h : ∀ st', SR a₀ st' (p1 ++ (a.1, a.2.1 + b.2.1, a.2.2) :: p2) lo → (∀ j, lo ≤ j → nth (arrOf st') j = nth (arrOf st) j) → Q true st') : wpS (model prog w) A E s (mergeAt' p1.length) Q st := by
  obtain ⟨m, c1, c2⟩ := Chain.app.mp S.chain
  obtain ⟨ea, ha, ra, eb, hb, rb, c3⟩ := c2
  obtain ⟨sa, na, pw⟩ := a
  obtain ⟨sb, nb, pw2⟩ := b
  have ea' : sa = m := ea
  have eb' : sb = m + na := eb
  have ha' : 0 < na := ha
  have hb' : 0 < nb := hb
  have ra' : Rise (arrOf st) m (m + na) := ra
  have rb' : Rise (arrOf st) (m + na) (m + na + nb) := rb
  have d3 : Chain (arrOf st) (m + na + nb) p2 lo := c3
  clear ea eb ha hb ra rb c3
  subst ea' eb'
  have l3 := d3.len
  have sz := S.perm.size_eq
  refine tm_mergeAt (sa := sa) (na := na) (pw := pw) (sb := sa + na) (nb := nb) (pw2 := pw2) S.kind S.fail (hI.perm S.perm) ?_ ?_ rfl ha' hb' (by omega) ra' rb' fun st' q1 q2 q3 q4 q5 q6 => ?_
  · rw [S.pend]; simp
  · rw [S.pend]; simp
  · refine h st' ⟨q1.trans S.perm, q2.trans S.kind, q3, ?_, ?_⟩ fun j hj => q5 j (.inr (by omega))
    · rw [q4, S.pend]
      exact pend_merge _ _ _ _ _
    · refine Chain.app.mpr ⟨sa, c1.congr fun i _ q => q5 i (.inl q), rfl, ?_, ?_, ?_⟩
      · show 0 < na + nb
        omega
      · show Rise (arrOf st') sa (sa + (na + nb))
        rw [← Nat.add_assoc]
        exact q6
      · show Chain (arrOf st') (sa + (na + nb)) p2 lo
        rw [← Nat.add_assoc]
        exact d3.congr fun i q _ => q5 i (.inr q)
theorem tm_sortRuns {Q : Unit → SortSt → Prop} (hI : AllI a₀) (hp : (arrOf st).Perm a₀) (hk : kindOf st = Ask.kd) (hf : failedOf st = none) (hn : pendingOf st = #[])
    (h : ∀ st', (arrOf st').Perm a₀ → failedOf st' = none → Rise (arrOf st') 0 a₀.size → Q () st') : wpS (model prog w) A E s sortRuns' Q st := by
  have S0 : SR a₀ st [] 0 := ⟨hp, hk, hf, hn, rfl⟩
  have sz0 := hp.size_eq
  refine wpS_bind (wpS_get ?_)
  dsimp only
  rw [show (arrOf st).size = a₀.size from sz0]
  refine wpS_bind (wpS_mono (wpS_forRange (I := fun x c st' => ∃ lo p, c = (none, lo) ∧ SR a₀ st' p lo ∧ x ≤ lo ∧ lo ≤ a₀.size) (Q := fun c st' => ∃ p, c = (none, a₀.size) ∧ SR a₀ st' p a₀.size) ?step ?fin ⟨0, [], rfl, S0, Nat.le_refl _, Nat.zero_le _⟩) ?post)
  case fin =>
    rintro c st' ⟨lo, p, rfl, S, h1, h2⟩
    obtain rfl : lo = a₀.size := by omega
    exact ⟨p, rfl, S⟩
  case step =>
    rintro x c st' _ hx ⟨lo, p, rfl, S, h1, h2⟩
    dsimp only
    by_cases ge : lo ≥ a₀.size
    · rw [if_pos ge]
      obtain rfl : lo = a₀.size := by omega
      exact wpS_pure ⟨p, rfl, S⟩
    rw [if_neg ge]
    have sz := S.perm.size_eq
    refine wpS_bind (tm_countRun S.kind (hI.perm S.perm) (by omega) (by omega) fun found st1 kp1 f1 f2 r1 => ?_)
    dsimp only
    refine wps_ite (fun lt => ?_) (fun _ => ?_)
    · refine wpS_bind (wpS_lift (wpAny_rule ⟨rfl, ?_⟩))
      refine wpS_bind (tm_binarySort (kp1.kind.trans S.kind) (hI.perm (kp1.perm.trans S.perm)) (by omega) (by rw [kp1.size]; omega) r1 fun st2 kp2 r2 => ?_)
      refine wps_ite (fun z => nomatch z) (fun _ => ?_)
      have kp := kp1.trans kp2
      have hn : 1 ≤ min (a₀.size - lo) (minRun' a₀.size a₀.size 0) := by
        have lt : found < minRun' a₀.size a₀.size 0 := lt
        omega
      have hm : lo + min (a₀.size - lo) (minRun' a₀.size a₀.size 0) ≤ a₀.size := by omega
      have zs := kp.size
      have S2 : SR a₀ st2 p lo := ⟨kp.perm.trans S.perm, kp.kind.trans S.kind, kp.fail.trans S.fail, kp.pend.trans S.pend, S.chain.congr fun i _ q => kp.low i q⟩
      refine wpS_bind (wpS_get ?_)
      rcases List.eq_nil_or_concat p with ep | ⟨q, y, ep⟩
      · subst ep
        have hb : (pendingOf st2).back? = none := by rw [S2.pend]; rfl
        rw [hb]
        dsimp only
        have l0 : 0 = lo := S2.chain
        refine wpS_bind (wpS_modify (wpS_pure ⟨_, [(lo, min (a₀.size - lo) (minRun' a₀.size a₀.size 0), 0)], rfl, ⟨S2.perm, S2.kind, S2.fail, ?_, ?_⟩, by omega, by omega⟩))
        · show (pendingOf st2).push _ = _
          rw [S2.pend]
          rfl
        · exact ⟨l0.symm, by show 0 < min (a₀.size - lo) (minRun' a₀.size a₀.size 0); omega, fun i j q1 q2 (q3 : j < 0 + min (a₀.size - lo) (minRun' a₀.size a₀.size 0)) => r2 i j (by omega) q2 (show j < lo + min (a₀.size - lo) (minRun' a₀.size a₀.size 0) by omega), by show 0 + min (a₀.size - lo) (minRun' a₀.size a₀.size 0) = lo + min (a₀.size - lo) (minRun' a₀.size a₀.size 0); omega⟩
      · rw [List.concat_eq_append] at ep
        subst ep
        obtain ⟨s1, n1, w1⟩ := y
        have hb : (pendingOf st2).back? = some (s1, n1, w1) := by rw [S2.pend]; simp
        rw [hb]
        dsimp only
        refine wpS_bind (wpS_mono (wpS_forRange (I := fun _ c st3 => c = (none, ()) ∧ ∃ q y, SR a₀ st3 (q ++ [y]) lo ∧ ∀ j, lo ≤ j → nth (arrOf st3) j = nth (arrOf st2) j) (Q := fun c st3 => c = (none, ()) ∧ ∃ q y, SR a₀ st3 (q ++ [y]) lo ∧ ∀ j, lo ≤ j → nth (arrOf st3) j = nth (arrOf st2) j) ?cstep (fun _ _ hh => hh) ⟨rfl, q, _, S2, fun _ _ => rfl⟩) ?cpost)
        case cstep =>
          rintro x' c st3 _ _ ⟨rfl, q3, y3, S3, n3⟩
          refine wpS_bind (wpS_get ?_)
          rcases List.eq_nil_or_concat q3 with eq | ⟨q4, z, eq⟩
          · subst eq
            have e : (if (pendingOf st3).size > 1 then (pendingOf st3)[(pendingOf st3).size - 2]? else none) = none := by rw [S3.pend]; rfl
            rw [e]
            exact wpS_pure ⟨rfl, [], y3, S3, n3⟩
          · rw [List.concat_eq_append] at eq
            subst eq
            have ez : (pendingOf st3).size = q4.length + 2 := by rw [S3.pend]; simp
            have e : (if (pendingOf st3).size > 1 then (pendingOf st3)[(pendingOf st3).size - 2]? else none) = some z := by
              rw [if_pos (by omega), ez, Nat.add_sub_cancel, S3.pend]
              simp
            rw [e]
            obtain ⟨z1, z2, z3⟩ := z
            dsimp only
            refine wps_ite (fun _ => wpS_pure ⟨rfl, _, y3, S3, n3⟩) (fun _ => ?_)
            have e2 : (pendingOf st3).size - 2 = q4.length := by omega
            rw [e2]
            rw [List.append_assoc] at S3
            refine wpS_bind (tm_merge (a := (z1, z2, z3)) (b := y3) (p1 := q4) (p2 := []) hI S3 h2 fun st4 S4 n4 => ?_)
            exact wps_ite (fun z => nomatch z) (fun _ => wpS_pure ⟨rfl, q4, _, S4, fun j hj => (n4 j hj).trans (n3 j hj)⟩)
        case cpost =>
          rintro c st3 ⟨rfl, q3, y3, S3, n3⟩
          dsimp only
          refine wpS_bind (wpS_modify (wpS_bind (wpS_modify (wpS_pure ⟨_, q3 ++ [(y3.1, y3.2.1, power' a₀.size (2 * s1 + n1) (2 * s1 + n1 + n1 + min (a₀.size - lo) (minRun' a₀.size a₀.size 0)) a₀.size)] ++ [(lo, min (a₀.size - lo) (minRun' a₀.size a₀.size 0), 0)], rfl, ⟨S3.perm, S3.kind, S3.fail, ?ee1, ?cc1⟩, by omega, by omega⟩))))
          case ee1 => exact Eq.trans (congrArg (fun z : Array Run => (z.modify (z.size - 1) _).push _) S3.pend) (pend_push q3 y3 _ fun x => (x.1, x.2.1, power' a₀.size (2 * s1 + n1) (2 * s1 + n1 + n1 + min (a₀.size - lo) (minRun' a₀.size a₀.size 0)) a₀.size))
          case cc1 =>
            show Chain (arrOf st3) 0 _ _
            obtain ⟨m', d1, d2⟩ := Chain.app.mp S3.chain
            refine Chain.app.mpr ⟨lo, Chain.app.mpr ⟨m', d1, d2⟩, rfl, ?_, ?_, rfl⟩
            · show 0 < min (a₀.size - lo) (minRun' a₀.size a₀.size 0)
              omega
            · exact r2.congr fun i q1 _ => n3 i q1
    · have kp := kp1
      have zs := kp.size
      have S2 : SR a₀ st1 p lo := ⟨kp.perm.trans S.perm, kp.kind.trans S.kind, kp.fail.trans S.fail, kp.pend.trans S.pend, S.chain.congr fun i _ q => kp.low i q⟩
      refine wpS_bind (wpS_get ?_)
      rcases List.eq_nil_or_concat p with ep | ⟨q, y, ep⟩
      · subst ep
        have hb : (pendingOf st1).back? = none := by rw [S2.pend]; rfl
        rw [hb]
        dsimp only
        have l0 : 0 = lo := S2.chain
        refine wpS_bind (wpS_modify (wpS_pure ⟨_, [(lo, found, 0)], rfl, ⟨S2.perm, S2.kind, S2.fail, ?_, ?_⟩, by omega, by omega⟩))
        · show (pendingOf st1).push _ = _
          rw [S2.pend]
          rfl
        · exact ⟨l0.symm, by show 0 < found; omega, fun i j q1 q2 (q3 : j < 0 + found) => r1 i j (by omega) q2 (show j < lo + found by omega), by show 0 + found = lo + found; omega⟩
      · rw [List.concat_eq_append] at ep
        subst ep
        obtain ⟨s1, n1, w1⟩ := y
        have hb : (pendingOf st1).back? = some (s1, n1, w1) := by rw [S2.pend]; simp
        rw [hb]
        dsimp only
        refine wpS_bind (wpS_mono (wpS_forRange (I := fun _ c st3 => c = (none, ()) ∧ ∃ q y, SR a₀ st3 (q ++ [y]) lo ∧ ∀ j, lo ≤ j → nth (arrOf st3) j = nth (arrOf st1) j) (Q := fun c st3 => c = (none, ()) ∧ ∃ q y, SR a₀ st3 (q ++ [y]) lo ∧ ∀ j, lo ≤ j → nth (arrOf st3) j = nth (arrOf st1) j) ?cstep (fun _ _ hh => hh) ⟨rfl, q, _, S2, fun _ _ => rfl⟩) ?cpost)
        case cstep =>
          rintro x' c st3 _ _ ⟨rfl, q3, y3, S3, n3⟩
          refine wpS_bind (wpS_get ?_)
          rcases List.eq_nil_or_concat q3 with eq | ⟨q4, z, eq⟩
          · subst eq
            have e : (if (pendingOf st3).size > 1 then (pendingOf st3)[(pendingOf st3).size - 2]? else none) = none := by rw [S3.pend]; rfl
            rw [e]
            exact wpS_pure ⟨rfl, [], y3, S3, n3⟩
          · rw [List.concat_eq_append] at eq
            subst eq
            have ez : (pendingOf st3).size = q4.length + 2 := by rw [S3.pend]; simp
            have e : (if (pendingOf st3).size > 1 then (pendingOf st3)[(pendingOf st3).size - 2]? else none) = some z := by
              rw [if_pos (by omega), ez, Nat.add_sub_cancel, S3.pend]
              simp
            rw [e]
            obtain ⟨z1, z2, z3⟩ := z
            dsimp only
            refine wps_ite (fun _ => wpS_pure ⟨rfl, _, y3, S3, n3⟩) (fun _ => ?_)
            have e2 : (pendingOf st3).size - 2 = q4.length := by omega
            rw [e2]
            rw [List.append_assoc] at S3
            refine wpS_bind (tm_merge (a := (z1, z2, z3)) (b := y3) (p1 := q4) (p2 := []) hI S3 h2 fun st4 S4 n4 => ?_)
            exact wps_ite (fun z => nomatch z) (fun _ => wpS_pure ⟨rfl, q4, _, S4, fun j hj => (n4 j hj).trans (n3 j hj)⟩)
        case cpost =>
          rintro c st3 ⟨rfl, q3, y3, S3, n3⟩
          dsimp only
          refine wpS_bind (wpS_modify (wpS_bind (wpS_modify (wpS_pure ⟨_, q3 ++ [(y3.1, y3.2.1, power' a₀.size (2 * s1 + n1) (2 * s1 + n1 + n1 + found) a₀.size)] ++ [(lo, found, 0)], rfl, ⟨S3.perm, S3.kind, S3.fail, ?ee2, ?cc2⟩, by omega, by omega⟩))))
          case ee2 => exact Eq.trans (congrArg (fun z : Array Run => (z.modify (z.size - 1) _).push _) S3.pend) (pend_push q3 y3 _ fun x => (x.1, x.2.1, power' a₀.size (2 * s1 + n1) (2 * s1 + n1 + n1 + found) a₀.size))
          case cc2 =>
            show Chain (arrOf st3) 0 _ _
            obtain ⟨m', d1, d2⟩ := Chain.app.mp S3.chain
            refine Chain.app.mpr ⟨lo, Chain.app.mpr ⟨m', d1, d2⟩, rfl, ?_, ?_, rfl⟩
            · show 0 < found
              omega
            · exact r1.congr fun i q1 _ => n3 i q1
  case post =>
    rintro c st' ⟨p, rfl, S⟩
    dsimp only
    have l0 := S.chain.len
    refine wpS_bind (wpS_mono (wpS_forRange (I := fun x c st'' => c = (none, ()) ∧ ∃ p, SR a₀ st'' p a₀.size ∧ (p.length ≤ 1 ∨ p.length + x ≤ a₀.size)) (Q := fun c st'' => c = (none, ()) ∧ ∃ p, SR a₀ st'' p a₀.size ∧ p.length ≤ 1) ?mstep ?mfin ⟨rfl, p, S, .inr (by omega)⟩) ?mpost)
    case mfin =>
      rintro c st'' ⟨rfl, p, S, hl⟩
      exact ⟨rfl, p, S, by omega⟩
    case mpost =>
      rintro c st'' ⟨rfl, p, S, hl⟩
      refine wpS_pure (h st'' S.perm S.fail ?_)
      match p, hl, S.chain with
      | [], _, c =>
        have c : 0 = a₀.size := c
        intro i j q1 q2 q3
        omega
      | [x], _, ⟨_, _, r, e⟩ =>
        have e : 0 + x.2.1 = a₀.size := e
        rw [e] at r
        exact r
      | _ :: _ :: _, hl, _ => simp at hl
    case mstep =>
      rintro x c st'' _ hx ⟨rfl, p, S, hl⟩
      refine wpS_bind (wpS_get ?_)
      have zp : (pendingOf st'').size = p.length := by rw [S.pend]; rfl
      by_cases le : (pendingOf st'').size ≤ 1
      · rw [if_pos le]
        exact wpS_pure ⟨rfl, p, S, by omega⟩
      rw [if_neg le]
      have go : ∀ (i : Nat) (Q' : Bool → SortSt → Prop), i + 1 < p.length → (∀ st3 p', SR a₀ st3 p' a₀.size → p'.length + 1 = p.length → Q' true st3) → wpS (model prog w) A E s (mergeAt' i) Q' st'' := by
        intro i Q' hi hQ
        obtain ⟨p1, a, b, p2, rfl, rfl⟩ := split2 hi
        refine tm_merge hI S (Nat.le_refl _) fun st3 S3 _ => hQ st3 _ S3 ?_
        simp only [List.length_append, List.length_cons]
        omega
      refine wpS_bind (go _ _ ?_ fun st3 p' S3 e3 => wps_ite (fun z => nomatch z) (fun _ => wpS_pure ⟨rfl, p', S3, by omega⟩))
      have hh : ∀ (c : Prop) [Decidable c], (if c then (pendingOf st'').size - 2 - 1 else (pendingOf st'').size - 2) + 1 < p.length := by
        intro c _
        rw [zp] at le ⊢
        split
        · omega
        · omega
      exact hh _
end
end L2G
end
section
set_option Elab.async false
set_option linter.all false
set_option maxRecDepth 100000
set_option maxHeartbeats 4000000
namespace L2
open PySem PySem.Spec PyProof.Rows PySem.W
theorem count_lt {p q : Nat → Bool} {i : Nat} : ∀ l : List Nat, (∀ x ∈ l, p x = true → q x = true) → i ∈ l → p i = false → q i = true → l.countP p < l.countP q
  | [], _, h, _, _ => by cases h
  | x :: l, h, hi, h1, h2 => by
    have hl := fun y my => h y (List.mem_cons_of_mem x my)
    have le : l.countP p ≤ l.countP q := List.countP_mono_left hl
    rw [List.countP_cons, List.countP_cons]
    rcases List.mem_cons.mp hi with rfl | hm
    · rw [h1, h2]
      simp only [Bool.false_eq_true, if_false, if_true]
      omega
    · have lt := count_lt l hl hm h1 h2
      cases ep : p x with
      | true => rw [h x List.mem_cons_self ep]; omega
      | false =>
        cases eq : q x with
        | true => simp only [Bool.false_eq_true, if_false, if_true]; omega
        | false => omega
theorem rank_of {lt : Nat → Nat → Bool} (O : Srt.Ord lt) (n : Nat) : ∃ rk : Nat → Int, ∀ i j, i < n → j < n → lt i j = decide (rk i < rk j) := by
  refine ⟨fun i => ((List.range n).countP fun k => lt k i : Nat), fun i j hi hj => ?_⟩
  cases e : lt i j with
  | true =>
    refine (decide_eq_true (Int.ofNat_lt.mpr (count_lt (p := fun k => lt k i) (q := fun k => lt k j) (i := i) _ (fun k _ hk => ?_) (List.mem_range.mpr hi) (O.irr i) e))).symm
    have hk : lt k i = true := hk
    show lt k j = true
    cases q : lt k j with
    | true => rfl
    | false => rw [O.tr i j k (O.asym i j e) q] at hk; cases hk
  | false =>
    have le : (List.range n).countP (fun k => lt k j) ≤ (List.range n).countP (fun k => lt k i) := List.countP_mono_left fun k _ hk => by
      have hk : lt k j = true := hk
      show lt k i = true
      cases q : lt k i with
      | true => rfl
      | false => rw [O.tr j i k e q] at hk; cases hk
    refine (decide_eq_false fun z => ?_).symm
    have := Int.ofNat_lt.mp z
    omega
theorem vals_perm {us ws : List Value} (p : us.Perm ws) : ∀ {xs : List V}, Vals xs ws → ∃ ys, ys.Perm xs ∧ Vals ys us := by
  induction p with
  | nil => exact fun {xs} r => ⟨xs, .refl _, r⟩
  | cons a _ ih =>
    intro xs r
    cases r with
    | cons h t =>
      obtain ⟨ys, p1, r1⟩ := ih t
      exact ⟨_ :: ys, p1.cons _, .cons h r1⟩
  | swap a b l =>
    intro xs r
    cases r with
    | cons h t =>
      cases t with
      | cons h2 t2 => exact ⟨_ :: _ :: _, .swap _ _ _, .cons h2 (.cons h t2)⟩
  | trans _ _ ih1 ih2 =>
    intro xs r
    obtain ⟨ys, p1, r1⟩ := ih2 r
    obtain ⟨zs, p2, r2⟩ := ih1 r1
    exact ⟨zs, p2.trans p1, r2⟩
open Classical in
noncomputable abbrev askOf (ks : List Value) (n : Nat) (rk : Nat → Int) : L2G.Ask where
  num := fun x => if h : ∃ i, i < n ∧ ks.getD i Value.none = x.1 then rk h.choose else 0
  IsI := fun x => ∃ i, i < n ∧ ks.getD i Value.none = x.1
  kd := tuples' true
theorem ask_num {ks : List Value} {n : Nat} {rk : Nat → Int} {x : Keyed} (h : ∃ i, i < n ∧ ks.getD i Value.none = x.1) : ∃ i, i < n ∧ ks.getD i Value.none = x.1 ∧ (askOf ks n rk).num x = rk i := by
  refine ⟨h.choose, h.choose_spec.1, h.choose_spec.2, ?_⟩
  show (if h : ∃ i, i < n ∧ ks.getD i Value.none = x.1 then rk h.choose else 0) = _
  rw [dif_pos h]
section
variable {P : Program} {w : World} {A : Around} {E : Value → Shared → Prop} {s : Shared}
theorem ask_lt {ks : List Value} {n : Nat} {rk : Nat → Int} (h : ∀ i j (Q : Bool → Shared → Prop), i < n → j < n → Q (decide (rk i < rk j)) s → wpAny (model P w) A (keyLt' (tuples' true) (ks.getD i Value.none) (ks.getD j Value.none)) Q (fun _ _ => False) s) :
    @L2G.AskLt (askOf ks n rk) P w A s :=
  @L2G.AskLt.mk (askOf ks n rk) P w A s fun {x y Q} hx hy hq => by
    obtain ⟨i, i1, i2, i3⟩ := ask_num (rk := rk) hx
    obtain ⟨j, j1, j2, j3⟩ := ask_num (rk := rk) hy
    have hq : Q (decide ((askOf ks n rk).num x < (askOf ks n rk).num y)) s := hq
    rw [i3, j3] at hq
    have := h i j Q i1 j1 hq
    rw [i2, j2] at this
    exact this
variable {a kS : Addr} {ks vs : List Value} {e e1 : Nat}
theorem sort_tail {st : SortSt} {out : List Value} {R : PySem.Fin → Shared → Prop} (hk : s.heap.get? kS = some (seqObj "list" ks.toArray e)) (ha : s.heap.get? a = some (seqObj "list" #[] e1)) (ne : a ≠ kS) (lk : ks.length ≤ 4000) (lo : out.length ≤ 4000) (ho : (arrOf st).map (·.2) = out.toArray) (hf : failedOf st = none)
    (h : R (.done (.ret .none)) { s with heap := (s.heap.update kS (Obj.mapSeq fun _ => #[])).update a (Obj.mapSeq fun _ => out.toArray) }) : wpAny (model P w) A (ksk_tail a false e1 (.ref kS) st) R E s := by
  have ha' : (s.heap.update kS (Obj.mapSeq fun _ => (#[] : Array Value))).get? a = some (seqObj "list" #[] e1) := by rw [Heap.get?_update_other _ _ (Ne.symm ne)]; exact ha
  have z1 : ks.toArray.size ≤ sizeLine := by rw [List.size_toArray, sizeLine_eq]; omega
  have z2 : out.toArray.size ≤ sizeLine + 1 := by rw [List.size_toArray, sizeLine_eq]; omega
  unfold ksk_tail
  dsimp only
  rw [ho]
  refine wpAny_bind (listUpdate_at hk rfl (wpAny_bind (wpAny_letGo (wpAny_bind (seqEpoch_at ha' rfl (wpAny_bind (listUpdate_at ha' rfl ?_ (Nat.zero_le _) z2)))))) z1 (Nat.zero_le _))
  rw [hf]
  simp only [bne_self_eq_false, Bool.false_eq_true, if_false]
  exact wpAny_pure h
theorem zip_snd : ∀ {ks vs : List Value}, ks.length = vs.length → (ks.toArray.zip vs.toArray).map (·.2) = vs.toArray := fun {ks vs} hl => by
  apply Array.toList_inj.mp
  rw [Array.toList_map, Array.toList_zip]
  show (ks.zip vs).map Prod.snd = vs
  exact List.map_snd_zip (by omega)
theorem zip_key {ks vs : List Value} {x : Keyed} (h : x ∈ (ks.toArray.zip vs.toArray).toList) : ∃ i, i < ks.length ∧ ks.getD i Value.none = x.1 := by
  rw [Array.toList_zip] at h
  have h : x ∈ ks.zip vs := h
  obtain ⟨x1, x2⟩ := x
  have m := (List.of_mem_zip h).1
  obtain ⟨i, hi, e⟩ := List.mem_iff_getElem.mp m
  exact ⟨i, hi, by rw [List.getD_eq_getElem?_getD, List.getElem?_eq_getElem hi, e]; rfl⟩
theorem sort_end {R : PySem.Fin → Shared → Prop} {rk : Nat → Int} (hl : ks.length = vs.length) (hz : vs.length ≤ 4000) (hk : s.heap.get? kS = some (seqObj "list" ks.toArray e)) (ha : s.heap.get? a = some (seqObj "list" #[] e1)) (ne : a ≠ kS)
    (kind : 2 ≤ vs.length → ∀ Q : SortKind → Shared → Prop, Q (tuples' true) s → wpAny (model P w) A (keyKind' ks.toArray) Q (fun _ _ => False) s)
    (cmp : ∀ i j (Q : Bool → Shared → Prop), i < vs.length → j < vs.length → Q (decide (rk i < rk j)) s → wpAny (model P w) A (keyLt' (tuples' true) (ks.getD i Value.none) (ks.getD j Value.none)) Q (fun _ _ => False) s)
    (h : ∀ out : List Value, out.Perm vs → R (.done (.ret .none)) { s with heap := (s.heap.update kS (Obj.mapSeq fun _ => #[])).update a (Obj.mapSeq fun _ => out.toArray) }) : wpAny (model P w) A (ksk_end a false vs.toArray e1 (.ref kS) ks.toArray) R E s := by
  unfold ksk_end
  dsimp only
  by_cases n2 : vs.toArray.size < 2
  · rw [if_pos n2, if_pos n2]
    refine wpAny_bind (wpAny_pure (wpAny_bind (wpAny_pure ?_)))
    exact sort_tail hk ha ne (by omega) hz (zip_snd hl) rfl (h vs (.refl _))
  · rw [if_neg n2, if_neg n2]
    rw [List.size_toArray] at n2
    refine wpAny_bind (wpAny_mono (kind (by omega) (fun κ s' => κ = tuples' true ∧ s' = s) ⟨rfl, rfl⟩) (fun κ s' hκ => ?_) fun _ _ z => z.elim)
    obtain ⟨rfl, rfl⟩ := hκ
    letI ak := askOf ks vs.length rk
    haveI := ask_lt cmp
    refine wpAny_bind (wpAny_mono (L2G.tm_sortRuns (a₀ := ks.toArray.zip vs.toArray) (Q := fun _ st' => (arrOf st').Perm (ks.toArray.zip vs.toArray) ∧ failedOf st' = none) (L2G.AllI.of_mem fun x hx => ?_) (Array.Perm.refl _) rfl rfl rfl fun st' q1 q2 q3 => ⟨q1, q2⟩) ?_ fun _ _ z => z)
    · obtain ⟨i, h1, h2⟩ := zip_key hx
      exact ⟨i, by omega, h2⟩
    rintro ⟨⟨⟩, st'⟩ s'' ⟨rfl, q1, q2⟩
    have pm : ((arrOf st').map (·.2)).toList.Perm vs := by
      have := (Array.perm_iff_toList_perm.mp q1).map Prod.snd
      have e := congrArg Array.toList (zip_snd (ks := ks) (vs := vs) hl)
      rw [Array.toList_map] at e ⊢
      exact this.trans (by rw [e])
    exact sort_tail (out := ((arrOf st').map (·.2)).toList) hk ha ne (by omega) (by rw [pm.length_eq]; exact hz) (Array.toArray_toList).symm q2 (h _ pm)
end
end L2
end
section
set_option Elab.async false
set_option linter.all false
set_option maxRecDepth 100000
set_option maxHeartbeats 4000000
namespace L2
open PySem PySem.Spec PyProof.Rows PySem.W
section
variable {P : Program} {w : World} {A : Around} {E : Value → Shared → Prop} {h₀ : Heap} {L : Addr} {m : Str → Option Value} {a kS : Addr} {f : Value}
theorem keys_fold {Fin : List Value → Nat → Shared → Prop} {body : Value → PUnit → Sem (ForInStep PUnit)} {n : Nat} (hn : n ≤ 4000)
    (hb : ∀ (x : Value) (ks : List Value) (e : Nat) (s : Shared) (C : Value → Nat → Shared → Prop), ks.length < 4000 → wpAny (model P w) A (call f [x]) (KatBack h₀ L m kS ks e C) (fun _ _ => False) s → wpAny (model P w) A (body x ⟨⟩) (fun r s' => r = .yield ⟨⟩ ∧ ∃ k c, s'.heap.get? kS = some (seqObj "list" (ks ++ [k]).toArray c) ∧ C k c s') E s) :
    ∀ (r ks : List Value) (e : Nat) (s : Shared), ks.length + r.length = n → s.heap.get? kS = some (seqObj "list" ks.toArray e) → KatKeys P w A h₀ L m kS f Fin r ks e s →
      wpAny (model P w) A (forIn r PUnit.unit body) (fun _ s' => ∃ ks e, s'.heap.get? kS = some (seqObj "list" ks.toArray e) ∧ ks.length = n ∧ Fin ks e s') E s := by
  intro r
  induction r with
  | nil => exact fun ks e s hl hk h => wpAny_pure ⟨ks, e, hk, hl, h⟩
  | cons x r ih =>
    intro ks e s hl hk h
    have hl : ks.length + (r.length + 1) = n := hl
    rw [List.forIn_cons]
    refine wpAny_bind (wpAny_mono (hb x ks e s _ (by omega) h) (fun q s' hq => ?_) fun _ _ z => z)
    obtain ⟨rfl, k, c, h1, h2⟩ := hq
    exact ih (ks ++ [k]) c s' (by rw [List.length_append]; show ks.length + 1 + r.length = n; omega) h1 h2
theorem sort_rest {vs : List Value} {e1 : Nat} {s : Shared} {R : PySem.Fin → Shared → Prop} (hz : vs.length ≤ 4000) (hk : s.heap.get? kS = some (seqObj "list" #[] 0))
    (h : KatKeys P w A h₀ L m kS f (fun ks e s' => ks.length = vs.length → s'.heap.get? kS = some (seqObj "list" ks.toArray e) → wpAny (model P w) A (ksk_end a false vs.toArray e1 (.ref kS) ks.toArray) R E s') vs [] 0 s) : wpAny (model P w) A (ksk_rest a f false vs.toArray e1 (.ref kS)) R E s := by
  unfold ksk_rest
  refine wpAny_bind (wpAny_rule ?_)
  rw [List.forIn_toArray]
  refine wpAny_bind (wpAny_mono (keys_fold hz (fun x ks e s' C lk hx => ?_) vs [] 0 s (Nat.zero_add _) hk h) (fun _ s' hd => ?_) fun _ _ z => z)
  · refine wpAny_bind (wpAny_attempt (wpAny_mono hx (fun k s2 hq => ?_) fun _ _ z => z.elim))
    obtain ⟨nw, g, F, N, U, c⟩ := hq
    obtain ⟨l1, l2, el, hg, x1, x2⟩ := U.split
    rw [el] at N
    obtain ⟨g1, g2, g3⟩ := N _ (List.mem_append_right l1 (List.mem_cons_self (l := l2)))
    have sb := Heap.SameBut.update s2.heap kS (Obj.mapSeq (·.push k))
    have here := get?_update_seq g1 (·.push k)
    rw [show ks.toArray.push k = (ks ++ [k]).toArray by simp] at here
    have z1 : ks.toArray.size ≤ sizeLine := by rw [List.size_toArray, sizeLine_eq]; omega
    have z2 : (ks.toArray.push k).size ≤ sizeLine + 1 := by rw [Array.size_push, List.size_toArray, sizeLine_eq]; omega
    exact wpAny_bind (listUpdate_at g1 rfl (wpAny_pure ⟨rfl, k, _, here, c _ _ (kas_fr F sb g2 g3) (by rw [hg]; exact news_set N x1 x2 sb here)⟩) z1 z2)
  · obtain ⟨ks, e, h1, h2, h3⟩ := hd
    exact wpAny_bind (listItems_at h1 rfl (h3 h2 h1))
end
end L2
end
section
set_option Elab.async false
set_option linter.all false
set_option maxRecDepth 100000
set_option maxHeartbeats 4000000
namespace L2
open PySem PySem.Spec PyProof.Rows PySem.W
def tSortG (X : Cx) (sp : Sp) (ta : TA) : TE := fun σ H Q => ta σ H fun vs H1 => ∃ (p : Addr) (xs : List V), vs = [.ref p] ∧ SqL X.K H1 p xs ∧ xs.length ≤ 4000 ∧
  tKeys sp xs [] H1 fun ks H2 => ks.length = xs.length ∧ ∃ lt : Nat → Nat → Bool, Srt.Ord lt ∧ (∀ k ∈ ks, KFirst H2 k) ∧ (∀ i j, i < xs.length → j < xs.length → KLt X H2 (ks.getD i .non) (ks.getD j .non) (lt i j)) ∧
    ∀ (ys : List V) (D : Addr), ys.Perm xs → H2 D = none → Q (.ref D) (upd H2 D (.lst ys))
section
variable {X : Cx} {k : Nat} {ps : List Str} {sp : Sp} {x : Str} {p pos kp pk : Pos} {e : Expr} {ta : TA}
theorem pe_sortG (C : Callee X.prog X.w X.K X.mg X.base x ps k sp) (hr : Room (k + 2) X.A) (hg : Gl X "sorted") (hm : X.mg "sorted" = none) (hgx : Gl X x) (ha : PA X [e] ta) (hst : isStar e = false := by rfl) (hdb : (x == ("__debug__" : Str)) = false := by decide) :
    PE X (.Call (.Name "sorted" p) [e] [⟨some "key", .Name x pk, kp⟩] pos) (tSortG X sp ta) := by
  intro pins s σ H Q I h
  obtain ⟨f, fd, F, mf, kpf, bd⟩ := C.ex
  have hs : starEach [e] X.env = [(false, eval e X.env)] := starEach_plain hst
  refine wpAny_Call_Name_kw (ld_blt I hg hm boot_sorted (callWith_kw (kws := [⟨some "key", .Name x pk, kp⟩]) (thn (ha pos pins s σ H _ I h) fun us s1 ⟨vs, H1, I1, r1, q1⟩ => kws_cons (ld_glob I1 hgx mf (kws_nil ?_) hdb)) (by rw [hs]; rfl) (by rw [hs]; rfl) rfl rfl))
  obtain ⟨l, xs, rfl, hq, hz, q2⟩ := q1
  obtain ⟨v, rfl, rv⟩ := vals1 r1
  cases rv
  obtain ⟨its, ri, pl, hzl⟩ := I1.list hq
  have li := ri.length
  have hz' : its.length ≤ 4000 := by omega
  have zl : its.length ≤ sizeLine := by rw [sizeLine_eq]; omega
  obtain ⟨m, Fm⟩ := I1.fr
  show wpAny (model X.prog X.w) X.A (call (.builtin "sorted") [.ref l] [("key", .ref f)]) _ _ s1
  refine call_function_entry_kw kind_sorted plain_sorted entry_sorted (ksk_s1 _ _) ?_
  unfold Builtin.«sorted»
  refine wpAny_bind (m := checkCount "sorted" 1 1 _) (wpAny_pure (wpAny_bind (collect_list pl.isList (wpAny_bind (wpAny_newList ?_ zl)) zl)))
  have z1 : ((s1.heap.push (seqObj "list" #[] 0)).update s1.heap.objs.size (Obj.mapSeq (· ++ its.toArray))).objs.size = s1.heap.objs.size + 1 := by rw [Heap.size_update, size_push']
  have k1 : ∀ b o, s1.heap.get? b = some o → ((s1.heap.push (seqObj "list" #[] 0)).update s1.heap.objs.size (Obj.mapSeq (· ++ its.toArray))).get? b = some o := fun b o q => by
    rw [Heap.get?_update_other _ _ (Nat.ne_of_gt (Heap.lt_size q))]
    exact Heap.get?_push_of_some _ q
  dsimp only
  generalize ((s1.heap.push (seqObj "list" #[] 0)).update s1.heap.objs.size (Obj.mapSeq (· ++ its.toArray))) = h1 at z1 k1 ⊢
  have gD : (h1.push (seqObj "list" its.toArray 0)).get? h1.objs.size = some (seqObj "list" its.toArray 0) := Heap.get?_push_size _ rfl
  refine wpAny_bind (wpAny_holding (wpAny_call_entry_kw slot_list_sort (s := { s1 with heap := h1.push (seqObj "list" its.toArray 0) }) ⟨_, gD, rfl⟩ entry_list_sort ?body (ksk_l1 _ _)))
  show wpAny (model X.prog X.w) X.A.in1.in1 (Builtin.«list.sort» ⟨[.ref h1.objs.size], [("key", .ref f)]⟩) _ _ _
  obtain ⟨e1, g3⟩ : ∃ e1, ((h1.push (seqObj "list" its.toArray 0)).update h1.objs.size (Obj.mapSeq fun _ => (#[] : Array Value))).get? h1.objs.size = some (seqObj "list" #[] e1) := ⟨_, get?_update_seq gD fun _ => #[]⟩
  have z3 : ((h1.push (seqObj "list" its.toArray 0)).update h1.objs.size (Obj.mapSeq fun _ => (#[] : Array Value))).objs.size = s1.heap.objs.size + 2 := by rw [Heap.size_update, size_push', z1]
  have k3 : ∀ b o, s1.heap.get? b = some o → ((h1.push (seqObj "list" its.toArray 0)).update h1.objs.size (Obj.mapSeq fun _ => (#[] : Array Value))).get? b = some o := fun b o q => by
    have := Heap.lt_size q
    rw [Heap.get?_update_other _ _ (Nat.ne_of_gt (show b < h1.objs.size by rw [z1]; exact Nat.lt_succ_of_lt this))]
    exact Heap.get?_push_of_some _ (k1 b o q)
  rw [ksk_t1]
  unfold ksk_tree
  refine wpAny_bind (listItems_at gD rfl (wpAny_bind (listUpdate_at gD rfl (wpAny_bind (seqEpoch_at g3 rfl (wpAny_bind (wpAny_newTuple (wpAny_bind (wpAny_newList (wpAny_holding ?_) (Nat.zero_le _))) (by rw [List.toList_toArray]; exact zl))))) (by rw [List.size_toArray]; exact zl) (Nat.zero_le _))))
  dsimp only
  generalize ((h1.push (seqObj "list" its.toArray 0)).update h1.objs.size (Obj.mapSeq fun _ => (#[] : Array Value))) = h3 at z3 k3 g3 ⊢
  have k5 : ∀ (t : Obj) (b : Addr) (o : Obj), s1.heap.get? b = some o → ((h3.push t).push (seqObj "list" #[] 0)).get? b = some o := fun t b o q => Heap.get?_push_of_some _ (Heap.get?_push_of_some _ (k3 b o q))
  have g5 : ∀ t : Obj, ((h3.push t).push (seqObj "list" #[] 0)).get? h1.objs.size = some (seqObj "list" #[] e1) := fun t => Heap.get?_push_of_some _ (Heap.get?_push_of_some _ g3)
  have zk : ∀ t : Obj, (h3.push t).objs.size = s1.heap.objs.size + 3 := fun t => by rw [size_push', z3]
  have gk : ∀ t : Obj, ((h3.push t).push (seqObj "list" #[] 0)).get? (h3.push t).objs.size = some (seqObj "list" #[] 0) := fun t => Heap.get?_push_size _ rfl
  have far : ∀ d, s1.heap.objs.size ≤ d → s1.heap.get? d = none ∧ d ≠ X.env.locals ∧ X.base.get? d = none := fun d hd => by
    have a0 : s1.heap.get? d = none := Heap.get?_none_of_le hd
    refine ⟨a0, fun z => ?_, ?_⟩
    · obtain ⟨o, _, _, eo, _⟩ := Fm.ns
      rw [z, eo] at a0; cases a0
    · cases q : X.base.get? d with
      | none => rfl
      | some u => rw [I1.bk d u q] at a0; cases a0
  obtain ⟨aD, lD, bD⟩ := far h1.objs.size (by omega)
  obtain ⟨aK, lK, bK⟩ := far (h3.push (seqObj "tuple" its.toArray 0)).objs.size (by rw [zk]; omega)
  have ne : h1.objs.size ≠ (h3.push (seqObj "tuple" its.toArray 0)).objs.size := by rw [zk]; omega
  have nk : Nw X pins _ := I1.nw aK lK bK
  have nd : Nw X pins _ := I1.nw aD lD bD
  have F5 : Fr X.base X.env.locals ((h3.push (seqObj "tuple" its.toArray 0)).push (seqObj "list" #[] 0)) m := by
    obtain ⟨o, es, ep, eo, d, r⟩ := Fm.ns
    exact ⟨⟨o, es, ep, k5 _ _ _ eo, d, r⟩, fun b o q => k5 _ b o (I1.bk b o q), Fm.above⟩
  have I2 : Inv X pins σ H1 { s1 with heap := (h3.push (seqObj "tuple" its.toArray 0)).push (seqObj "list" #[] 0) } := I1.poke Fm.ns F5 (fun b o _ _ q => k5 _ b o q) (I1.none_of aK) nk
  refine sort_rest (h₀ := X.base) (L := X.env.locals) (m := m) hz' (gk _) ?_
  refine keys_go (sp := sp) F bd hr.in1.in1 nk nd ne (fun ks kx e s2 H2 rk I2 hm2 g1 g2 f1 f2 c => ?_) its xs ri [] [] 0 _ H1 .nil I2 F5.ns (gk _) (g5 _) (I1.none_of aK) (I1.none_of aD) q2
  intro hl hk
  generalize (h3.push (seqObj "tuple" its.toArray 0)).objs.size = kS at *
  generalize h1.objs.size = D at *
  obtain ⟨lk, lt, O, fst, klt, fin⟩ := c
  obtain ⟨rkn, hrk⟩ := rank_of O its.length
  have lrk := rk.length
  refine sort_end (rk := rkn) hl hz' g1 g2 ne (fun n2 Q' hq' => ?_) (fun i j Q' hi hj hq' => ?_) fun out pm => ⟨_, rfl, wpAny_pure ⟨_, rfl, ?_⟩⟩
  · obtain ⟨fs, tt, lfs, af⟩ := tups_of I2 rk fst
    refine PySem.W.kat_kind (T := .type "int") tt (by omega) (fun v mv => ?_) rfl hq'
    obtain ⟨i, t, rfl⟩ := af v mv
    exact Looks.of_pure rfl
  · rw [← hrk i j hi hj] at hq'
    refine klt i j (by omega) (by omega) X.A.in1.in1 s2 _ _ Q' ?_ I2.hok (getD_val rk i) (getD_val rk j) hq'
    have := hr.un
    show X.A.units + 1 + 1 + 100 < cLine
    omega
  · have F2 : Fr X.base X.env.locals s2.heap m := ⟨hm2, I2.bk, Nat.le_trans I2.ok.bsz I2.ok.above⟩
    have F3 := kas_fr F2 (Heap.SameBut.update s2.heap kS (Obj.mapSeq fun _ => (#[] : Array Value))) lK bK
    have I3 := I2.poke hm2 F3 (fun b o _ n q => by rw [Heap.get?_update_other _ _ (Ne.symm n)]; exact q) f1 nk
    have gD3 : (s2.heap.update kS (Obj.mapSeq fun _ => (#[] : Array Value))).get? D = some (seqObj "list" #[] e1) := by rw [Heap.get?_update_other _ _ (Ne.symm ne)]; exact g2
    have F4 := kas_fr F3 (Heap.SameBut.update (s2.heap.update kS (Obj.mapSeq fun _ => (#[] : Array Value))) D (Obj.mapSeq fun _ => out.toArray)) lD bD
    obtain ⟨ys, py, ry⟩ := vals_perm pm ri
    refine ⟨.ref D, _, I3.pokeL (xs := ys) F3.ns F4 (fun b o _ n q => by rw [Heap.get?_update_other _ _ (Ne.symm n)]; exact q) f2 nd (get?_update_seq gD3 fun _ => out.toArray) ry ?_, rfl, fin ys D py f2⟩
    rw [py.length_eq]
    exact hzl
theorem qe_sortG (C : Callee X.prog X.w X.K X.mg X.base x ps k sp) (hr : Room (k + 2) X.A) (hg : Gl X "sorted") (hm : X.mg "sorted" = none) (hgx : Gl X x) (ha : QA X [e] ta) (hst : isStar e = false := by rfl) (hdb : (x == ("__debug__" : Str)) = false := by decide) :
    QE X (.Call (.Name "sorted" p) [e] [⟨some "key", .Name x pk, kp⟩] pos) (tSortG X sp ta) := ⟨pe_sortG C hr hg hm hgx ha.p hst hdb⟩
end
end L2
end
section
set_option Elab.async false
set_option linter.all false
set_option maxRecDepth 100000
set_option maxHeartbeats 4000000
namespace L2
open PySem PySem.Spec PyProof.Rows PySem.SeqAt
def rlt (a b : Int × Tg) : Bool := if a.1 = b.1 then tlt a.2 b.2 else decide (a.1 < b.1)
theorem rlt_asym {a b : Int × Tg} (h : rlt a b = true) : rlt b a = false := by
  unfold rlt at *
  by_cases e : a.1 = b.1
  · rw [if_pos e] at h
    rw [if_pos e.symm]
    exact tlt_asym h
  · rw [if_neg e] at h
    rw [if_neg (Ne.symm e)]
    have := of_decide_eq_true h
    exact decide_eq_false (by omega)
theorem rlt_ntr {a b c : Int × Tg} (h1 : rlt b a = false) (h2 : rlt c b = false) : rlt c a = false := by
  unfold rlt at *
  by_cases e1 : b.1 = a.1
  · rw [if_pos e1] at h1
    by_cases e2 : c.1 = b.1
    · rw [if_pos e2] at h2
      rw [if_pos (e2.trans e1)]
      exact tlt_ntr h1 h2
    · rw [if_neg e2] at h2
      rw [if_neg (by omega)]
      have := of_decide_eq_false h2
      exact decide_eq_false (by omega)
  · rw [if_neg e1] at h1
    have z1 := of_decide_eq_false h1
    by_cases e2 : c.1 = b.1
    · rw [if_neg (by omega)]
      exact decide_eq_false (by omega)
    · rw [if_neg e2] at h2
      have z2 := of_decide_eq_false h2
      rw [if_neg (by omega)]
      exact decide_eq_false (by omega)
theorem rlt_ord (f : Nat → Int × Tg) : Srt.Ord fun i j => rlt (f i) (f j) := ⟨fun _ _ h => rlt_asym h, fun _ _ _ h1 h2 => rlt_ntr h1 h2⟩
def KRow (H : Hp) (x : V) (k : Int × Tg) : Prop := ∃ (l : Addr) (r : V), x = .ref l ∧ H l = some (.tup [.int k.1, r]) ∧ KRt H r k.2 ∧ k.2.dep ≤ 20
theorem KRow.mono {H H' : Hp} (s : Tups H H') {x : V} {k : Int × Tg} (h : KRow H x k) : KRow H' x k := by
  obtain ⟨l, r, e, hl, hr, hd⟩ := h
  exact ⟨l, r, e, s _ _ hl, KRt.mono s _ hr, hd⟩
theorem KRow.first {H : Hp} {x : V} {k : Int × Tg} (h : KRow H x k) : KFirst H x := by
  obtain ⟨l, r, e, hl, _⟩ := h
  exact ⟨l, _, _, e, hl⟩
theorem klt_row {X : Cx} {H : Hp} {x y : V} {k k' : Int × Tg} (h : KRow H x k) (g : KRow H y k') : KLt X H x y (rlt k k') := fun A s u v Q hu hok ru rv hq => by
  obtain ⟨i, t⟩ := k
  obtain ⟨j, t'⟩ := k'
  obtain ⟨l, r, rfl, hl, hr, hd⟩ := h
  obtain ⟨l', r', rfl, hl', hr', hd'⟩ := g
  have hd : t.dep ≤ 20 := hd
  cases ru; cases rv
  obtain ⟨its, ri, ht⟩ := tup_at hok hl
  obtain ⟨its', ri', ht'⟩ := tup_at hok hl'
  obtain ⟨u1, u2, rfl, a1, a2⟩ := vals_two ri
  obtain ⟨v1, v2, rfl, b1, b2⟩ := vals_two ri'
  obtain ⟨o, ho, _, n, hd1⟩ := ht
  obtain ⟨o', ho', _, n', hd2⟩ := ht'
  refine PySem.W.kat_lt ho hd1 ho' hd2 ?_
  have e := eq_int (A := A) (s := s) a1 b1
  have e2 := key_eq hok t t' (A := A) hr hr' a2 b2 (by omega)
  show PySem.W.KatLex X.prog X.w A true _ Q [(u1, v1), (u2, v2)] 0 s
  unfold rlt at hq
  by_cases z : i = j
  · have hq : Q (tlt t t') s := by rw [if_pos z] at hq; exact hq
    rw [decide_eq_true z] at e
    refine PySem.W.kat_cons (e X.prog X.w _ _ (PySem.W.kat_yes ?_))
    have lx : Lex A s [u2] [v2] (tlt t t') := by
      by_cases y : t = t'
      · rw [decide_eq_true y] at e2
        rw [← y, tlt_irr]
        exact .eq e2 .nn
      · rw [decide_eq_false y] at e2
        obtain ⟨q1, vs, eq1, hq1, kv⟩ := hr.get
        obtain ⟨q2, vs', eq2, hq2, kv'⟩ := hr'.get
        subst eq1 eq2
        cases a2; cases b2
        obtain ⟨js, rj, tj⟩ := tup_at hok hq1
        obtain ⟨js', rj', tj'⟩ := tup_at hok hq2
        have un : A.in1.units = A.units + 1 := rfl
        exact .lt e2 (lt_tups tj tj' (key_lex hok t t' (A := A.in1) kv kv' rj rj' (by omega)).lex (by omega))
    exact kat_of_lex (N1 := 2) (N2 := 2) (by simp) hq 1 (Nat.le_refl _) lx rfl
  · have hq : Q (decide (i < j)) s := by rw [if_neg z] at hq; exact hq
    rw [decide_eq_false z] at e
    refine PySem.W.kat_cons (e X.prog X.w _ _ (PySem.W.kat_no ?_))
    obtain ⟨tk, rfl⟩ := a1; obtain ⟨tl, rfl⟩ := b1
    exact oneLt_int hq
section
variable {X : Cx}
def rNeTs (K : PySem.W.Frag) : R2 := fun x y H Q => ∃ (a : Addr) (xs : List V), x = .ref a ∧ y = .ref a ∧ SqT K H a xs ∧ xs.all plainV = true ∧ Q (.bl false) H
theorem op_neTs (hu : X.A.units < cLine) : OpR X (compareOp .NotEq) (rNeTs X.K) := by
  intro pins s σ H x y v u Q I rx ry h
  obtain ⟨a, xs, rfl, rfl, ha, fx, q⟩ := h
  cases rx
  cases ry
  obtain ⟨its, r1, p1, _⟩ := I.tuple ha
  refine PySem.EqBoolInt.of_rcne (SeqAt.RcNeAt.tuples p1 p1 hu (items_self r1 r1 fx)) (fin_bl I q ?_)
  simp
def rEqN (K : PySem.W.Frag) : R2 := fun x y H Q => ∃ (a b : Addr) (xs : List V), x = .ref a ∧ y = .ref b ∧ SqL K H a xs ∧ SqL K H b [] ∧ Q (.bl xs.isEmpty) H
theorem op_eqN (hu : X.A.units < cLine) : OpR X (compareOp .Eq) (rEqN X.K) := by
  intro pins s σ H x y v u Q I rx ry h
  obtain ⟨a, b, xs, rfl, rfl, ha, hb, q⟩ := h
  cases rx
  cases ry
  obtain ⟨its, r1, p1, _⟩ := I.list ha
  obtain ⟨its2, r2, p2, _⟩ := I.list hb
  have l1 := r1.length
  have l2 := r2.length
  cases xs with
  | nil =>
    have l1 : its.length = 0 := l1.symm
    have l2 : its2.length = 0 := l2.symm
    refine SeqAt.eq_listAt p1.isList p2.isList (by simp; omega) hu (items_eqAt r1 r2 rfl rfl) (fin_bl I q ?_)
    simp [l1]
  | cons z zs => exact SeqAt.eq_list_lengthsAt p1.isList p2.isList (by simp at l1 l2; simp; omega) hu (fin_bl I q rfl)
end
end L2
end
section
set_option Elab.async false
set_option linter.all false
set_option maxRecDepth 100000
set_option maxHeartbeats 8000000
namespace K51
open PySem L2 PyProof.Rows
def top (i : Nat) : Stmt := PySem.Challenge.pw_weirmark_k51_stretches.main.body.getD i (.Pass ⟨0, 0, 0, 0⟩)
structure Txt (mg : Str → Option Value) : Prop where
  len : mg "len" = none
  abs : mg "abs" = none
  range : mg "range" = none
  isinstance : mg "isinstance" = none
  int : mg "int" = none
  str : mg "str" = none
  tuple : mg "tuple" = none
  list : mg "list" = none
  max : mg "max" = none
  min : mg "min" = none
  sorted : mg "sorted" = none
def But (p : Addr) (H H' : Hp) : Prop := ∀ b o, H b = some o → b ≠ p → H' b = some o
theorem But.refl (p : Addr) (H : Hp) : But p H H := fun _ _ h _ => h
theorem But.trans {p : Addr} {H H1 H2 : Hp} (a : But p H H1) (b : But p H1 H2) : But p H H2 := fun c o h n => b c o (a c o h n) n
theorem But.upd (p : Addr) (H : Hp) (o : HO) : But p H (upd H p o) := fun c u h n => by rw [upd_ne n]; exact h
theorem But.new {p D : Addr} {H : Hp} (o : HO) (h : H D = none) : But p H (L2.upd H D o) := fun c u e n => by rw [upd_ne (ne_of_none e h)]; exact e
theorem Same.new {D : Addr} {H : Hp} (o : HO) (h : H D = none) : Same H (upd H D o) := fun c u e => by rw [upd_ne (ne_of_none e h)]; exact e
theorem Same.but {p : Addr} {H H' : Hp} (h : Same H H') : But p H H' := fun c u e _ => h c u e
def Hand (H : Hp) (p c : Addr) : Prop := ∃ (d n : Int) (cs : List Int), H p = some (.lst [.int d, .int n, .ref c]) ∧ H c = some (.lst (cs.map V.int)) ∧ cs ≠ []
theorem Hand.ne {H : Hp} {p c : Addr} (h : Hand H p c) : c ≠ p := by
  obtain ⟨d, n, cs, hp, hc, h0⟩ := h
  refine ne_of hc hp fun z => ?_
  have z : cs.map V.int = [.int d, .int n, .ref c] := by injection z
  match cs, z with
  | [_, _, _], z => simp at z
theorem Hand.set {H : Hp} {p c : Addr} (h : Hand H p c) (d n : Int) : Hand (upd H p (.lst [.int d, .int n, .ref c])) p c := by
  obtain ⟨_, _, cs, hp, hc, h0⟩ := id h
  exact ⟨d, n, cs, upd_same, by rw [upd_ne h.ne]; exact hc, h0⟩
theorem Hand.same {H H' : Hp} {p c : Addr} (h : Hand H p c) (k : Same H H') : Hand H' p c := by
  obtain ⟨d, n, cs, hp, hc, h0⟩ := h
  exact ⟨d, n, cs, k _ _ hp, k _ _ hc, h0⟩
theorem Hand.at {H : Hp} {p c : Addr} (h : Hand H p c) : ∃ o, H p = some o := by
  obtain ⟨d, n, cs, hp, _⟩ := h
  exact ⟨_, hp⟩
theorem Hand.new {H : Hp} {p c D : Addr} (h : Hand H p c) (o : HO) (e : H D = none) : Hand (upd H D o) p c := h.same (Same.new o e)
theorem Hand.free {H H' : Hp} {p c b : Addr} (h : Hand H' p c) (k : But p H H') (e : H' b = none) : H b = none := by
  obtain ⟨o', hp⟩ := h.at
  cases q : H b with
  | none => rfl
  | some o =>
    have : b ≠ p := fun z => by rw [z, hp] at e; cases e
    rw [k b o q this] at e; cases e
theorem Hand.nef {H : Hp} {p c D : Addr} (h : Hand H p c) (e : H D = none) : D ≠ p := fun z => by
  obtain ⟨o, hp⟩ := h.at
  rw [z, hp] at e; cases e
def spDraw : Sp := fun vs H Q _ => ∃ (p c : Addr) (many : Int), vs = [.ref p, .int many] ∧ Hand H p c ∧ 0 < many ∧ many < 1073741824 ∧ ∀ (r : Int) (H' : Hp), 0 ≤ r → r < many → Hand H' p c → But p H H' → Q (.int r) H'
def spOpen (K : PySem.W.Frag) : Sp := fun vs H Q _ => ∃ (a : Addr) (ns : List Int) (pl : Int), vs = [.ref a, .int pl] ∧ SqL K H a (ns.map V.int) ∧ ns.length ≤ 63 ∧ 0 ≤ pl ∧ pl ≤ 1000 ∧ ∀ (p c : Addr) (H' : Hp), H p = none → Hand H' p c → Same H H' → Q (.ref p) H'
def spFar : Sp := fun vs H Q _ => ∃ (p c : Addr) (bound : Int), vs = [.ref p, .int bound] ∧ Hand H p c ∧ 0 < bound ∧ ∀ (r : Int) (H' : Hp), 0 ≤ r → r < bound → Hand H' p c → But p H H' → Q (.int r) H'
abbrev s_draw : Stmt := top 4
theorem sc_draw : FnScope ["_law_hand", "_law_many", "_law_got", "_law_cell", "_law_number"] ["_law_hand", "_law_many"] (defScope s_draw) := ⟨rfl, rfl, rfl, by decide +kernel, rfl, by decide +kernel, by decide +kernel⟩
abbrev s_open : Stmt := top 3
theorem sc_open : FnScope ["_law_script", "_law_place", "_law_cells", "_law_at", "_law_digits"] ["_law_script", "_law_place"] (defScope s_open) := ⟨rfl, rfl, rfl, by decide +kernel, rfl, by decide +kernel, by decide +kernel⟩
theorem at_mod (cs : List Int) (h0 : cs ≠ []) (n : Int) : ∃ x : Int, atI (cs.map V.int) (n % ((cs.map V.int).length : Int)) = some (.int x) := by
  have hl := List.length_pos_iff.mpr h0
  have e : (cs.map V.int).length = cs.length := List.length_map ..
  have h1 := Int.emod_nonneg n (b := ((cs.map V.int).length : Int)) (by omega)
  have h2 := Int.emod_lt_of_pos n (b := ((cs.map V.int).length : Int)) (by omega)
  obtain ⟨j, hj⟩ := Int.eq_ofNat_of_zero_le h1
  rw [hj]
  have hlt : j < cs.length := by omega
  exact ⟨cs[j], atI_nat (by rw [List.getElem?_map, List.getElem?_eq_getElem hlt]; rfl)⟩
theorem mulR {i j : Int} (h1 : -(2 ^ 64) < j) (h2 : j < 2 ^ 64) : CMul i j := .inr ⟨h1, h2⟩
theorem mulM {i a m : Int} (h0 : 0 < m := by decide) (h1 : m ≤ 2147483647 := by decide) : CMul i (a % m) := by
  have b1 := Int.emod_nonneg a (b := m) (by omega)
  have b2 := Int.emod_lt_of_pos a h0
  exact .inr ⟨by omega, by omega⟩
theorem pos1 : (0 : Int) < 2147483647 := by decide
theorem pos2 : (0 : Int) < 998244353 := by decide
theorem pos3 : (0 : Int) < 1000000007 := by decide
theorem mulL {i j : Int} (h1 : -(2 ^ 64) < i) (h2 : i < 2 ^ 64) : CMul i j := .inl ⟨h1, h2⟩
section
variable {P : Program} {w : World} {K : PySem.W.Frag} {mg : Str → Option Value} {base : Heap}
theorem ok_draw {f : Addr} {fd : FuncData} (L : Lk K mg "_law_draw" s_draw ["_law_hand", "_law_many"] f fd) (T : Txt mg) : Callee P w K mg base "_law_draw" ["_law_hand", "_law_many"] 1 spDraw := by
  refine L.callee (L.F.ok sc_draw (fun vs H Q E h => ?_) (fun cdv A outer s H vs Q E hr h => ?_))
  · obtain ⟨p, c, many, rfl, _⟩ := h
    rfl
  · obtain ⟨p, c, many, rfl, hh, m0, m1, k⟩ := h
    obtain ⟨d, n, cs, hp, hc, h0⟩ := id hh
    refine ⟨_, (QB.p (qb_cn (qs_if (qt_cmpR op_gt (qe_ix ix_list (qv 0) qe_int (fun _ _ => rfl)) qe_int (nomark _)) (qb_cn (qs_set (i := 2) sc_draw.nd rfl (Or.inl rfl) (qe_op op_mod (qe_ix ix_list (qv 0) qe_int (fun _ _ => rfl)) (qv 1)))
      (qb_cn (qs_asg (qe_op op_fdiv (qe_ix ix_list (qv 0) qe_int (fun _ _ => rfl)) (qv 1)) (qg_sub (qv 0) qe_int set_list))
      (qb_one (qs_ret (qv 2))))) qb_nil)
      (qb_cn (qs_augS (qv 0) qe_int get_list qe_int ip_add set_list)
      (qb_cn (qs_set (i := 3) sc_draw.nd rfl (Or.inl rfl) (qe_op op_mod (qe_ix ix_list (qe_ix ix_list (qv 0) qe_int (fun _ _ => rfl)) (qe_op op_mod (qe_ix ix_list (qv 0) qe_int (fun _ _ => rfl)) (qe_callB call_len_seq (by rfl) T.len PySem.boot_len (qa_cn (qe_ix ix_list (qv 0) qe_int (fun _ _ => rfl)) qa_nil))) (fun _ _ => rfl)) qe_int))
      (qb_cn (qs_set (i := 4) sc_draw.nd rfl (Or.inl rfl) (qe_op op_mod (qe_op op_add (qe_op op_add (qe_op op_mul (qv 3) qe_int) (qe_op op_mul (qe_ix ix_list (qv 0) qe_int (fun _ _ => rfl)) qe_int)) qe_int) qe_int))
      (qb_cn (qs_set (i := 4) sc_draw.nd rfl (Or.inl rfl) (qe_op op_mod (qe_op op_add (qe_op op_mul (qv 4) (qv 4)) (qe_ix ix_list (qv 0) qe_int (fun _ _ => rfl))) qe_int))
      (qb_cn (qs_set (i := 4) sc_draw.nd rfl (Or.inl rfl) (qe_op op_mod (qe_op op_add (qe_op op_mul (qv 4) qe_int) qe_int) qe_int))
      (qb_one (qs_ret (qe_op op_mod (qe_op op_fdiv (qe_op op_mod (qe_op op_mul (qv 4) (qv 4)) qe_int) qe_int) (qv 1))))))))))), ?_⟩
    refine ⟨_, rfl, p, _, _, _, rfl, rfl, SqL.of hp, rfl, _, _, rfl, rfl, _, rfl, ?_⟩
    refine ite2 (fun _ => ?_) (fun _ => ?_)
    · refine ⟨_, rfl, p, _, _, _, rfl, rfl, SqL.of hp, rfl, _, rfl, _, _, rfl, rfl, m0, ?_⟩
      refine ⟨_, rfl, p, _, _, _, rfl, rfl, SqL.of hp, rfl, _, rfl, _, _, rfl, rfl, ⟨m0, m1⟩, _, rfl, p, _, _, _, rfl, rfl, hp, rfl, _, rfl, ?_⟩
      exact k _ _ (Int.emod_nonneg _ (by omega)) (Int.emod_lt_of_pos _ m0) (hh.set _ n) (But.upd p H _)
    · refine ⟨_, rfl, p, _, 1, _, rfl, rfl, SqL.of hp, rfl, _, _, rfl, rfl, p, _, _, _, rfl, rfl, hp, rfl, ?_⟩
      have h1 : Hand (upd H p (.lst [.int d, .int (n + 1), .ref c])) p c := hh.set d (n + 1)
      have hp1 : (upd H p (.lst [.int d, .int (n + 1), .ref c])) p = some (.lst [.int d, .int (n + 1), .ref c]) := upd_same
      have hc1 : (upd H p (.lst [.int d, .int (n + 1), .ref c])) c = some (.lst (cs.map V.int)) := by rw [upd_ne hh.ne]; exact hc
      have hb : But p H (upd H p (.lst [.int d, .int (n + 1), .ref c])) := But.upd p H _
      obtain ⟨x, hx⟩ := at_mod cs h0 (n + 1)
      refine ⟨_, rfl, p, _, _, _, rfl, rfl, SqL.of hp1, rfl, _, rfl, p, _, _, _, rfl, rfl, SqL.of hp1, rfl, _, rfl, p, _, _, _, rfl, rfl, SqL.of hp1, rfl, c, _, rfl, .inl (SqL.of hc1), _, _, rfl, rfl, ?_, c, _, _, _, rfl, rfl, SqL.of hc1, hx, _, _, rfl, rfl, pos1, ?_⟩
      · show (0 : Int) < ((cs.map V.int).length : Int)
        rw [List.length_map]
        have := List.length_pos_iff.mpr h0
        omega
      refine ⟨_, rfl, _, _, rfl, rfl, mulR (by decide) (by decide), _, rfl, p, _, _, _, rfl, rfl, SqL.of hp1, rfl, _, _, rfl, rfl, mulR (by decide) (by decide), _, _, rfl, rfl, _, _, rfl, rfl, _, _, rfl, rfl, pos2, ?_⟩
      refine ⟨_, rfl, _, rfl, _, _, rfl, rfl, mulM, _, rfl, p, _, _, _, rfl, rfl, SqL.of hp1, rfl, _, _, rfl, rfl, _, _, rfl, rfl, pos2, ?_⟩
      refine ⟨_, rfl, _, _, rfl, rfl, mulR (by decide) (by decide), _, _, rfl, rfl, _, _, rfl, rfl, pos1, ?_⟩
      refine ⟨_, rfl, _, rfl, _, _, rfl, rfl, mulM, _, _, rfl, rfl, pos3, _, _, rfl, rfl, ⟨by decide, by decide⟩, _, rfl, _, _, rfl, rfl, m0, ?_⟩
      exact k _ _ (Int.emod_nonneg _ (by omega)) (Int.emod_lt_of_pos _ m0) h1 hb
end
theorem flat_ints (ns : List Int) : (ns.map V.int).all flatV = true := by
  rw [List.all_map]
  exact List.all_eq_true.mpr fun _ _ => rfl
theorem cut_ints (ns : List Int) (lo hi : Option Int) : ∃ ms : List Int, cutV (ns.map V.int) lo hi = ms.map V.int ∧ ms.length ≤ ns.length := by
  refine ⟨(ns.drop (HT.sIx (ns.map V.int).length 0 lo)).take (HT.sIx (ns.map V.int).length (ns.map V.int).length hi - HT.sIx (ns.map V.int).length 0 lo), ?_, ?_⟩
  · unfold cutV
    rw [List.map_take, List.map_drop]
  · rw [List.length_take, List.length_drop]
    omega
theorem cut_from (xs : List V) (j : Nat) (h : j ≤ xs.length) : cutV xs (some (j : Int)) none = xs.drop j := by
  unfold cutV
  rw [HT.sIx_nat, HT.sIx_none, Nat.min_eq_left h]
  exact List.take_of_length_le (by rw [List.length_drop]; omega)
theorem cut_to (xs : List V) (j : Nat) (h : j ≤ xs.length) : cutV xs none (some (j : Int)) = xs.take j := by
  unfold cutV
  rw [HT.sIx_nat, HT.sIx_none, Nat.min_eq_left h, List.drop_zero, Nat.sub_zero]
theorem int_at {ns : List Int} {i : Nat} {x : V} (h : (ns.map V.int)[i]? = some x) : ∃ v, x = .int v ∧ ns[i]? = some v := by
  rw [List.getElem?_map] at h
  cases e : ns[i]? with
  | none => rw [e] at h; cases h
  | some v => rw [e] at h; exact ⟨v, (Option.some.inj h).symm, rfl⟩
theorem at_ints {ms : List Int} {i : Int} (h0 : 0 ≤ i) (h1 : i < ms.length) : ∃ v : Int, atI (ms.map V.int) i = some (.int v) := by
  obtain ⟨j, rfl⟩ := Int.eq_ofNat_of_zero_le h0
  have hlt : j < ms.length := by omega
  exact ⟨ms[j], atI_nat (by rw [List.getElem?_map, List.getElem?_eq_getElem hlt]; rfl)⟩
theorem le63 {n : Nat} (h : n ≤ 63) : n ≤ sizeLine := Nat.le_trans h (by decide)
section
variable {P : Program} {w : World} {K : PySem.W.Frag} {mg : Str → Option Value} {base : Heap}
theorem ok_open {f : Addr} {fd : FuncData} (L : Lk K mg "_law_open" s_open ["_law_script", "_law_place"] f fd) (T : Txt mg) : Callee P w K mg base "_law_open" ["_law_script", "_law_place"] 1 (spOpen K) := by
  refine L.callee (L.F.ok sc_open (fun vs H Q E h => ?_) (fun cdv A outer s H vs Q E hr h => ?_))
  · obtain ⟨a, ns, pl, rfl, _⟩ := h
    rfl
  · obtain ⟨a, ns, pl, rfl, hS, hn, p0, p1, k⟩ := h
    have R : ∃ u, PSs ((cxOf CX0 P w K mg base ["_law_script", "_law_place", "_law_cells", "_law_at", "_law_digits"] "_law_open" (defScope s_open) f cdv A outer s H E).nox) ((defBody s_open).drop 2) u ∧ ∀ (e : Addr) (H2 : Hp) (ms : List Int), H2 e = some (.lst (ms.map V.int)) → ms ≠ [] → ms.length ≤ 63 → Same H H2 →
        u { nx := fun _ H' => Q .non H', rt := Q } [some (.ref a), some (.int pl), some (.ref e), none, none] H2 := by
      refine ⟨_, (QB.p (qb_cn (qs_set (i := 3) sc_open.nd rfl (Or.inl rfl) (qe_op op_mod (qv 1) (qe_callB call_len_seq (by rfl) T.len PySem.boot_len (qa_cn (qv 2) qa_nil))))
      (qb_cn (qs_set (i := 4) sc_open.nd rfl (Or.inl rfl) qe_int)
      (qb_cn (qs_if (qw_pt (qw_and (qt_cmpR op_ge (qe_ix ix_list (qv 2) (qv 3) (fun _ _ => rfl)) (qe_op op_pow qe_int qe_int) (nomark _)) (qw_and1 (qt_cmpR op_lt (qv 1) (qe_callB call_len_seq (by rfl) T.len PySem.boot_len (qa_cn (qv 2) qa_nil)) (nomark _))))) (qb_one (qs_set (i := 4) sc_open.nd rfl (Or.inl rfl) (qe_ix ix_list (qv 2) (qv 3) (fun _ _ => rfl)))) qb_nil)
      (qb_one (qs_ret (qe_lst (qa_cn (qv 4) (qa_cn (qe_op op_add qe_int (qe_op op_mul qe_int (qv 1))) (qa_cn (qe_op op_cat (qe_slice sl_list (qv 2) (qo_some (qv 3)) qo_none) (qe_slice sl_list (qv 2) qo_none (qo_some (qv 3)))) qa_nil)))))))))), fun e H2 ms he m0 m1 s2 => ?_⟩
      have hl := List.length_pos_iff.mpr m0
      have el : (ms.map V.int).length = ms.length := List.length_map ..
      have b1 := Int.emod_nonneg pl (b := ((ms.map V.int).length : Int)) (by omega)
      have b2 := Int.emod_lt_of_pos pl (b := ((ms.map V.int).length : Int)) (by omega)
      refine ⟨_, rfl, _, rfl, e, _, rfl, .inl (SqL.of he), _, _, rfl, rfl, ?_, ?_⟩
      · show (0 : Int) < ((ms.map V.int).length : Int)
        omega
      obtain ⟨v, hv⟩ := at_ints (ms := ms) b1 (by omega)
      have fin : ∀ (dg at' : Int), 0 ≤ at' → at' < (ms.length : Int) → tRet (tLst (tCons (tVar 4) (tCons (tOp (rI0 fun i j => .int (i + j)) (tC (.int 1)) (tOp (rI CMul fun i j => .int (i * j)) (tC (.int 101)) (tVar 1))) (tCons (tOp rCat (tSl (rSlL K) (tVar 2) (tPart (tVar 3)) tNoPart) (tSl (rSlL K) (tVar 2) tNoPart (tPart (tVar 3)))) tNil)))) { nx := fun _ H' => Q .non H', rt := Q } [some (.ref a), some (.int pl), some (.ref e), some (.int at'), some (.int dg)] H2 := by
        intro dg at' a0 a1
        obtain ⟨ja, rfl⟩ := Int.eq_ofNat_of_zero_le a0
        have jl : ja < ms.length := by omega
        have e2 := cut_from (ms.map V.int) ja (by rw [List.length_map]; omega)
        have e3 := cut_to (ms.map V.int) ja (by rw [List.length_map]; omega)
        rw [← List.map_drop] at e2
        rw [← List.map_take] at e3
        have l2 : (ms.drop ja).length ≤ ms.length := by rw [List.length_drop]; omega
        have l3 : (ms.take ja).length ≤ ms.length := by rw [List.length_take]; omega
        refine ⟨_, rfl, _, rfl, _, _, rfl, rfl, mulL (by decide) (by decide), _, _, rfl, rfl, _, rfl, _, rfl, _, rfl, e, _, rfl, SqL.of he, fun q hq => ?_⟩
        have he' : (upd H2 q (.lst (cutV (ms.map V.int) (some (ja : Int)) none))) e = some (.lst (ms.map V.int)) := by rw [upd_ne (ne_of_none he hq)]; exact he
        refine ⟨_, rfl, _, rfl, _, rfl, e, _, rfl, SqL.of he', fun q2 hq2 => ?_⟩
        have nq : q ≠ q2 := fun z => by rw [← z, upd_same] at hq2; cases hq2
        have hq' : H2 q2 = none := by rw [upd_ne (Ne.symm nq)] at hq2; exact hq2
        refine ⟨q, q2, _, _, rfl, rfl, by rw [upd_ne nq, upd_same], upd_same, ?_, fun q3 hq3 => ?_⟩
        · rw [e2, e3, List.length_map, List.length_map]
          exact Nat.le_trans (Nat.add_le_add l2 l3) (by have : ms.length + ms.length ≤ 126 := by omega
                                                        exact Nat.le_trans this (by decide))
        refine ⟨by show 3 ≤ sizeLine; decide, fun p hp => ?_⟩
        have s3 : Same H2 (upd (upd (upd H2 q (.lst (cutV (ms.map V.int) (some (ja : Int)) none))) q2 (.lst (cutV (ms.map V.int) none (some (ja : Int))))) q3 (.lst (cutV (ms.map V.int) (some (ja : Int)) none ++ cutV (ms.map V.int) none (some (ja : Int))))) :=
          ((Same.new _ hq).trans (Same.new _ hq2)).trans (Same.new _ hq3)
        have s4 := s3.trans (Same.new (.lst [.int dg, .int (1 + 101 * pl), .ref q3]) hp)
        refine k p q3 _ ((s2.trans s3).free hp) ⟨dg, 1 + 101 * pl, ms.drop ja ++ ms.take ja, upd_same, ?_, ?_⟩ (s2.trans s4)
        · rw [upd_ne (fun z => by rw [← z, upd_same] at hp; cases hp), upd_same, e2, e3, List.map_append]
        · intro z
          have := congrArg List.length z
          rw [List.length_append, List.length_drop, List.length_take, List.length_nil] at this
          omega
      refine ⟨_, rfl, _, rfl, e, _, _, _, rfl, rfl, SqL.of he, hv, _, _, rfl, rfl, ⟨by decide, by decide, by decide⟩, _, _, rfl, rfl, _, rfl, ?_⟩
      refine ite2 (fun _ => ?_) (fun _ => ?_)
      · refine ⟨_, rfl, _, rfl, e, _, rfl, .inl (SqL.of he), _, _, rfl, rfl, _, rfl, ?_⟩
        refine ite2 (fun _ => ?_) (fun _ => ?_)
        · exact ⟨_, rfl, _, rfl, e, _, _, _, rfl, rfl, SqL.of he, hv, fin _ _ b1 (by omega)⟩
        · exact fin _ _ b1 (by omega)
      · refine iteF ?_
        exact fin _ _ b1 (by omega)
    obtain ⟨u, hu, ku⟩ := R
    refine ⟨_, (QB.p (qb_cn (qs_comp (i := 2) ["_law_cell"] [] [] ["_law_script", "_law_place", "_law_cells", "_law_at", "_law_digits"] (defScope s_open).names rfl sc_open.nd rfl (Or.inl rfl) (qi_list (qe_slice sl_list (qv 0) qo_none (qo_some qe_int))) (fun _ _ _ _ _ => (qg_name (i := 0) (show (["_law_cell"] : List Str).Nodup by decide +kernel) rfl (Or.inl rfl))) (fun _ _ _ _ _ => qts_nil) (fun _ _ _ _ _ => (qe_callB call_abs (by rfl) T.abs boot_abs (qa_cn (qv 0) qa_nil))))
      (qb_cn (qs_if (qt_cmpR (op_eqL (hu0 hr)) (qv 2) (qe_lst qa_nil) (nomark _)) (qb_one (qs_set (i := 2) sc_open.nd rfl (Or.inl rfl) (qe_lst (qa_cn qe_int qa_nil)))) qb_nil)
      ⟨hu⟩))), ?_⟩
    obtain ⟨cn, ec, lc⟩ := cut_ints ns none (some 63)
    refine ⟨_, rfl, _, rfl, a, _, rfl, hS, fun q hq => ⟨q, rfl, ⟨_, SqL.of upd_same⟩, fun D hD => ?_⟩⟩
    refine comp_list (K := K) (a := q) (xs := cn.map V.int) (fun i ys H' => (∃ ms : List Int, ys = ms.map V.int ∧ ms.length = i) ∧ Same (upd H q (.lst (cutV (ns.map V.int) none (some 63)))) H') ⟨⟨[], rfl, rfl⟩, Same.new _ hD⟩ (fun i ys H' _ ⟨_, s'⟩ => SqL.of (s' _ _ (by rw [upd_same, ec])))
      (fun ys H' ⟨⟨ms, e1, l1⟩, s'⟩ hD' => ?_) (fun i x ys H' hx ⟨⟨ms, e1, l1⟩, s'⟩ hD' => ?_)
    · subst e1
      have hlm : ms.length ≤ 63 := by rw [l1, List.length_map]; omega
      have s1 : Same H H' := (Same.new _ hq).trans s'
      refine ⟨_, rfl, Nat.zero_le _, fun e he => ⟨D, e, _, _, rfl, rfl, SqL.of (by rw [upd_ne (ne_of_none hD' he)]; exact hD'), SqL.of upd_same, flat_ints ms, rfl, _, rfl, ?_⟩⟩
      have s2 : Same H (upd H' e (.lst [])) := s1.trans (Same.new _ he)
      refine ite2 (fun _ => ?_) (fun hne => ?_)
      · refine ⟨by show 1 ≤ sizeLine; decide, fun d hd => ?_⟩
        exact ku d _ [0] upd_same (by simp) (by show 1 ≤ 63; decide) (s2.trans (Same.new _ hd))
      · refine ku D _ ms (by rw [upd_ne (ne_of_none hD' he)]; exact hD') (fun z => hne ?_) hlm s2
        rw [z]
        rfl
    · obtain ⟨v, rfl, _⟩ := int_at hx
      subst e1
      have hi : i < (cn.map V.int).length := (List.getElem?_eq_some_iff.mp hx).1
      rw [List.length_map] at hi
      refine ⟨rfl, _, rfl, v, rfl, hD', ?_, nx (by rw [List.length_map]; exact hi) ⟨⟨ms ++ [if v < 0 then -v else v], by rw [List.map_append]; rfl, by rw [List.length_append, l1]; rfl⟩, ?_⟩⟩
      · rw [List.length_map, l1]
        exact Nat.lt_of_lt_of_le hi (Nat.le_trans lc (Nat.le_trans hn (by decide)))
      · intro b o e
        rw [upd_ne (fun z => by rw [z, hD] at e; cases e)]
        exact s' b o e
end
end K51
end
section
set_option Elab.async false
set_option linter.all false
set_option maxRecDepth 100000
set_option maxHeartbeats 4000000
namespace K51
open PySem L2 PyProof.Rows
abbrev s_scale : Stmt := top 5
theorem sc_scale : FnScope ["_law_hand", "_law_begin"] ["_law_hand"] (defScope s_scale) := ⟨rfl, rfl, rfl, by decide +kernel, rfl, by decide +kernel, by decide +kernel⟩
abbrev s_gap : Stmt := top 6
theorem sc_gap : FnScope ["_law_hand", "_law_scale_here"] ["_law_hand", "_law_scale_here"] (defScope s_gap) := ⟨rfl, rfl, rfl, by decide +kernel, rfl, by decide +kernel, by decide +kernel⟩
abbrev s_tag : Stmt := top 7
theorem sc_tag : FnScope ["_law_shape", "_law_k"] ["_law_shape", "_law_k"] (defScope s_tag) := ⟨rfl, rfl, rfl, by decide +kernel, rfl, by decide +kernel, by decide +kernel⟩
abbrev s_rank : Stmt := top 8
theorem sc_rank : FnScope ["_law_tag_here"] ["_law_tag_here"] (defScope s_rank) := ⟨rfl, rfl, rfl, by decide +kernel, rfl, by decide +kernel, by decide +kernel⟩
abbrev s_by_turn : Stmt := top 9
theorem sc_by_turn : FnScope ["_law_pair"] ["_law_pair"] (defScope s_by_turn) := ⟨rfl, rfl, rfl, by decide +kernel, rfl, by decide +kernel, by decide +kernel⟩
abbrev s_rows : Stmt := top 10
theorem sc_rows : FnScope ["_law_hand", "_law_scale_here", "_law_gap_here", "_law_many", "_law_word", "_law_whose", "_law_moment", "_law_rows_here", "_law_k"] ["_law_hand", "_law_scale_here", "_law_gap_here"] (defScope s_rows) := ⟨rfl, rfl, rfl, by decide +kernel, rfl, by decide +kernel, by decide +kernel⟩
abbrev s_stretches : Stmt := top 1
theorem sc_stretches : FnScope ["rows", "gap", "parted", "entry"] ["rows", "gap"] (defScope s_stretches) := ⟨rfl, rfl, rfl, by decide +kernel, rfl, by decide +kernel, by decide +kernel⟩
abbrev s_parted : Stmt := top 11
theorem sc_parted : FnScope ["_law_told", "_law_rows_here", "_law_gap_here", "_law_laid", "_law_some", "_law_k", "_law_at", "_law_apart"] ["_law_told", "_law_rows_here", "_law_gap_here"] (defScope s_parted) := ⟨rfl, rfl, rfl, by decide +kernel, rfl, by decide +kernel, by decide +kernel⟩
abbrev s_law : Stmt := top 12
theorem sc_law : FnScope ["_law_script", "_law_hand", "_law_scale_here", "_law_gap_here", "_law_rows_here", "_law_handed", "_law_told", "_law_second", "_law_other", "_law_some"] ["_law_script"] (defScope s_law) := ⟨rfl, rfl, rfl, by decide +kernel, rfl, by decide +kernel, by decide +kernel⟩
def spKey (d : Nat) : Sp := fun vs H Q _ => ∃ (x : V) (t : Tg), vs = [x] ∧ TR H x t ∧ t.dep ≤ d ∧ ∀ (k : V) (H' : Hp), KRt H' k t → Same H H' → Q k H'
def Rw (H : Hp) (x : V) (k : Int × Tg) : Prop := ∃ (a b : Addr) (tv : V) (z : Str) (v : Int), x = .ref a ∧ H a = some (.tup [tv, .ref b]) ∧ H b = some (.tup [.int k.1, .str z, .int v]) ∧ TR H tv k.2 ∧ k.2.dep ≤ 2
theorem Rw.mono {H H' : Hp} (s : Tups H H') {x : V} {k : Int × Tg} (h : Rw H x k) : Rw H' x k := by
  obtain ⟨a, b, tv, z, v, e, ha, hb, ht, hd⟩ := h
  exact ⟨a, b, tv, z, v, e, s _ _ ha, s _ _ hb, TR.mono s _ ht, hd⟩
def spTurn : Sp := fun vs H Q _ => ∃ (x : V) (k : Int × Tg), vs = [x] ∧ Rw H x k ∧ ∀ (r : V) (H' : Hp), KRow H' r k → Same H H' → Q r H'
def spScale : Sp := fun vs H Q _ => ∃ (p c : Addr), vs = [.ref p] ∧ Hand H p c ∧ ∀ (q : Addr) (b sc : Int) (H' : Hp), H q = none → H' q = some (.lst [.int b, .int sc]) → 1 ≤ sc → sc ≤ 50000 → Hand H' p c → But p H H' → Q (.ref q) H'
def spGap : Sp := fun vs H Q _ => ∃ (p c q : Addr) (b sc : Int), vs = [.ref p, .ref q] ∧ Hand H p c ∧ H q = some (.lst [.int b, .int sc]) ∧ q ≠ p ∧ 1 ≤ sc ∧ sc ≤ 50000 ∧ ∀ (g : Int) (H' : Hp), 0 ≤ g → g ≤ 1000000 → Hand H' p c → But p H H' → Q (.int g) H'
def spTag : Sp := fun vs H Q _ => ∃ (sh k : Int), vs = [.int sh, .int k] ∧ ∀ (x : V) (t : Tg) (H' : Hp), TR H' x t → t.dep ≤ 2 → Same H H' → Q x H'
theorem of_three {r a b c : Int} (h0 : 0 ≤ r) (h1 : r < 3) : ∃ z, atI [V.int a, .int b, .int c] r = some (.int z) ∧ (z = a ∨ z = b ∨ z = c) := by
  have : r = 0 ∨ r = 1 ∨ r = 2 := by omega
  rcases this with rfl | rfl | rfl
  · exact ⟨a, rfl, .inl rfl⟩
  · exact ⟨b, rfl, .inr (.inl rfl)⟩
  · exact ⟨c, rfl, .inr (.inr rfl)⟩
section
variable {P : Program} {w : World} {K : PySem.W.Frag} {mg : Str → Option Value} {base : Heap} {f : Addr} {fd : FuncData}
theorem key_step {f : Addr} {fd : FuncData} (L : Lk K mg "_law_rank" s_rank ["_law_tag_here"] f fd) (T : Txt mg) (d : Nat) (spR : Sp) (hR : ∀ q, d = q + 1 → spR = spKey q) (C__law_rank : Callee P w K mg base "_law_rank" ["_law_tag_here"] (d + 1) spR) : Callee P w K mg base "_law_rank" ["_law_tag_here"] (d + 2) (spKey d) := by
  refine L.callee (L.F.ok sc_rank (fun vs H Q E h => ?_) (fun cdv A outer s H vs Q E hr h => ?_))
  · obtain ⟨x, t, rfl, _⟩ := h
    rfl
  · obtain ⟨x, t, rfl, rx, hd, k⟩ := h
    have hqq : QB ((cxOf CX0 P w K mg base ["_law_tag_here"] "_law_rank" (defScope s_rank) f cdv A outer s H E).nox) (defBody s_rank) _ := (qb_cn (qs_if (qt_val (qe_callB call_isinst (by rfl) T.isinstance boot_isinstance (qa_cn (qv 0) (qa_cn (qe_bltn (v := .ty "int") (by rfl) T.int boot_int rfl) qa_nil)))) (qb_one (qs_ret (qe_tup (qa_cn qe_int (qa_cn (qv 0) qa_nil))))) qb_nil)
      (qb_cn (qs_if (qt_val (qe_callB call_isinst (by rfl) T.isinstance boot_isinstance (qa_cn (qv 0) (qa_cn (qe_bltn (v := .ty "str") (by rfl) T.str boot_str rfl) qa_nil)))) (qb_one (qs_ret (qe_tup (qa_cn qe_int (qa_cn (qv 0) qa_nil))))) qb_nil)
      (qb_one (qs_ret (qe_tup (qa_cn qe_int (qa_cn (qe_callee C__law_rank (hr.mono (by first | decide | omega)) (by rfl) (qa_cn (qe_ix ix_tup (qv 0) qe_int (fun _ _ => rfl)) qa_nil)) (qa_cn (qe_callee C__law_rank (hr.mono (by first | decide | omega)) (by rfl) (qa_cn (qe_ix ix_tup (qv 0) qe_int (fun _ _ => rfl)) qa_nil)) qa_nil))))))))
    (with_reducible refine ⟨_, hqq.p, ?_⟩)
    cases t with
    | num i =>
      cases (show x = .int i from rx)
      refine ⟨_, rfl, _, _, _, _, rfl, .int _, rfl, _, rfl, iteT ?_⟩
      exact ⟨_, rfl, by show 2 ≤ sizeLine; decide, fun l hl => k _ _ ⟨l, rfl, upd_same⟩ (Same.new _ hl)⟩
    | nam z =>
      cases (show x = .str z from rx)
      refine ⟨_, rfl, _, _, _, _, rfl, .str _, rfl, _, rfl, iteF ?_⟩
      refine ⟨_, rfl, _, _, _, _, rfl, .str _, rfl, _, rfl, iteT ?_⟩
      exact ⟨_, rfl, by show 2 ≤ sizeLine; decide, fun l hl => k _ _ ⟨l, rfl, upd_same⟩ (Same.new _ hl)⟩
    | par a b =>
      obtain ⟨l, p, q, rfl, hl, h1, h2⟩ := rx
      have d0 : (Tg.par a b).dep = max a.dep b.dep + 1 := rfl
      obtain ⟨e, rfl⟩ : ∃ e, d = e + 1 := ⟨d - 1, by omega⟩
      have hR := hR e rfl
      subst hR
      refine ⟨_, rfl, _, _, _, _, rfl, .tup hl, rfl, _, rfl, iteF ?_⟩
      refine ⟨_, rfl, _, _, _, _, rfl, .tup hl, rfl, _, rfl, iteF ?_⟩
      refine ⟨_, rfl, l, _, 0, _, rfl, rfl, SqT.of hl, rfl, p, a, rfl, h1, by omega, fun k1 H1 r1 s1 => ?_⟩
      have hl1 := s1 _ _ hl
      refine ⟨_, rfl, l, _, 1, _, rfl, rfl, SqT.of hl1, rfl, q, b, rfl, TR.mono (Same.tups s1) b h2, by omega, fun k2 H2 r2 s2 => ?_⟩
      refine ⟨by show 3 ≤ sizeLine; decide, fun l3 hl3 => k _ _ ⟨l3, k1, k2, rfl, upd_same, ?_, ?_⟩ ((s1.trans s2).trans (Same.new _ hl3))⟩
      · exact KRt.mono (Same.tups (s2.trans (Same.new _ hl3))) a r1
      · exact KRt.mono (Same.tups (Same.new _ hl3)) b r2
theorem ok_key {f : Addr} {fd : FuncData} (L : Lk K mg "_law_rank" s_rank ["_law_tag_here"] f fd) (T : Txt mg) : ∀ d, Callee P w K mg base "_law_rank" ["_law_tag_here"] (d + 2) (spKey d)
  | 0 => key_step L T 0 (fun _ _ _ _ => False) (fun q z => by cases z) (L.callee (L.F.ok sc_rank (fun _ _ _ _ h => h.elim) (fun _ _ _ _ _ _ _ _ _ h => h.elim)))
  | d + 1 => key_step L T (d + 1) (spKey d) (fun q z => by cases z; rfl) (ok_key L T d)
theorem ok_turn (L : Lk K mg "_law_by_turn" s_by_turn ["_law_pair"] f fd) (T : Txt mg) (C__law_rank : Callee P w K mg base "_law_rank" ["_law_tag_here"] 4 (spKey 2)) : Callee P w K mg base "_law_by_turn" ["_law_pair"] 5 spTurn := by
  refine L.callee (L.F.ok sc_by_turn (fun vs H Q E h => ?_) (fun cdv A outer s H vs Q E hr h => ?_))
  · obtain ⟨x, t, rfl, _⟩ := h
    rfl
  · obtain ⟨x, ⟨m, t⟩, rfl, ⟨a, b, tv, z, v, rfl, ha, hb, ht, hd⟩, k⟩ := h
    have hqq : QB ((cxOf CX0 P w K mg base ["_law_pair"] "_law_by_turn" (defScope s_by_turn) f cdv A outer s H E).nox) (defBody s_by_turn) _ := (qb_one (qs_ret (qe_tup (qa_cn (qe_ix ix_tup (qe_ix ix_tup (qv 0) qe_int (fun _ _ => rfl)) qe_int (fun _ _ => rfl)) (qa_cn (qe_callee C__law_rank (hr.mono (by first | decide | omega)) (by rfl) (qa_cn (qe_ix ix_tup (qv 0) qe_int (fun _ _ => rfl)) qa_nil)) qa_nil)))))
    (with_reducible refine ⟨_, hqq.p, ?_⟩)
    refine ⟨_, rfl, a, _, 1, _, rfl, rfl, SqT.of ha, rfl, b, _, 0, _, rfl, rfl, SqT.of hb, rfl, _, rfl, a, _, 0, _, rfl, rfl, SqT.of ha, rfl, tv, t, rfl, ht, hd, fun r H1 kr s1 => ?_⟩
    refine ⟨by show 2 ≤ sizeLine; decide, fun l hl => k _ _ ⟨l, r, rfl, upd_same, KRt.mono (Same.tups (Same.new _ hl)) t kr, Nat.le_trans hd (by decide)⟩ (s1.trans (Same.new _ hl))⟩
theorem ok_tag (L : Lk K mg "_law_tag" s_tag ["_law_shape", "_law_k"] f fd) (T : Txt mg) : Callee P w K mg base "_law_tag" ["_law_shape", "_law_k"] 1 spTag := by
  refine L.callee (L.F.ok sc_tag (fun vs H Q E h => ?_) (fun cdv A outer s H vs Q E hr h => ?_))
  · obtain ⟨sh, k, rfl, _⟩ := h
    rfl
  · obtain ⟨sh, n, rfl, k⟩ := h
    have hqq : QB ((cxOf CX0 P w K mg base ["_law_shape", "_law_k"] "_law_tag" (defScope s_tag) f cdv A outer s H E).nox) (defBody s_tag) _ := (qb_cn (qs_if (qt_cmpR op_eq (qv 0) qe_int (nomark _)) (qb_one (qs_ret (qe_op op_sub (qv 1) qe_int))) qb_nil)
      (qb_cn (qs_if (qt_cmpR op_eq (qv 0) qe_int (nomark _)) (qb_one (qs_ret (qe_tup (qa_cn qe_str (qa_cn (qv 1) qa_nil))))) qb_nil)
      (qb_cn (qs_if (qt_cmpR op_eq (qv 0) qe_int (nomark _)) (qb_one (qs_ret (qe_tup (qa_cn (qv 1) (qa_cn qe_int qa_nil))))) qb_nil)
      (qb_cn (qs_if (qt_cmpR op_eq (qv 0) qe_int (nomark _)) (qb_one (qs_ret (qe_tup (qa_cn (qe_tup (qa_cn qe_str (qa_cn qe_int qa_nil))) (qa_cn (qe_op op_sub qe_int (qv 1)) qa_nil))))) qb_nil)
      (qb_one (qs_ret (qe_tup (qa_cn (qe_op op_sub qe_int (qv 1)) (qa_cn (qe_tup (qa_cn qe_str (qa_cn (qv 1) qa_nil))) qa_nil)))))))))
    (with_reducible refine ⟨_, hqq.p, ?_⟩)
    refine ⟨_, rfl, rfl, _, rfl, ite2 (fun _ => ?_) (fun _ => ?_)⟩
    · exact ⟨_, rfl, _, _, rfl, rfl, k _ (.num (n - 3)) _ rfl (Nat.zero_le _) (fun _ _ e => e)⟩
    refine ⟨_, rfl, rfl, _, rfl, ite2 (fun _ => ?_) (fun _ => ?_)⟩
    · exact ⟨_, rfl, by show 2 ≤ sizeLine; decide, fun l hl => k _ (.par (.nam "b") (.num n)) _ ⟨l, _, _, rfl, upd_same, rfl, rfl⟩ (show 1 ≤ 2 by decide) (Same.new _ hl)⟩
    refine ⟨_, rfl, rfl, _, rfl, ite2 (fun _ => ?_) (fun _ => ?_)⟩
    · exact ⟨_, rfl, by show 2 ≤ sizeLine; decide, fun l hl => k _ (.par (.num n) (.num 7)) _ ⟨l, _, _, rfl, upd_same, rfl, rfl⟩ (show 1 ≤ 2 by decide) (Same.new _ hl)⟩
    refine ⟨_, rfl, rfl, _, rfl, ite2 (fun _ => ?_) (fun _ => ?_)⟩
    · refine ⟨by show 2 ≤ sizeLine; decide, fun l1 hl1 => ⟨_, rfl, _, _, rfl, rfl, by show 2 ≤ sizeLine; decide, fun l hl => k _ (.par (.par (.nam "aa") (.num 1)) (.num (9 - n))) _ ⟨l, _, _, rfl, upd_same, ⟨l1, _, _, rfl, Same.new _ hl _ _ upd_same, rfl, rfl⟩, rfl⟩ (show 2 ≤ 2 by decide) ((Same.new _ hl1).trans (Same.new _ hl))⟩⟩
    · refine ⟨_, rfl, _, _, rfl, rfl, _, rfl, by show 2 ≤ sizeLine; decide, fun l1 hl1 => ⟨by show 2 ≤ sizeLine; decide, fun l hl => k _ (.par (.num (7 - n)) (.par (.nam "c") (.num n))) _ ⟨l, _, _, rfl, upd_same, rfl, ⟨l1, _, _, rfl, Same.new _ hl _ _ upd_same, rfl, rfl⟩⟩ (show 2 ≤ 2 by decide) ((Same.new _ hl1).trans (Same.new _ hl))⟩⟩
theorem ok_scale (L : Lk K mg "_law_scale" s_scale ["_law_hand"] f fd) (T : Txt mg) (C__law_draw : Callee P w K mg base "_law_draw" ["_law_hand", "_law_many"] 1 spDraw) : Callee P w K mg base "_law_scale" ["_law_hand"] 2 spScale := by
  refine L.callee (L.F.ok sc_scale (fun vs H Q E h => ?_) (fun cdv A outer s H vs Q E hr h => ?_))
  · obtain ⟨p, c, rfl, _⟩ := h
    rfl
  · obtain ⟨p, c, rfl, h0, k⟩ := h
    have hqq : QB ((cxOf CX0 P w K mg base ["_law_hand", "_law_begin"] "_law_scale" (defScope s_scale) f cdv A outer s H E).nox) (defBody s_scale) _ := (qb_cn (qs_set (i := 1) sc_scale.nd rfl (Or.inl rfl) (qe_op op_mul (qe_ix ix_list (qe_lst (qa_cn qe_int (qa_cn qe_int (qa_cn qe_int qa_nil)))) (qe_callee C__law_draw (hr.mono (by first | decide | omega)) (by rfl) (qa_cn (qv 0) (qa_cn qe_int qa_nil))) (fun _ _ => rfl)) (qe_op op_add (qe_op op_mul (qe_callee C__law_draw (hr.mono (by first | decide | omega)) (by rfl) (qa_cn (qv 0) (qa_cn qe_int qa_nil))) qe_int) (qe_callee C__law_draw (hr.mono (by first | decide | omega)) (by rfl) (qa_cn (qv 0) (qa_cn qe_int qa_nil))))))
      (qb_cn (qs_if (qt_cmpR op_eq (qe_callee C__law_draw (hr.mono (by first | decide | omega)) (by rfl) (qa_cn (qv 0) (qa_cn qe_int qa_nil))) qe_int (nomark _)) (qb_one (qs_ret (qe_lst (qa_cn (qv 1) (qa_cn (qe_op op_add qe_int (qe_callee C__law_draw (hr.mono (by first | decide | omega)) (by rfl) (qa_cn (qv 0) (qa_cn qe_int qa_nil)))) qa_nil))))) qb_nil)
      (qb_one (qs_ret (qe_lst (qa_cn (qv 1) (qa_cn qe_int qa_nil)))))))
    (with_reducible refine ⟨_, hqq.p, ?_⟩)
    refine ⟨by show 3 ≤ sizeLine; decide, fun e he => ⟨_, rfl, p, c, 3, rfl, h0.new _ he, by decide, by decide, fun r H1 r0 r1 h1 b1 => ?_⟩⟩
    obtain ⟨z, ez, hz⟩ := of_three (a := 0) (b := 1) (c := 9) r0 r1
    have bz : 0 ≤ z ∧ z ≤ 9 := by rcases hz with rfl | rfl | rfl <;> exact ⟨by decide, by decide⟩
    refine ⟨e, _, _, _, rfl, rfl, SqL.of (b1 _ _ upd_same (h0.nef he)), ez, _, rfl, p, c, 1000, rfl, h1, by decide, by decide, fun r2 H2 r20 r21 h2 b2 => ⟨_, _, rfl, rfl, mulL (by omega) (by omega), ?_⟩⟩
    refine ⟨_, rfl, p, c, 1000001, rfl, h2, by decide, by decide, fun r3 H3 r30 r31 h3 b3 => ⟨_, _, rfl, rfl, _, _, rfl, rfl, mulL (by omega) (by omega), ?_⟩⟩
    have bb : But p H H3 := ((But.new _ he).trans b1).trans (b2.trans b3)
    refine ⟨_, rfl, p, c, 4, rfl, h3, by decide, by decide, fun r4 H4 r40 r41 h4 b4 => ⟨rfl, _, rfl, ite2 (fun _ => ?_) (fun _ => ?_)⟩⟩
    · refine ⟨_, rfl, _, rfl, p, c, 50000, rfl, h4, by decide, by decide, fun r5 H5 r50 r51 h5 b5 => ⟨_, _, rfl, rfl, by show 2 ≤ sizeLine; decide, fun q hq => ?_⟩⟩
      have b5' := (bb.trans b4).trans b5
      exact k q _ _ _ (h5.free b5' hq) upd_same (by omega) (by omega) (h5.new _ hq) (b5'.trans (But.new _ hq))
    · refine ⟨_, rfl, by show 2 ≤ sizeLine; decide, fun q hq => ?_⟩
      have b5' := bb.trans b4
      exact k q _ _ _ (h4.free b5' hq) upd_same (by omega) (by omega) (h4.new _ hq) (b5'.trans (But.new _ hq))
theorem ok_gap (L : Lk K mg "_law_gap" s_gap ["_law_hand", "_law_scale_here"] f fd) (T : Txt mg) (C__law_draw : Callee P w K mg base "_law_draw" ["_law_hand", "_law_many"] 1 spDraw) : Callee P w K mg base "_law_gap" ["_law_hand", "_law_scale_here"] 2 spGap := by
  refine L.callee (L.F.ok sc_gap (fun vs H Q E h => ?_) (fun cdv A outer s H vs Q E hr h => ?_))
  · obtain ⟨p, c, q, b, sc, rfl, _⟩ := h
    rfl
  · obtain ⟨p, c, q, b, sc, rfl, h0, hq, nq, sc1, sc2, k⟩ := h
    have hqq : QB ((cxOf CX0 P w K mg base ["_law_hand", "_law_scale_here"] "_law_gap" (defScope s_gap) f cdv A outer s H E).nox) (defBody s_gap) _ := (qb_cn (qs_if (qt_cmpR op_eq (qe_callee C__law_draw (hr.mono (by first | decide | omega)) (by rfl) (qa_cn (qv 0) (qa_cn qe_int qa_nil))) qe_int (nomark _)) (qb_one (qs_ret (qe_ix ix_list (qe_lst (qa_cn qe_int (qa_cn qe_int (qa_cn (qe_op op_pow qe_int qe_int) qa_nil)))) (qe_callee C__law_draw (hr.mono (by first | decide | omega)) (by rfl) (qa_cn (qv 0) (qa_cn qe_int qa_nil))) (fun _ _ => rfl)))) qb_nil)
      (qb_one (qs_ret (qe_op op_mul (qe_ix ix_list (qv 1) qe_int (fun _ _ => rfl)) (qe_callee C__law_draw (hr.mono (by first | decide | omega)) (by rfl) (qa_cn (qv 0) (qa_cn qe_int qa_nil)))))))
    (with_reducible refine ⟨_, hqq.p, ?_⟩)
    refine ⟨_, rfl, p, c, 8, rfl, h0, by decide, by decide, fun r H1 r0 r1 h1 b1 => ⟨rfl, _, rfl, ite2 (fun _ => ?_) (fun _ => ?_)⟩⟩
    · refine ⟨_, _, rfl, rfl, ⟨by decide, by decide, by decide⟩, by show 3 ≤ sizeLine; decide, fun e he => ⟨_, rfl, p, c, 3, rfl, h1.new _ he, by decide, by decide, fun r2 H2 r20 r21 h2 b2 => ?_⟩⟩
      obtain ⟨z, ez, hz⟩ := of_three (a := 0) (b := 1) (c := 10 ^ (Int.toNat 6)) r20 r21
      have bz : 0 ≤ z ∧ z ≤ 1000000 := by rcases hz with rfl | rfl | rfl <;> exact ⟨by decide, by decide⟩
      exact ⟨e, _, _, _, rfl, rfl, SqL.of (b2 _ _ upd_same (h1.nef he)), ez, k _ H2 bz.1 bz.2 h2 ((b1.trans (But.new _ he)).trans b2)⟩
    · refine ⟨_, rfl, q, _, _, _, rfl, rfl, SqL.of (b1 _ _ hq nq), rfl, _, rfl, p, c, 12, rfl, h1, by decide, by decide, fun r2 H2 r20 r21 h2 b2 => ⟨_, _, rfl, rfl, mulL (by omega) (by omega), k _ H2 ?_ ?_ h2 (b1.trans b2)⟩⟩
      · exact Int.mul_nonneg (by omega) (by omega)
      · have : sc * r2 ≤ 50000 * 11 := Int.mul_le_mul (by omega) (by omega) (by omega) (by omega)
        omega
end
end K51
end
section
set_option Elab.async false
set_option linter.all false
set_option maxRecDepth 100000
set_option maxHeartbeats 4000000
namespace K51
open PySem L2 PyProof.Rows
abbrev Row := V × Int
def Mo (H : Hp) (e : Row) : Prop := ∃ (a b : Addr) (tv : V) (z : Str) (v : Int), e.1 = .ref a ∧ (H a = some (.tup [tv, .ref b]) ∧ plainV tv = true) ∧ H b = some (.tup [.int e.2, .str z, .int v])
theorem TR.plain {H : Hp} {x : V} : ∀ {t : Tg}, TR H x t → plainV x = true
  | .num _, h => by cases (show x = _ from h); rfl
  | .nam _, h => by cases (show x = _ from h); rfl
  | .par _ _, h => by obtain ⟨l, _, _, e, _⟩ := h; rw [e]; rfl
theorem Mo.mono {H H' : Hp} (s : Tups H H') {e : Row} (h : Mo H e) : Mo H' e := by
  obtain ⟨a, b, tv, z, v, e, ha, hb⟩ := h
  exact ⟨a, b, tv, z, v, e, ⟨s _ _ ha.1, ha.2⟩, s _ _ hb⟩
def marks (g : List Row) : List (Row × Bool) := match g with
  | [] => []
  | x :: r => (x, true) :: r.map fun y => (y, false)
def flat (gs : List (List Row)) : List (Row × Bool) := gs.flatMap marks
theorem marks_fst (g : List Row) : (marks g).map (·.1) = g := by
  cases g with
  | nil => rfl
  | cons x r => simp [marks, Function.comp_def]
theorem marks_len (g : List Row) : (marks g).length = g.length := by
  have := congrArg List.length (marks_fst g)
  rwa [List.length_map] at this
theorem marks_at {g : List Row} {k : Nat} {x : Row} (h : g[k]? = some x) : (marks g)[k]? = some (x, decide (k = 0)) := by
  cases g with
  | nil => cases h
  | cons y r =>
    cases k with
    | zero => cases h; rfl
    | succ k =>
      have h : r[k]? = some x := h
      show (r.map fun y => (y, false))[k]? = _
      rw [List.getElem?_map, h]
      rfl
theorem marks_snoc {g : List Row} (h : g ≠ []) (x : Row) : marks (g ++ [x]) = marks g ++ [(x, false)] := by
  cases g with
  | nil => exact absurd rfl h
  | cons y r => simp [marks]
theorem flat_fst (gs : List (List Row)) : (flat gs).map (·.1) = gs.flatten := by
  induction gs with
  | nil => rfl
  | cons g gs ih =>
    show (marks g ++ flat gs).map (·.1) = g ++ gs.flatten
    rw [List.map_append, marks_fst, ih]
theorem flat_len : ∀ {gs : List (List Row)}, (∀ g ∈ gs, g ≠ []) → gs.length ≤ (flat gs).length
  | [], _ => Nat.le_refl _
  | g :: gs, h => by
    have ih := flat_len (gs := gs) fun g' m => h g' (List.mem_cons_of_mem _ m)
    have l0 := List.length_pos_iff.mpr (h g List.mem_cons_self)
    show gs.length + 1 ≤ (marks g ++ flat gs).length
    rw [List.length_append, marks_len]
    omega
theorem flat_new (gs : List (List Row)) (x : Row) : flat (gs ++ [[x]]) = flat gs ++ [(x, true)] := by
  unfold flat
  rw [List.flatMap_append]
  rfl
theorem flat_more {gs : List (List Row)} {g : List Row} (h : g ≠ []) (x : Row) : flat (gs ++ [g ++ [x]]) = flat (gs ++ [g]) ++ [(x, false)] := by
  unfold flat
  rw [List.flatMap_append, List.flatMap_append, List.append_assoc]
  congr 1
  show marks (g ++ [x]) ++ [] = (marks g ++ []) ++ [(x, false)]
  rw [List.append_nil, List.append_nil, marks_snoc h]
def Good (gap : Int) (l : List (Row × Bool)) : Prop := ∀ (i : Nat) (e e' : Row × Bool), l[i]? = some e → l[i + 1]? = some e' → e'.2 = decide (gap < e'.1.2 - e.1.2)
theorem Good.snoc {gap : Int} {l : List (Row × Bool)} {x : Row} {b : Bool} (h : Good gap l) (hb : ∀ e, l.getLast? = some e → b = decide (gap < x.2 - e.1.2)) : Good gap (l ++ [(x, b)]) := fun i e e' h1 h2 => by
  by_cases z : i + 1 < l.length
  · rw [List.getElem?_append_left (by omega)] at h1
    rw [List.getElem?_append_left z] at h2
    exact h i e e' h1 h2
  · have il : i + 1 = l.length := by
      have := (List.getElem?_eq_some_iff.mp h2).1
      rw [List.length_append] at this
      simp at this
      omega
    rw [List.getElem?_append_left (by omega)] at h1
    rw [List.getElem?_append_right (by omega), il, Nat.sub_self] at h2
    cases h2
    refine hb e ?_
    rw [List.getLast?_eq_getElem?, ← h1]
    congr 1
    omega
structure Parts (H0 H : Hp) (pa : Addr) (ls : List Addr) (gs : List (List Row)) : Prop where
  new : H0 pa = none
  top : H pa = some (.lst (ls.map V.ref))
  out : pa ∉ ls
  nod : ls.Nodup
  frs : ∀ l ∈ ls, H0 l = none
  len : ls.length = gs.length
  at_ : ∀ (i : Nat) (l : Addr) (g : List Row), ls[i]? = some l → gs[i]? = some g → H l = some (.lst (g.map (·.1)))
theorem Parts.later {H0 H H' : Hp} {pa : Addr} {ls : List Addr} {gs : List (List Row)} (p : Parts H0 H pa ls gs) (s : Same H H') : Parts H0 H' pa ls gs := ⟨p.new, s _ _ p.top, p.out, p.nod, p.frs, p.len, fun i l g h1 h2 => s _ _ (p.at_ i l g h1 h2)⟩
theorem Parts.more {H0 H : Hp} {pa l : Addr} {ls : List Addr} {gs : List (List Row)} {g : List Row} (x : Row) (p : Parts H0 H pa (ls ++ [l]) (gs ++ [g])) : Parts H0 (upd H l (.lst ((g ++ [x]).map (·.1)))) pa (ls ++ [l]) (gs ++ [g ++ [x]]) := by
  have ll : ls.length = gs.length := by
    have := p.len
    rw [List.length_append, List.length_append] at this
    simpa using this
  have npl : pa ≠ l := fun z => p.out (by rw [z]; exact List.mem_append_right _ List.mem_cons_self)
  refine ⟨p.new, by rw [upd_ne npl]; exact p.top, p.out, p.nod, p.frs, by rw [List.length_append, List.length_append, ll]; rfl, fun i l' g' h1 h2 => ?_⟩
  by_cases z : i < ls.length
  · have h1' := h1
    rw [List.getElem?_append_left z] at h1
    rw [List.getElem?_append_left (by omega)] at h2
    have nl : l' ≠ l := fun y => by
      have m := List.mem_of_getElem? h1
      rw [y] at m
      have := (List.nodup_append.mp p.nod).2.2 l m l List.mem_cons_self
      exact this rfl
    rw [upd_ne nl]
    exact p.at_ i l' g' h1' (by rw [List.getElem?_append_left (by omega)]; exact h2)
  · have il : i = ls.length := by
      have := (List.getElem?_eq_some_iff.mp h1).1
      rw [List.length_append] at this
      simp at this
      omega
    rw [List.getElem?_append_right (by omega), il, Nat.sub_self] at h1
    rw [List.getElem?_append_right (by omega), il, ll, Nat.sub_self] at h2
    cases h1
    cases h2
    exact upd_same
theorem Parts.next {H0 H : Hp} {pa l : Addr} {ls : List Addr} {gs : List (List Row)} (x : Row) (p : Parts H0 H pa ls gs) (s : Same H0 H) (hl : H l = none) : Parts H0 (upd (upd H l (.lst [x.1])) pa (.lst ((ls ++ [l]).map V.ref))) pa (ls ++ [l]) (gs ++ [[x]]) := by
  have hl0 : H0 l = none := by
    cases e : H0 l with
    | none => rfl
    | some o => rw [s _ _ e] at hl; cases hl
  have npl : pa ≠ l := fun z => by rw [← z, p.top] at hl; cases hl
  have nin : l ∉ ls := fun m => by
    obtain ⟨i, hi, e⟩ := List.mem_iff_getElem.mp m
    have e1 : ls[i]? = some l := by rw [List.getElem?_eq_getElem hi, e]
    have e2 : gs[i]? = some (gs[i]'(by rw [← p.len]; exact hi)) := List.getElem?_eq_getElem _
    rw [p.at_ i l _ e1 e2] at hl
    cases hl
  refine ⟨p.new, upd_same, fun m => ?_, List.nodup_append.mpr ⟨p.nod, by simp, fun a ha b hb => ?_⟩, fun a m => ?_, by rw [List.length_append, List.length_append, p.len]; rfl, fun i l' g' h1 h2 => ?_⟩
  · rcases List.mem_append.mp m with m | m
    · exact p.out m
    · exact npl (List.mem_singleton.mp m)
  · rw [List.mem_singleton.mp hb]
    exact fun z => nin (by rw [← z]; exact ha)
  · rcases List.mem_append.mp m with m | m
    · exact p.frs a m
    · rw [List.mem_singleton.mp m]; exact hl0
  · by_cases z : i < ls.length
    · rw [List.getElem?_append_left z] at h1
      rw [List.getElem?_append_left (by rw [← p.len]; exact z)] at h2
      have m := List.mem_of_getElem? h1
      rw [upd_ne (fun y => p.out (by rw [← y]; exact m)), upd_ne (fun y => nin (by rw [← y]; exact m))]
      exact p.at_ i l' g' h1 h2
    · have il : i = ls.length := by
        have := (List.getElem?_eq_some_iff.mp h1).1
        rw [List.length_append] at this
        simp at this
        omega
      rw [List.getElem?_append_right (by omega), il, Nat.sub_self] at h1
      rw [List.getElem?_append_right (by rw [il, p.len]; exact Nat.le_refl _), il, p.len, Nat.sub_self] at h2
      cases h1
      cases h2
      rw [upd_ne (Ne.symm npl)]
      exact upd_same
def spStr : Sp := fun vs H Q _ => ∃ (lr : Addr) (es : List Row) (gap : Int), vs = [.ref lr, .int gap] ∧ H lr = some (.lst (es.map (·.1))) ∧ (∀ e ∈ es, Mo H e) ∧ es.length ≤ 4000 ∧
  ∀ (pa : Addr) (ls : List Addr) (gs : List (List Row)) (H' : Hp), Parts H H' pa ls gs → Same H H' → (∀ g ∈ gs, g ≠ []) → (flat gs).map (·.1) = es → Good gap (flat gs) → Q (.ref pa) H'
section
variable {P : Program} {w : World} {K : PySem.W.Frag} {mg : Str → Option Value} {base : Heap} {f : Addr} {fd : FuncData}
theorem ok_str (L : Lk K mg "stretches" s_stretches ["rows", "gap"] f fd) (T : Txt mg) : Callee P w K mg base "stretches" ["rows", "gap"] 1 spStr := by
  refine L.callee (L.F.ok sc_stretches (fun vs H Q E h => ?_) (fun cdv A outer s H vs Q E hr h => ?_))
  · obtain ⟨lr, es, gap, rfl, _⟩ := h
    rfl
  · obtain ⟨lr, es, gap, rfl, hlr, mo, le, k⟩ := h
    have hqq : QB ((cxOf CX0 P w K mg base ["rows", "gap", "parted", "entry"] "stretches" (defScope s_stretches) f cdv A outer s H E).nox) (defBody s_stretches) _ := (qb_cn (qs_set (i := 2) sc_stretches.nd rfl (Or.inl rfl) (qe_lst qa_nil))
      (qb_cn (qs_for PassesOwn.never rfl (qi_list (qv 0)) (qg_name (i := 3) sc_stretches.nd rfl (Or.inl rfl)) (qb_one (qs_if (qw_pt (qw_and ⟨pt_truth (QE.p (qv 2)) (fun _ => rfl)⟩ (qw_and1 (qt_cmpR op_le (qe_op op_sub (qe_ix ix_tup (qe_ix ix_tup (qv 3) qe_int (fun _ _ => rfl)) qe_int (fun _ _ => rfl)) (qe_ix ix_tup (qe_ix ix_tup (qe_ix ix_list (qe_ix ix_list (qv 2) (qe_un un_neg qe_int) (fun _ _ => rfl)) (qe_un un_neg qe_int) (fun _ _ => rfl)) qe_int (fun _ _ => rfl)) qe_int (fun _ _ => rfl))) (qv 1) (nomark _))))) (qb_one (qs_expr (qe_bm PySem.F.plainAttrs_list PySem.F.slot_list_append PySem.F.type_list_append mt_append (qe_ix ix_list (qv 2) (qe_un un_neg qe_int) (fun _ _ => rfl)) (qa_cn (qv 3) qa_nil)))) (qb_one (qs_expr (qe_bm PySem.F.plainAttrs_list PySem.F.slot_list_append PySem.F.type_list_append mt_append (qv 2) (qa_cn (qe_lst (qa_cn (qv 3) qa_nil)) qa_nil)))))))
      (qb_one (qs_ret (qv 2)))))
    (with_reducible refine ⟨_, hqq.p, ?_⟩)
    refine ⟨Nat.zero_le _, fun pa hpa => ?_⟩
    have s0 := Same.new (.lst []) hpa
    refine ⟨_, rfl, lr, rfl, ⟨_, SqL.of (s0 _ _ hlr)⟩, ?_⟩
    refine for_list (K := K) (a := lr) (xs := es.map (·.1)) (fun m σ H' => ∃ o3 ls gs, σ = [some (.ref lr), some (.int gap), some (.ref pa), o3] ∧ Parts H H' pa ls gs ∧ Same H H' ∧ (∀ g ∈ gs, g ≠ []) ∧ (flat gs).map (·.1) = es.take m ∧ Good gap (flat gs)) ⟨none, [], [], rfl, ⟨hpa, upd_same, (fun z => nomatch z), List.nodup_nil, (fun _ z => nomatch z), rfl, (fun _ _ _ z => nomatch z)⟩, s0, (fun _ z => nomatch z), rfl, (fun _ _ _ z => nomatch z)⟩ (fun m σ H' _ ⟨_, _, _, _, _, s', _⟩ => SqL.of (s' _ _ hlr)) ?_ ?_
    · rintro m y σ H1 hy ⟨o3, ls, gs, rfl, ps, s1, gne, fl, gd⟩
      rw [List.getElem?_map] at hy
      obtain ⟨e, he, rfl⟩ := Option.map_eq_some_iff.mp hy
      have hm : m < es.length := (List.getElem?_eq_some_iff.mp he).1
      have tk : es.take (m + 1) = es.take m ++ [e] := by rw [List.take_add_one, he]; rfl
      obtain ⟨a, b, tv, z, v, ea, ha, hb⟩ := (mo e (List.mem_of_getElem? he)).mono (Same.tups s1)
      have lfl : (flat gs).length = m := by
        have := congrArg List.length fl
        rw [List.length_map, List.length_take] at this
        omega
      obtain ⟨x, mm⟩ := e
      have ea : x = .ref a := ea
      subst ea
      have hb : H1 b = some (.tup [.int mm, .str z, .int v]) := hb
      have new : ∀ {H2 : Hp} {l : Addr}, Same H1 H2 → H2 l = none → (∀ q, (flat gs).getLast? = some q → true = decide (gap < mm - q.1.2)) → (∃ o3 ls' gs', [some (V.ref lr), some (.int gap), some (.ref pa), some (.ref a)] = [some (.ref lr), some (.int gap), some (.ref pa), o3] ∧ Parts H (upd (upd H2 l (.lst [.ref a])) pa (.lst (ls.map V.ref ++ [.ref l]))) pa ls' gs' ∧ Same H (upd (upd H2 l (.lst [.ref a])) pa (.lst (ls.map V.ref ++ [.ref l]))) ∧ (∀ g ∈ gs', g ≠ []) ∧ (flat gs').map (·.1) = es.take (m + 1) ∧ Good gap (flat gs')) := fun {H2 l} s2 hl hq => by
        have s12 := s1.trans s2
        have p2 := (ps.later s2).next (.ref a, mm) s12 hl
        rw [List.map_append] at p2
        refine ⟨_, ls ++ [l], gs ++ [[((V.ref a, mm) : Row)]], rfl, p2, fun b' o' e' => ?_, fun g hg => ?_, ?_, ?_⟩
        · rw [upd_ne (ne_of_none e' ps.new), upd_ne (fun z => by rw [← z, s12 _ _ e'] at hl; cases hl)]
          exact s12 _ _ e'
        · rcases List.mem_append.mp hg with z | z
          · exact gne g z
          · rw [List.mem_singleton.mp z]
            exact fun y => by cases y
        · rw [flat_new, List.map_append, fl, tk]
          rfl
        · rw [flat_new]
          exact gd.snoc hq
      rcases List.eq_nil_or_concat gs with z0 | ⟨gs', g, z0⟩
      · subst z0
        have l0 : ls = [] := List.length_eq_zero_iff.mp ps.len
        subst l0
        refine ⟨_, rfl, false, .inl ⟨_, SqL.of ps.top, rfl⟩, iteF (iteF ⟨_, rfl, .inl ⟨rfl, _, SqL.of ps.top⟩, _, rfl, by show 1 ≤ sizeLine; decide, fun l hl => ⟨pa, _, _, rfl, rfl, Same.new _ hl _ _ ps.top, by decide, ?_⟩⟩)⟩
        exact new (fun _ _ e => e) hl fun q z => by cases z
      · rw [List.concat_eq_append] at z0
        subst z0
        obtain ⟨ls', l, e0⟩ : ∃ ls' l, ls = ls' ++ [l] := by
          rcases List.eq_nil_or_concat ls with y | ⟨ls', l, y⟩
          · have := ps.len
            rw [y, List.length_append] at this
            simp at this
          · rw [List.concat_eq_append] at y
            exact ⟨ls', l, y⟩
        subst e0
        have ll : ls'.length = gs'.length := by
          have := ps.len
          rw [List.length_append, List.length_append] at this
          simpa using this
        obtain ⟨g', ⟨x0, m0⟩, e0⟩ : ∃ g' x, g = g' ++ [x] := by
          rcases List.eq_nil_or_concat g with y | ⟨g', x, y⟩
          · exact absurd y (gne g (List.mem_append_right _ List.mem_cons_self))
          · rw [List.concat_eq_append] at y
            exact ⟨g', x, y⟩
        subst e0
        have gn : g' ++ [(x0, m0)] ≠ [] := gne _ (List.mem_append_right _ List.mem_cons_self)
        have hl : H1 l = some (.lst ((g' ++ [(x0, m0)]).map (·.1))) := ps.at_ ls'.length l _ (by rw [List.getElem?_append_right (Nat.le_refl _), Nat.sub_self]; rfl) (by rw [ll, List.getElem?_append_right (Nat.le_refl _), Nat.sub_self]; rfl)
        have ff : (flat (gs' ++ [g' ++ [(x0, m0)]])).map (·.1) = (gs'.flatten ++ g') ++ [(x0, m0)] := by
          rw [flat_fst, List.flatten_append]
          simp
        have mem : (x0, m0) ∈ es := by
          have : (x0, m0) ∈ es.take m := by rw [← fl, ff]; exact List.mem_append_right _ List.mem_cons_self
          exact List.mem_of_mem_take this
        have lq : ∀ q, (flat (gs' ++ [g' ++ [(x0, m0)]])).getLast? = some q → q.1 = (x0, m0) := fun q hq => by
          have h1 : ((flat (gs' ++ [g' ++ [(x0, m0)]])).map (·.1)).getLast? = some q.1 := by rw [List.getLast?_map, hq]; rfl
          rw [ff, List.getLast?_concat] at h1
          exact (Option.some.inj h1).symm
        obtain ⟨a0, b0, tv0, z0, v0, ea0, ha0, hb0⟩ := (mo _ mem).mono (Same.tups s1)
        have ea0 : x0 = .ref a0 := ea0
        subst ea0
        have hb0 : H1 b0 = some (.tup [.int m0, .str z0, .int v0]) := hb0
        have e1 : atI ((ls' ++ [l]).map V.ref) (-1) = some (.ref l) := by rw [List.map_append]; exact L2.atI_last _ _
        have e2 : atI ((g' ++ [((V.ref a0, m0) : Row)]).map (·.1)) (-1) = some (.ref a0) := by rw [List.map_append]; exact L2.atI_last _ _
        have nem : (!((ls' ++ [l]).map V.ref).isEmpty) = true := by simp
        refine ⟨_, rfl, true, .inl ⟨_, SqL.of ps.top, nem.symm⟩, iteT ⟨_, rfl, a, _, 1, _, rfl, rfl, SqT.of ha.1, rfl, b, _, 0, _, rfl, rfl, SqT.of hb, rfl, _, rfl, _, rfl, pa, _, _, _, rfl, rfl, SqL.of ps.top, e1, _, rfl, l, _, _, _, rfl, rfl, SqL.of hl, e2, a0, _, 1, _, rfl, rfl, SqT.of ha0.1, rfl, b0, _, 0, _, rfl, rfl, SqT.of hb0, rfl, _, _, rfl, rfl, _, rfl, _, _, rfl, rfl, _, rfl, ?_⟩⟩
        have lf2 := congrArg List.length ff
        rw [List.length_map, lfl, List.length_append, List.length_append, List.length_singleton] at lf2
        have gl := flat_len gne
        rw [lfl] at gl
        have big : (4001 : Nat) ≤ sizeLine := by decide
        by_cases hle : mm - m0 ≤ gap
        · rw [decide_eq_true hle]
          refine iteT ⟨_, rfl, _, rfl, pa, _, _, _, rfl, rfl, SqL.of ps.top, e1, .inl ⟨rfl, _, SqL.of hl⟩, _, rfl, l, _, _, rfl, rfl, hl, ?_, ?_⟩
          · refine Nat.lt_of_lt_of_le ?_ big
            rw [List.length_map, List.length_append, List.length_singleton]
            omega
          have p2 := ps.more ((V.ref a, mm) : Row)
          rw [List.map_append] at p2
          refine ⟨_, ls' ++ [l], gs' ++ [g' ++ [(V.ref a0, m0)] ++ [((V.ref a, mm) : Row)]], rfl, p2, fun b' o' e' => ?_, fun g hg => ?_, ?_, ?_⟩
          · rw [upd_ne (ne_of_none e' (ps.frs l (List.mem_append_right _ List.mem_cons_self)))]
            exact s1 _ _ e'
          · rcases List.mem_append.mp hg with z | z
            · exact gne g (List.mem_append_left _ z)
            · rw [List.mem_singleton.mp z]
              exact fun y => by
                have := (List.append_eq_nil_iff.mp y).2
                cases this
          · rw [flat_more gn, List.map_append, fl, tk]
            rfl
          · rw [flat_more gn]
            refine gd.snoc fun q hq => ?_
            rw [lq q hq]
            exact (decide_eq_false (by show ¬ gap < mm - m0; omega)).symm
        · rw [decide_eq_false hle]
          refine iteF ⟨_, rfl, .inl ⟨rfl, _, SqL.of ps.top⟩, _, rfl, by show 1 ≤ sizeLine; decide, fun l2 hl2 => ⟨pa, _, _, rfl, rfl, Same.new _ hl2 _ _ ps.top, ?_, ?_⟩⟩
          · refine Nat.lt_of_lt_of_le ?_ big
            rw [List.length_map, ps.len]
            omega
          exact new (fun _ _ e => e) hl2 fun q hq => by
            rw [lq q hq]
            exact (decide_eq_true (by show gap < mm - m0; omega)).symm
    · rintro σ H1 ⟨o3, ls, gs, rfl, ps, s1, gne, fl, gd⟩
      rw [List.length_map, List.take_length] at fl
      exact ⟨_, rfl, k pa ls gs H1 ps s1 gne fl gd⟩
end
end K51
end
section
set_option Elab.async false
set_option linter.all false
set_option maxRecDepth 100000
set_option maxHeartbeats 4000000
namespace K51
open PySem L2 PyProof.Rows
theorem perm_of_map {α β : Type} {g : α → β} {ys zs : List β} (p : ys.Perm zs) : ∀ {es : List α}, zs = es.map g → ∃ es' : List α, es'.Perm es ∧ ys = es'.map g := by
  induction p with
  | nil => exact fun {es} h => ⟨es, .refl _, h⟩
  | cons a _ ih =>
    intro es h
    cases es with
    | nil => cases h
    | cons e es =>
      have h1 := (List.cons.inj h).1
      obtain ⟨es', q1, q2⟩ := ih (List.cons.inj h).2
      exact ⟨e :: es', q1.cons _, by rw [List.map_cons, h1, q2]⟩
  | swap a b l =>
    intro es h
    cases es with
    | nil => cases h
    | cons e es =>
      cases es with
      | nil => cases (List.cons.inj h).2
      | cons e2 es =>
        have h1 := (List.cons.inj h).1
        have h2 := (List.cons.inj (List.cons.inj h).2).1
        have h3 := (List.cons.inj (List.cons.inj h).2).2
        exact ⟨e2 :: e :: es, .swap _ _ _, by rw [List.map_cons, List.map_cons, h1, h2, h3]⟩
  | trans _ _ ih1 ih2 =>
    intro es h
    obtain ⟨es1, q1, q2⟩ := ih2 h
    obtain ⟨es2, q3, q4⟩ := ih1 q2
    exact ⟨es2, q3.trans q1, q4⟩
theorem tkeys_rows {C : List V → Hp → Prop} : ∀ (xs ks0 : List V) (H : Hp), (∀ x ∈ xs, ∃ k, Rw H x k) →
    (∀ (ks : List V) (km : List (Int × Tg)) (H' : Hp), Same H H' → ks.length = xs.length → km.length = xs.length → (∀ (i : Nat) (x : V) (k : Int × Tg), ks[i]? = some x → km[i]? = some k → KRow H' x k) → C (ks0 ++ ks) H') → tKeys spTurn xs ks0 H C
  | [], ks0, H, _, h => by
    have := h [] [] H (fun _ _ e => e) rfl rfl (fun i x k z => nomatch z)
    rw [List.append_nil] at this
    exact this
  | x :: r, ks0, H, hx, h => by
    obtain ⟨k, hk⟩ := hx x List.mem_cons_self
    refine ⟨x, k, rfl, hk, fun v H1 kr s1 => tkeys_rows r (ks0 ++ [v]) H1 (fun y my => ?_) (fun ks km H2 s2 l1 l2 q => ?_)⟩
    · obtain ⟨k', hk'⟩ := hx y (List.mem_cons_of_mem _ my)
      exact ⟨k', hk'.mono (Same.tups s1)⟩
    · have := h (v :: ks) (k :: km) H2 (s1.trans s2) (by rw [List.length_cons, List.length_cons, l1]) (by rw [List.length_cons, List.length_cons, l2]) (fun i y k' h1 h2 => ?_)
      · rw [List.append_assoc]
        exact this
      · cases i with
        | zero =>
          cases h1
          cases h2
          exact kr.mono (Same.tups s2)
        | succ i => exact q i y k' h1 h2
theorem Hand.nec {H : Hp} {p c D : Addr} (h : Hand H p c) (e : H D = none) : D ≠ c := fun z => by
  obtain ⟨_, _, _, _, hc, _⟩ := h
  rw [z, hc] at e; cases e
theorem Hand.other {H : Hp} {p c q : Addr} {o : HO} (h : Hand H p c) (n1 : q ≠ p) (n2 : q ≠ c) : Hand (upd H q o) p c := by
  obtain ⟨d, n, cs, hp, hc, h0⟩ := h
  exact ⟨d, n, cs, by rw [upd_ne (Ne.symm n1)]; exact hp, by rw [upd_ne (Ne.symm n2)]; exact hc, h0⟩
theorem But.put {p q : Addr} {H H' : Hp} {o : HO} (b : But p H H') (hq : H q = none) : But p H (L2.upd H' q o) := fun x u e n => by rw [upd_ne (ne_of_none e hq)]; exact b x u e n
theorem Hand.tups {H H' : Hp} {p c : Addr} (h : Hand H p c) (b : But p H H') : Tups H H' := fun t l e => b t _ e (fun z => by
  obtain ⟨d, k, cs, hp, _⟩ := h
  rw [z, hp] at e
  cases e)
theorem of_four {r a b c d : Int} (h0 : 0 ≤ r) (h1 : r < 4) : ∃ z, atI [V.int a, .int b, .int c, .int d] r = some (.int z) := by
  have : r = 0 ∨ r = 1 ∨ r = 2 ∨ r = 3 := by omega
  rcases this with rfl | rfl | rfl | rfl
  · exact ⟨a, rfl⟩
  · exact ⟨b, rfl⟩
  · exact ⟨c, rfl⟩
  · exact ⟨d, rfl⟩
def spRows : Sp := fun vs H Q _ => ∃ (p c q : Addr) (b sc gap : Int), vs = [.ref p, .ref q, .int gap] ∧ Hand H p c ∧ H q = some (.lst [.int b, .int sc]) ∧ q ≠ p ∧ 1 ≤ sc ∧ sc ≤ 50000 ∧
  ∀ (lr : Addr) (es : List Row) (H' : Hp), H lr = none → H' lr = some (.lst (es.map (·.1))) → (∀ e ∈ es, Mo H' e) → es.length ≤ 200 → But p H H' → Q (.ref lr) H'
section
variable {P : Program} {w : World} {K : PySem.W.Frag} {mg : Str → Option Value} {base : Heap} {f : Addr} {fd : FuncData}
theorem ok_rows (L : Lk K mg "_law_rows" s_rows ["_law_hand", "_law_scale_here", "_law_gap_here"] f fd) (T : Txt mg) (C__law_draw : Callee P w K mg base "_law_draw" ["_law_hand", "_law_many"] 1 spDraw) (C__law_tag : Callee P w K mg base "_law_tag" ["_law_shape", "_law_k"] 1 spTag) (C__law_by_turn : Callee P w K mg base "_law_by_turn" ["_law_pair"] 5 spTurn) : Callee P w K mg base "_law_rows" ["_law_hand", "_law_scale_here", "_law_gap_here"] 8 spRows := by
  refine L.callee (L.F.ok sc_rows (fun vs H Q E h => ?_) (fun cdv A outer s H vs Q E hr h => ?_))
  · obtain ⟨p, c, q, b, sc, gap, rfl, _⟩ := h
    rfl
  · obtain ⟨p, c, q, b, sc, gap, rfl, h0, hq, nq, sc1, sc2, k⟩ := h
    obtain ⟨u2, hu2, k2⟩ : ∃ u, PSs ((cxOf CX0 P w K mg base ["_law_hand", "_law_scale_here", "_law_gap_here", "_law_many", "_law_word", "_law_whose", "_law_moment", "_law_rows_here", "_law_k"] "_law_rows" (defScope s_rows) f cdv A outer s H E).nox) ((defBody s_rows).drop 2) u ∧ ∀ (n : Int) (H' : Hp), 0 ≤ n → n ≤ 200 → Hand H' p c → But p H H' →
        u { nx := fun _ H' => Q .non H', rt := Q } [some (.ref p), some (.ref q), some (.int gap), some (.int n), none, none, none, none, none] H' := by
      have hb : QB ((cxOf CX0 P w K mg base ["_law_hand", "_law_scale_here", "_law_gap_here", "_law_many", "_law_word", "_law_whose", "_law_moment", "_law_rows_here", "_law_k"] "_law_rows" (defScope s_rows) f cdv A outer s H E).nox) ((defBody s_rows).drop 2) _ := (qb_cn (qs_set (i := 4) sc_rows.nd rfl (Or.inl rfl) (qe_slice sl_str qe_str (qo_some (qe_callee C__law_draw (hr.mono (by first | decide | omega)) (by rfl) (qa_cn (qv 0) (qa_cn qe_int qa_nil)))) qo_none))
      (qb_cn (qs_set (i := 5) sc_rows.nd rfl (Or.inl rfl) (qe_slice sl_str (qv 4) qo_none (qo_some (qe_op op_add qe_int (qe_callee C__law_draw (hr.mono (by first | decide | omega)) (by rfl) (qa_cn (qv 0) (qa_cn qe_int qa_nil)))))))
      (qb_cn (qs_set (i := 6) sc_rows.nd rfl (Or.inl rfl) (qe_ix ix_list (qv 1) qe_int (fun _ _ => rfl)))
      (qb_cn (qs_set (i := 7) sc_rows.nd rfl (Or.inl rfl) (qe_lst qa_nil))
      (qb_cn (qs_for PassesOwn.never rfl (qi_range1 rfl T.range (qa_cn (qv 3) qa_nil)) (qg_name (i := 8) sc_rows.nd rfl (Or.inl rfl)) (qb_cn (qs_aug (i := 6) sc_rows.nd rfl (Or.inl rfl) (qe_ix ix_list (qe_lst (qa_cn qe_int (qa_cn (qv 2) (qa_cn (qe_op op_add (qv 2) qe_int) (qa_cn (qe_op op_mul (qe_ix ix_list (qv 1) qe_int (fun _ _ => rfl)) (qe_callee C__law_draw (hr.mono (by first | decide | omega)) (by rfl) (qa_cn (qv 0) (qa_cn qe_int qa_nil)))) qa_nil))))) (qe_callee C__law_draw (hr.mono (by first | decide | omega)) (by rfl) (qa_cn (qv 0) (qa_cn qe_int qa_nil))) (fun _ _ => rfl)) ip_add)
      (qb_one (qs_expr (qe_bm PySem.F.plainAttrs_list PySem.F.slot_list_append PySem.F.type_list_append mt_append (qv 7) (qa_cn (qe_tup (qa_cn (qe_callee C__law_tag (hr.mono (by first | decide | omega)) (by rfl) (qa_cn (qe_callee C__law_draw (hr.mono (by first | decide | omega)) (by rfl) (qa_cn (qv 0) (qa_cn qe_int qa_nil))) (qa_cn (qv 8) qa_nil))) (qa_cn (qe_tup (qa_cn (qv 6) (qa_cn (qv 5) (qa_cn (qe_op op_sub (qe_callee C__law_draw (hr.mono (by first | decide | omega)) (by rfl) (qa_cn (qv 0) (qa_cn qe_int qa_nil))) qe_int) qa_nil)))) qa_nil))) qa_nil))))))
      (qb_one (qs_ret (qe_sortG C__law_by_turn (hr.mono (by first | decide | omega)) (by rfl) T.sorted (by rfl) (qa_cn (qv 7) qa_nil)))))))))
      (with_reducible refine ⟨_, hb.p, fun n H1 n0 n1 h1 b1 => ?_⟩)
      refine ⟨_, rfl, p, c, 10, rfl, h1, by decide, by decide, fun r H2 r0 r1 h2 b2 => ?_⟩
      have hw : (Txt.slice "abcdefghij" (some r) none).length ≤ sizeLine := by
        have : r = 0 ∨ r = 1 ∨ r = 2 ∨ r = 3 ∨ r = 4 ∨ r = 5 ∨ r = 6 ∨ r = 7 ∨ r = 8 ∨ r = 9 := by omega
        rcases this with rfl | rfl | rfl | rfl | rfl | rfl | rfl | rfl | rfl | rfl <;> decide +kernel
      refine ⟨r, rfl, _, rfl, by decide +kernel, ?_⟩
      generalize Txt.slice "abcdefghij" (some r) none = word at hw ⊢
      refine ⟨_, rfl, _, rfl, p, c, 8, rfl, h2, by decide, by decide, fun r3 H3 r30 r31 h3 b3 => ⟨_, _, rfl, rfl, _, rfl, _, rfl, hw, ?_⟩⟩
      generalize Txt.slice word none (some (1 + r3)) = whose
      have b03 := (b1.trans b2).trans b3
      have hq3 := b03 _ _ hq nq
      refine ⟨_, rfl, q, _, _, _, rfl, rfl, SqL.of hq3, rfl, Nat.zero_le _, fun l0 hl0 => ?_⟩
      have nl : l0 ≠ p := h3.nef hl0
      have fl0 : H l0 = none := h3.free b03 hl0
      have nlc : l0 ≠ c := h3.nec hl0
      obtain ⟨nn, rfl⟩ := Int.eq_ofNat_of_zero_le n0
      have nn1 : nn ≤ 200 := by omega
      refine ⟨_, rfl, _, rfl, by omega, by omega, for_range (n := nn) (fun m σ H' => ∃ mom es o8, σ = [some (.ref p), some (.ref q), some (.int gap), some (.int nn), some (.str word), some (.str whose), some (.int mom), some (.ref l0), o8] ∧ H' l0 = some (.lst (es.map (·.1))) ∧ es.length = m ∧ (∀ e ∈ (es : List Row), ∃ t, Rw H' e.1 (e.2, t)) ∧ Hand H' p c ∧ But p H H') ⟨b, [], none, rfl, upd_same, rfl, (fun _ z => nomatch z), h3.new _ hl0, b03.trans (But.new _ hl0)⟩ ?_ ?_⟩
      · rintro m σ H4 hm ⟨mom, es, o8, rfl, hl4, les, rw4, h4, b4⟩
        have hq4 := b4 _ _ hq nq
        refine ⟨_, rfl, _, rfl, _, rfl, _, _, rfl, rfl, _, rfl, q, _, _, _, rfl, rfl, SqL.of hq4, rfl, _, rfl, p, c, 14, rfl, h4, by decide, by decide, fun r5 H5 r50 r51 h5 b5 => ⟨_, _, rfl, rfl, mulL (by omega) (by omega), by show 4 ≤ sizeLine; decide, fun e he => ?_⟩⟩
        refine ⟨_, rfl, p, c, 4, rfl, h5.new _ he, by decide, by decide, fun r6 H6 r60 r61 h6 b6 => ?_⟩
        obtain ⟨z, ez⟩ := of_four (a := 0) (b := gap) (c := gap + 1) (d := sc * r5) r60 r61
        have b46 := (b5.trans (But.new _ he)).trans b6
        refine ⟨e, _, _, _, rfl, rfl, SqL.of (b6 _ _ upd_same (h5.nef he)), ez, _, _, rfl, rfl, ?_⟩
        have hl6 := b46 _ _ hl4 nl
        refine ⟨_, rfl, .inl ⟨rfl, _, SqL.of hl6⟩, _, rfl, p, c, 5, rfl, h6, by decide, by decide, fun r7 H7 r70 r71 h7 b7 => ⟨_, rfl, _, _, rfl, fun x t H8 tx td s8 => ?_⟩⟩
        have h8 := h7.same s8
        refine ⟨_, rfl, _, rfl, _, rfl, p, c, 7, rfl, h8, by decide, by decide, fun r9 H9 r90 r91 h9 b9 => ⟨_, _, rfl, rfl, by show 3 ≤ sizeLine; decide, fun b1' hb1 => ⟨by show 2 ≤ sizeLine; decide, fun a1 ha1 => ?_⟩⟩⟩
        have s10 := Same.new (.tup [.int (mom + z), .str whose, .int (r9 - 3)]) hb1
        have s11 := Same.new (.tup [x, .ref b1']) ha1
        have b411 : But p H4 _ := (((b46.trans b7).trans (fun x o e _ => s8 x o e)).trans b9).trans (fun x o e _ => s11 x o (s10 x o e))
        have h11 := (h9.same s10).same s11
        have hl11 := b411 _ _ hl4 nl
        have tu : Tups H4 _ := h4.tups b411
        have t8 : Tups H8 _ := fun t l e => s11 _ _ (s10 _ _ ((h8.tups b9) t l e))
        have a11 := (upd_same : (upd (upd H9 b1' (.tup [.int (mom + z), .str whose, .int (r9 - 3)])) a1 (.tup [x, .ref b1'])) a1 = _)
        have b11 := s11 _ _ (upd_same : (upd H9 b1' (.tup [.int (mom + z), .str whose, .int (r9 - 3)])) b1' = _)
        have tx11 := TR.mono t8 t tx
        refine ⟨l0, _, _, rfl, rfl, hl11, ?_, mom + z, es ++ [((V.ref a1, mom + z) : Row)], _, rfl, ?_, ?_, fun e' he' => ?_, h11.other nl nlc, (b4.trans b411).put fl0⟩
        · rw [List.length_map, les]
          exact Nat.lt_of_lt_of_le hm (Nat.le_trans nn1 (by decide))
        · rw [upd_same, List.map_append]
          rfl
        · rw [List.length_append, les]
          rfl
        · have tl := Tups.upd (ys := es.map (·.1) ++ [V.ref a1]) hl11
          rcases List.mem_append.mp he' with y | y
          · obtain ⟨t', ht'⟩ := rw4 e' y
            exact ⟨t', (ht'.mono tu).mono tl⟩
          · rw [List.mem_singleton.mp y]
            exact ⟨t, Rw.mono tl ⟨a1, b1', x, whose, r9 - 3, rfl, a11, b11, tx11, td⟩⟩
      · rintro σ H4 ⟨mom, es, o8, rfl, hl4, les, rw4, h4, b4⟩
        refine ⟨_, rfl, l0, _, rfl, SqL.of hl4, by rw [List.length_map, les]; exact Nat.le_trans nn1 (by decide), ?_⟩
        refine tkeys_rows _ _ _ (fun y my => ?_) (fun ks km H5 s5 l1 l2 kr => ?_)
        · obtain ⟨e', he', rfl⟩ := List.mem_map.mp my
          obtain ⟨t, ht⟩ := rw4 e' he'
          exact ⟨_, ht⟩
        rw [List.nil_append]
        have kk : ∀ i, i < (es.map (·.1)).length → KRow H5 (ks.getD i .non) (km.getD i (0, .num 0)) := fun i hi => by
          have e1 : ks[i]? = some (ks[i]'(by omega)) := List.getElem?_eq_getElem _
          have e2 : km[i]? = some (km[i]'(by omega)) := List.getElem?_eq_getElem _
          have := kr i _ _ e1 e2
          rw [List.getD_eq_getElem?_getD, List.getD_eq_getElem?_getD, e1, e2]
          exact this
        refine ⟨l1, fun i j => rlt (km.getD i (0, .num 0)) (km.getD j (0, .num 0)), rlt_ord _, fun y my => ?_, fun i j hi hj => klt_row (kk i hi) (kk j hj), fun ys D py hD => ?_⟩
        · obtain ⟨i, hi, e⟩ := List.mem_iff_getElem.mp my
          have e1 : ks[i]? = some y := by rw [List.getElem?_eq_getElem hi, e]
          exact (kr i y _ e1 (List.getElem?_eq_getElem (show i < km.length by omega))).first
        · obtain ⟨es', q1, q2⟩ := perm_of_map py rfl
          have s6 := Same.new (.lst ys) hD
          have b5 : But p H4 H5 := fun x o e _ => s5 x o e
          refine k D es' _ ((h4.same s5).free (b4.trans b5) hD) (by rw [q2]; exact upd_same) (fun e' he' => ?_) (by rw [q1.length_eq, les]; exact nn1) ((b4.trans b5).trans (But.new _ hD))
          obtain ⟨t, a1, b1', tv, z, v, g1, g2, g3, g4, g5⟩ := rw4 e' (q1.mem_iff.mp he')
          exact Mo.mono (Same.tups (s5.trans s6)) ⟨a1, b1', tv, z, v, g1, ⟨g2, TR.plain g4⟩, g3⟩
    have hb : QB ((cxOf CX0 P w K mg base ["_law_hand", "_law_scale_here", "_law_gap_here", "_law_many", "_law_word", "_law_whose", "_law_moment", "_law_rows_here", "_law_k"] "_law_rows" (defScope s_rows) f cdv A outer s H E).nox) (defBody s_rows) _ := (qb_cn (qs_set (i := 3) sc_rows.nd rfl (Or.inl rfl) (qe_callee C__law_draw (hr.mono (by first | decide | omega)) (by rfl) (qa_cn (qv 0) (qa_cn qe_int qa_nil))))
      (qb_cn (qs_if (qt_cmpR op_eq (qe_callee C__law_draw (hr.mono (by first | decide | omega)) (by rfl) (qa_cn (qv 0) (qa_cn qe_int qa_nil))) qe_int (nomark _)) (qb_one (qs_set (i := 3) sc_rows.nd rfl (Or.inl rfl) (qe_ix ix_list (qe_lst (qa_cn (qe_callee C__law_draw (hr.mono (by first | decide | omega)) (by rfl) (qa_cn (qv 0) (qa_cn qe_int qa_nil))) (qa_cn (qe_callee C__law_draw (hr.mono (by first | decide | omega)) (by rfl) (qa_cn (qv 0) (qa_cn qe_int qa_nil))) qa_nil))) (qe_op op_fdiv (qe_callee C__law_draw (hr.mono (by first | decide | omega)) (by rfl) (qa_cn (qv 0) (qa_cn qe_int qa_nil))) qe_int) (fun _ _ => rfl)))) qb_nil)
      ⟨hu2⟩))
    (with_reducible refine ⟨_, hb.p, ?_⟩)
    refine ⟨_, rfl, p, c, 9, rfl, h0, by decide, by decide, fun r H1 r0 r1 h1 b1 => ?_⟩
    refine ⟨_, rfl, p, c, 4, rfl, h1, by decide, by decide, fun r2 H2 r20 r21 h2 b2 => ⟨rfl, _, rfl, ite2 (fun _ => ?_) (fun _ => ?_)⟩⟩
    · refine ⟨_, rfl, p, c, 61, rfl, h2, by decide, by decide, fun x1 H3 x10 x11 h3 b3 => ⟨_, rfl, p, c, 201, rfl, h3, by decide, by decide, fun x2 H4 x20 x21 h4 b4 => ⟨by show 2 ≤ sizeLine; decide, fun e he => ?_⟩⟩⟩
      refine ⟨_, rfl, p, c, 4, rfl, h4.new _ he, by decide, by decide, fun x3 H5 x30 x31 h5 b5 => ?_⟩
      have i3 : x3 / 3 = 0 ∨ x3 / 3 = 1 := by omega
      have fin := fun (z : Int) (z0 : 0 ≤ z) (z1 : z ≤ 200) => k2 z H5 z0 z1 h5 ((((b1.trans b2).trans b3).trans b4).trans ((But.new _ he).trans b5))
      have hl5 := b5 _ _ upd_same (h4.nef he)
      refine ⟨_, _, rfl, rfl, ⟨by decide, by decide⟩, ?_⟩
      rcases i3 with i3 | i3
      · exact ⟨e, _, 0, _, rfl, congrArg V.int i3, SqL.of hl5, rfl, fin x1 x10 (by omega)⟩
      · exact ⟨e, _, 1, _, rfl, congrArg V.int i3, SqL.of hl5, rfl, fin x2 x20 (by omega)⟩
    · exact k2 r H2 r0 (by omega) h2 (b1.trans b2)
end
end K51
end
section
set_option Elab.async false
set_option linter.all false
set_option maxRecDepth 100000
set_option maxHeartbeats 4000000
namespace K51
open PySem L2 PyProof.Rows
structure Lies (H : Hp) (pa : Addr) (ls : List Addr) (gs : List (List Row)) : Prop where
  top : H pa = some (.lst (ls.map V.ref))
  len : ls.length = gs.length
  at_ : ∀ (i : Nat) (l : Addr) (g : List Row), ls[i]? = some l → gs[i]? = some g → H l = some (.lst (g.map (·.1)))
theorem Lies.same {H H' : Hp} {pa : Addr} {ls : List Addr} {gs : List (List Row)} (p : Lies H pa ls gs) (s : Same H H') : Lies H' pa ls gs := ⟨s _ _ p.top, p.len, fun i l g h1 h2 => s _ _ (p.at_ i l g h1 h2)⟩
def spParted : Sp := fun vs H Q _ => ∃ (pa lr : Addr) (gap : Int) (ls : List Addr) (gs : List (List Row)) (es : List Row), vs = [.ref pa, .ref lr, .int gap] ∧ Lies H pa ls gs ∧ (∀ g ∈ gs, g ≠ []) ∧ H lr = some (.lst (es.map (·.1))) ∧ (flat gs).map (·.1) = es ∧ Good gap (flat gs) ∧ (∀ e ∈ es, Mo H e) ∧ es.length ≤ 4000 ∧ ∀ H', Same H H' → Q (.bl true) H'
theorem flat_cut {gs : List (List Row)} {m : Nat} {g : List Row} (h : gs[m]? = some g) : flat gs = flat (gs.take m) ++ (marks g ++ flat (gs.drop (m + 1))) := by
  have hm := (List.getElem?_eq_some_iff.mp h).1
  have e : gs = gs.take m ++ (g :: gs.drop (m + 1)) := by
    have : gs.drop m = g :: gs.drop (m + 1) := by
      rw [List.drop_eq_getElem_cons hm, (List.getElem?_eq_some_iff.mp h).2]
    rw [← this, List.take_append_drop]
  have : flat gs = flat (gs.take m ++ (g :: gs.drop (m + 1))) := by rw [← e]
  rw [this]
  unfold flat
  rw [List.flatMap_append, List.flatMap_cons]
theorem flat_at {gs : List (List Row)} {m k : Nat} {g : List Row} {x : Row} (h : gs[m]? = some g) (hx : g[k]? = some x) : (flat gs)[(flat (gs.take m)).length + k]? = some (x, decide (k = 0)) := by
  rw [flat_cut h, List.getElem?_append_right (by omega), Nat.add_sub_cancel_left]
  have hk := (List.getElem?_eq_some_iff.mp hx).1
  rw [List.getElem?_append_left (by rw [marks_len]; exact hk)]
  exact marks_at hx
theorem flat_step {gs : List (List Row)} {m : Nat} {g : List Row} (h : gs[m]? = some g) : (flat (gs.take (m + 1))).length = (flat (gs.take m)).length + g.length := by
  rw [List.take_add_one, h]
  unfold flat
  rw [List.flatMap_append, List.length_append]
  congr 1
  show (marks g ++ []).length = _
  rw [List.append_nil, marks_len]
section
variable {P : Program} {w : World} {K : PySem.W.Frag} {mg : Str → Option Value} {base : Heap} {f : Addr} {fd : FuncData}
theorem ok_parted (L : Lk K mg "_law_parted" s_parted ["_law_told", "_law_rows_here", "_law_gap_here"] f fd) (T : Txt mg) : Callee P w K mg base "_law_parted" ["_law_told", "_law_rows_here", "_law_gap_here"] 1 spParted := by
  refine L.callee (L.F.ok sc_parted (fun vs H Q E h => ?_) (fun cdv A outer s H vs Q E hr h => ?_))
  · obtain ⟨pa, lr, gap, ls, gs, es, rfl, _⟩ := h
    rfl
  · obtain ⟨pa, lr, gap, ls, gs, es, rfl, li, gne, hlr, fl, gd, mo, le, k⟩ := h
    have hqq : QB ((cxOf CX0 P w K mg base ["_law_told", "_law_rows_here", "_law_gap_here", "_law_laid", "_law_some", "_law_k", "_law_at", "_law_apart"] "_law_parted" (defScope s_parted) f cdv A outer s H E).nox) (defBody s_parted) _ := (qb_cn (qs_if (qt_not (qt_val (qe_callB call_isinst (by rfl) T.isinstance boot_isinstance (qa_cn (qv 0) (qa_cn (qe_bltn (v := .ty "list") (by rfl) T.list boot_list rfl) qa_nil))))) (qb_one (qs_ret qe_bl)) qb_nil)
      (qb_cn (qs_set (i := 3) sc_parted.nd rfl (Or.inl rfl) (qe_lst qa_nil))
      (qb_cn (qs_for PassesOwn.never rfl (qi_list (qv 0)) (qg_name (i := 4) sc_parted.nd rfl (Or.inl rfl)) (qb_cn (qs_if (qw_pt (qw_or (qt_not (qt_val (qe_callB call_isinst (by rfl) T.isinstance boot_isinstance (qa_cn (qv 4) (qa_cn (qe_bltn (v := .ty "list") (by rfl) T.list boot_list rfl) qa_nil))))) (qw_or1 (qt_cmpR (op_eqN (hu0 hr)) (qv 4) (qe_lst qa_nil) (nomark _))))) (qb_one (qs_ret qe_bl)) qb_nil)
      (qb_one (qs_for PassesOwn.never rfl (qi_range1 rfl T.range (qa_cn (qe_callB call_len_seq (by rfl) T.len PySem.boot_len (qa_cn (qv 4) qa_nil)) qa_nil)) (qg_name (i := 5) sc_parted.nd rfl (Or.inl rfl)) (qb_cn (qs_set (i := 6) sc_parted.nd rfl (Or.inl rfl) (qe_callB call_len_seq (by rfl) T.len PySem.boot_len (qa_cn (qv 3) qa_nil)))
      (qb_cn (qs_if (qw_pt (qw_or (qt_cmpR op_ge (qv 6) (qe_callB call_len_seq (by rfl) T.len PySem.boot_len (qa_cn (qv 1) qa_nil)) (nomark _)) (qw_or (qt_cmpR (op_neTs (hu0 hr)) (qe_ix ix_list (qv 4) (qv 5) (fun _ _ => rfl)) (qe_ix ix_list (qv 1) (qv 6) (fun _ _ => rfl)) (nomark _)) (qw_or1 (qt_not (qt_val (qe_callB call_isinst (by rfl) T.isinstance boot_isinstance (qa_cn (qe_ix ix_list (qv 4) (qv 5) (fun _ _ => rfl)) (qa_cn (qe_bltn (v := .ty "tuple") (by rfl) T.tuple boot_tuple rfl) qa_nil))))))))) (qb_one (qs_ret qe_bl)) qb_nil)
      (qb_cn (qs_set (i := 7) sc_parted.nd rfl (Or.inl rfl) (qe_and (qe_cmpR op_gt (qv 6) qe_int (nomark _)) (qe_one (qe_cmpR op_gt (qe_op op_sub (qe_ix ix_tup (qe_ix ix_tup (qe_ix ix_list (qv 1) (qv 6) (fun _ _ => rfl)) qe_int (fun _ _ => rfl)) qe_int (fun _ _ => rfl)) (qe_ix ix_tup (qe_ix ix_tup (qe_ix ix_list (qv 1) (qe_op op_sub (qv 6) qe_int) (fun _ _ => rfl)) qe_int (fun _ _ => rfl)) qe_int (fun _ _ => rfl))) (qv 2) (nomark _)))))
      (qb_cn (qs_if (qw_pt (qw_and (qt_cmpR op_gt (qv 6) qe_int (nomark _)) (qw_and1 (qt_cmpR op_ne (qv 7) (qe_cmpR op_eq (qv 5) qe_int (nomark _)) (nomark _))))) (qb_one (qs_ret qe_bl)) qb_nil)
      (qb_one (qs_expr (qe_bm PySem.F.plainAttrs_list PySem.F.slot_list_append PySem.F.type_list_append mt_append (qv 3) (qa_cn (qe_ix ix_list (qv 4) (qv 5) (fun _ _ => rfl)) qa_nil))))))))))))
      (qb_one (qs_ret (qe_cmpR (op_eqSelf (hu0 hr)) (qv 3) (qv 1) (nomark _)))))))
    (with_reducible refine ⟨_, hqq.p, ?_⟩)
    refine ⟨_, rfl, .ref pa, "list", .type "list", true, rfl, .lst li.top, rfl, _, rfl, iteF ⟨Nat.zero_le _, fun la hla => ?_⟩⟩
    have s0 := Same.new (.lst []) hla
    refine ⟨_, rfl, pa, rfl, ⟨_, SqL.of (s0 _ _ li.top)⟩, ?_⟩
    refine for_list (K := K) (a := pa) (xs := ls.map V.ref) (fun m σ H' => ∃ o4 o5 o6 o7, σ = [some (.ref pa), some (.ref lr), some (.int gap), some (.ref la), o4, o5, o6, o7] ∧ H' la = some (.lst ((es.take (flat (gs.take m)).length).map (·.1))) ∧ Same H H') ⟨none, none, none, none, rfl, upd_same, s0⟩ (fun m σ H' _ ⟨_, _, _, _, _, _, s'⟩ => SqL.of (s' _ _ li.top)) ?_ ?_
    · rintro m y σ H1 hy ⟨o4, o5, o6, o7, rfl, hl1, s1⟩
      rw [List.getElem?_map] at hy
      obtain ⟨l, hl, rfl⟩ := Option.map_eq_some_iff.mp hy
      have hm : m < gs.length := by rw [← li.len]; exact (List.getElem?_eq_some_iff.mp hl).1
      obtain ⟨g, hg⟩ : ∃ g, gs[m]? = some g := ⟨_, List.getElem?_eq_getElem hm⟩
      have hgl := li.at_ m l g hl hg
      have g0 := gne g (List.mem_of_getElem? hg)
      have gl := s1 _ _ hgl
      refine ⟨_, rfl, .ref l, "list", .type "list", true, rfl, .lst gl, rfl, _, rfl, iteF ⟨_, rfl, Nat.zero_le _, fun e he => ?_⟩⟩
      have s2 := Same.new (.lst []) he
      refine ⟨l, e, _, rfl, rfl, SqL.of (s2 _ _ gl), SqL.of upd_same, _, rfl, ?_⟩
      have ge : (g.map (·.1)).isEmpty = false := by
        cases g with
        | nil => exact absurd rfl g0
        | cons _ _ => rfl
      rw [ge]
      refine iteF ?_
      have n0 : ∃ n, n = (flat (gs.take m)).length := ⟨_, rfl⟩
      obtain ⟨n, hn⟩ := n0
      rw [← hn] at hl1
      have s12 := s1.trans s2
      have lg : (g.map (·.1)).length ≤ 4000 := by
        have h1 := flat_step hg
        have h2 : (flat (gs.take (m + 1))).length ≤ (flat gs).length := by
          have : flat gs = flat (gs.take (m + 1)) ++ flat (gs.drop (m + 1)) := by
            unfold flat
            rw [← List.flatMap_append, List.take_append_drop]
          rw [this, List.length_append]
          omega
        have h3 : (flat gs).length = es.length := by rw [← fl, List.length_map]
        rw [List.length_map]
        omega
      refine ⟨_, rfl, l, _, rfl, .inl (SqL.of (s12 _ _ hgl)), _, rfl, by omega, by omega, for_range (n := (g.map (fun x : Row => x.1)).length) (fun k σ H' => ∃ o5 o6 o7, σ = [some (.ref pa), some (.ref lr), some (.int gap), some (.ref la), some (.ref l), o5, o6, o7] ∧ H' la = some (.lst ((es.take (n + k)).map (·.1))) ∧ Same H H') ⟨_, _, _, rfl, s2 _ _ hl1, s12⟩ ?_ ?_⟩
      · rintro k' σ H3 hk' ⟨o5, o6, o7, rfl, hl3, s3⟩
        have hk : k' < g.length := by rw [List.length_map] at hk'; exact hk'
        obtain ⟨⟨x1, mx⟩, hx⟩ : ∃ x, g[k']? = some x := ⟨_, List.getElem?_eq_getElem hk⟩
        have fa := flat_at hg hx
        rw [← hn] at fa
        have ea : es[n + k']? = some (x1, mx) := by rw [← fl, List.getElem?_map, fa]; rfl
        have lt : n + k' < es.length := (List.getElem?_eq_some_iff.mp ea).1
        obtain ⟨a, b, tv, z, v, ex, ⟨ha, pl⟩, hb⟩ := (mo _ (List.mem_of_getElem? ea)).mono (Same.tups s3)
        have ex : x1 = .ref a := ex
        subst ex
        have hb : H3 b = some (.tup [.int mx, .str z, .int v]) := hb
        have el : ((es.take (n + k')).map (·.1)).length = n + k' := by rw [List.length_map, List.length_take]; omega
        have hlr3 := s3 _ _ hlr
        have ek : atI (g.map (·.1)) (0 + (k' : Int)) = some (.ref a) := by rw [Int.zero_add]; exact atI_nat (by rw [List.getElem?_map, hx]; rfl)
        have er : atI (es.map (·.1)) ((n + k' : Nat) : Int) = some (.ref a) := atI_nat (by rw [List.getElem?_map, ea]; rfl)
        have small3 : ((es.take (n + k')).map (·.1)).length < sizeLine := by rw [el]; exact Nat.lt_of_lt_of_le lt (Nat.le_trans le (by decide))
        have grown : (upd H3 la (.lst ((es.take (n + k')).map (·.1) ++ [.ref a]))) la = some (.lst ((es.take (n + (k' + 1))).map (·.1))) := by
          rw [upd_same, show n + (k' + 1) = n + k' + 1 from rfl, List.take_add_one, ea, List.map_append]
          rfl
        have sgrown : Same H (upd H3 la (.lst ((es.take (n + k')).map (·.1) ++ [.ref a]))) := fun b' o' e' => by
          rw [upd_ne (ne_of_none e' hla)]
          exact s3 _ _ e'
        refine ⟨_, rfl, la, _, rfl, .inl (SqL.of hl3), ?_⟩
        rw [el]
        refine ⟨_, rfl, _, rfl, lr, _, rfl, .inl (SqL.of hlr3), _, _, rfl, rfl, _, rfl, ?_⟩
        rw [decide_eq_false (show ¬ (((es.map (·.1)).length : Nat) : Int) ≤ ((n + k' : Nat) : Int) by rw [List.length_map]; omega)]
        refine iteF ⟨_, rfl, _, rfl, l, _, _, _, rfl, rfl, SqL.of (s3 _ _ hgl), ek, _, rfl, _, rfl, lr, _, _, _, rfl, rfl, SqL.of hlr3, er, a, _, rfl, rfl, SqT.of ha, ?_, _, rfl, iteF ?_⟩
        · show (plainV tv && (true && true)) = true
          rw [pl]
          rfl
        refine ⟨_, rfl, _, rfl, l, _, _, _, rfl, rfl, SqL.of (s3 _ _ hgl), ek, .ref a, "tuple", .type "tuple", true, rfl, .tup ha, rfl, _, rfl, iteF ?_⟩
        by_cases z0 : n + k' = 0
        · refine ⟨_, rfl, _, _, rfl, rfl, _, rfl, ?_⟩
          have d0 : decide ((0 : Int) < ((n + k' : Nat) : Int)) = false := decide_eq_false (by omega)
          rw [d0]
          refine iteF ⟨_, rfl, _, _, rfl, rfl, _, rfl, ?_⟩
          rw [d0]
          exact iteF (iteF ⟨_, rfl, .inl ⟨rfl, _, SqL.of hl3⟩, _, rfl, _, rfl, l, _, _, _, rfl, rfl, SqL.of (s3 _ _ hgl), ek, la, _, _, rfl, rfl, hl3, small3, _, _, _, rfl, grown, sgrown⟩)
        · refine ⟨_, rfl, _, _, rfl, rfl, _, rfl, ?_⟩
          have d0 : decide ((0 : Int) < ((n + k' : Nat) : Int)) = true := decide_eq_true (by omega)
          rw [d0]
          obtain ⟨j, hj⟩ : ∃ j, n + k' = j + 1 := ⟨n + k' - 1, by omega⟩
          have lff : (flat gs).length = es.length := by rw [← fl, List.length_map]
          obtain ⟨⟨⟨y1, my⟩, bm⟩, hy1⟩ : ∃ q, (flat gs)[j]? = some q := ⟨_, List.getElem?_eq_getElem (by omega)⟩
          have gg : decide (k' = 0) = decide (gap < mx - my) := gd j _ _ hy1 (by rw [← hj]; exact fa)
          have ey : es[j]? = some (y1, my) := by rw [← fl, List.getElem?_map, hy1]; rfl
          obtain ⟨a', b', tv', z', v', ex', ⟨ha', pl'⟩, hb'⟩ := (mo _ (List.mem_of_getElem? ey)).mono (Same.tups s3)
          have ex' : y1 = .ref a' := ex'
          subst ex'
          have hb' : H3 b' = some (.tup [.int my, .str z', .int v']) := hb'
          have er' : atI (es.map (·.1)) (((n + k' : Nat) : Int) - 1) = some (.ref a') := by
            rw [hj, show (((j + 1 : Nat) : Int) - 1) = ((j : Nat) : Int) by omega]
            exact atI_nat (by rw [List.getElem?_map, ey]; rfl)
          refine iteT ⟨_, rfl, _, rfl, lr, _, _, _, rfl, rfl, SqL.of hlr3, er, a, _, 1, _, rfl, rfl, SqT.of ha, rfl, b, _, 0, _, rfl, rfl, SqT.of hb, rfl, _, rfl, _, rfl, _, _, rfl, rfl, lr, _, _, _, rfl, rfl, SqL.of hlr3, er', a', _, 1, _, rfl, rfl, SqT.of ha', rfl, b', _, 0, _, rfl, rfl, SqT.of hb', rfl, _, _, rfl, rfl, _, rfl, _, _, rfl, rfl, ?_⟩
          refine ⟨_, rfl, _, _, rfl, rfl, _, rfl, ?_⟩
          rw [d0]
          refine iteT ⟨_, rfl, _, rfl, rfl, rfl, _, rfl, ?_⟩
          have e0 : decide (V.int (0 + (k' : Int)) = V.int 0) = decide (k' = 0) := by
            rw [dec_int, Bool.eq_iff_iff]
            simp
          show (if (!decide (V.bl (decide (gap < mx - my)) = V.bl (decide (V.int (0 + (k' : Int)) = V.int 0)))) = true then _ else _)
          rw [e0, gg, decide_eq_true rfl]
          exact iteF ⟨_, rfl, .inl ⟨rfl, _, SqL.of hl3⟩, _, rfl, _, rfl, l, _, _, _, rfl, rfl, SqL.of (s3 _ _ hgl), ek, la, _, _, rfl, rfl, hl3, small3, _, _, _, rfl, grown, sgrown⟩
      · rintro σ H3 ⟨o5, o6, o7, rfl, hl3, s3⟩
        refine ⟨_, _, _, _, rfl, ?_, s3⟩
        rw [flat_step hg, ← hn]
        rw [List.length_map] at hl3
        exact hl3
    · rintro σ H1 ⟨o4, o5, o6, o7, rfl, hl1, s1⟩
      rw [List.length_map, li.len, List.take_length] at hl1
      have lf : (flat gs).length = es.length := by rw [← fl, List.length_map]
      rw [lf, List.take_length] at hl1
      refine ⟨_, rfl, _, rfl, la, lr, _, rfl, rfl, SqL.of hl1, SqL.of (s1 _ _ hlr), ?_, k H1 s1⟩
      refine List.all_eq_true.mpr fun x hx => ?_
      obtain ⟨e, he, rfl⟩ := List.mem_map.mp hx
      obtain ⟨a, b, tv, z, v, ea, _⟩ := mo e he
      rw [ea]
      rfl
end
end K51
end
section
set_option Elab.async false
set_option linter.all false
set_option maxRecDepth 100000
set_option maxHeartbeats 4000000
namespace K51
open PySem L2 PyProof.Rows
def spLaw (K : PySem.W.Frag) : Sp := fun vs H Q _ => ∃ (a : Addr) (ns : List Int), vs = [.ref a] ∧ SqL K H a (ns.map V.int) ∧ ns.length ≤ 63 ∧ ∀ H', Q (.bl true) H'
theorem But.same {p : Addr} {H H1 H2 : Hp} (s : Same H H1) (hp : H p = none) (b : But p H1 H2) : Same H H2 := fun x o e => b x o (s x o e) (ne_of_none e hp)
theorem Hand.but {H H' : Hp} {p c r : Addr} (h : Hand H p c) (n1 : p ≠ r) (n2 : c ≠ r) (b : But r H H') : Hand H' p c := by
  obtain ⟨d, n, cs, hp, hc, h0⟩ := h
  exact ⟨d, n, cs, b _ _ hp n1, b _ _ hc n2, h0⟩
theorem Hand.ncr {H : Hp} {p c r : Addr} (h : Hand H p c) (e : H r = none) : p ≠ r ∧ c ≠ r := ⟨Ne.symm (h.nef e), Ne.symm (h.nec e)⟩
theorem of_two {r a b : Int} (h0 : 0 ≤ r) (h1 : r < 2) : ∃ z, atI [V.int a, .int b] r = some (.int z) := by
  have : r = 0 ∨ r = 1 := by omega
  rcases this with rfl | rfl
  · exact ⟨a, rfl⟩
  · exact ⟨b, rfl⟩
theorem rows_plain {H : Hp} {es : List Row} (mo : ∀ e ∈ es, Mo H e) : (es.map (·.1)).all plainV = true := by
  refine List.all_eq_true.mpr fun x hx => ?_
  obtain ⟨e, he, rfl⟩ := List.mem_map.mp hx
  obtain ⟨a, b, tv, z, v, ea, _⟩ := mo e he
  rw [ea]
  rfl
section
variable {P : Program} {w : World} {K : PySem.W.Frag} {mg : Str → Option Value} {base : Heap} {f : Addr} {fd : FuncData}
theorem ok_law (L : Lk K mg "law" s_law ["_law_script"] f fd) (T : Txt mg) (C__law_open : Callee P w K mg base "_law_open" ["_law_script", "_law_place"] 1 (spOpen K)) (C__law_draw : Callee P w K mg base "_law_draw" ["_law_hand", "_law_many"] 1 spDraw) (C__law_scale : Callee P w K mg base "_law_scale" ["_law_hand"] 2 spScale) (C__law_gap : Callee P w K mg base "_law_gap" ["_law_hand", "_law_scale_here"] 2 spGap)
    (C__law_rows : Callee P w K mg base "_law_rows" ["_law_hand", "_law_scale_here", "_law_gap_here"] 8 spRows) (C_stretches : Callee P w K mg base "stretches" ["rows", "gap"] 1 spStr) (C__law_parted : Callee P w K mg base "_law_parted" ["_law_told", "_law_rows_here", "_law_gap_here"] 1 spParted) : FnOk P w K mg base CX0 9 f fd ["_law_script"] (spLaw K) := by
  refine L.F.ok sc_law (fun vs H Q E h => ?_) (fun cdv A outer s H vs Q E hr h => ?_)
  · obtain ⟨a, ns, rfl, _⟩ := h
    rfl
  · obtain ⟨sa, ns, rfl, hS, hn, k⟩ := h
    have hqq : QB ((cxOf CX0 P w K mg base ["_law_script", "_law_hand", "_law_scale_here", "_law_gap_here", "_law_rows_here", "_law_handed", "_law_told", "_law_second", "_law_other", "_law_some"] "law" (defScope s_law) f cdv A outer s H E).nox) (defBody s_law) _ := (qb_cn (qs_set (i := 1) sc_law.nd rfl (Or.inl rfl) (qe_callee C__law_open (hr.mono (by first | decide | omega)) (by rfl) (qa_cn (qv 0) (qa_cn qe_int qa_nil))))
      (qb_cn (qs_set (i := 2) sc_law.nd rfl (Or.inl rfl) (qe_callee C__law_scale (hr.mono (by first | decide | omega)) (by rfl) (qa_cn (qv 1) qa_nil)))
      (qb_cn (qs_set (i := 3) sc_law.nd rfl (Or.inl rfl) (qe_callee C__law_gap (hr.mono (by first | decide | omega)) (by rfl) (qa_cn (qv 1) (qa_cn (qv 2) qa_nil))))
      (qb_cn (qs_set (i := 4) sc_law.nd rfl (Or.inl rfl) (qe_callee C__law_rows (hr.mono (by first | decide | omega)) (by rfl) (qa_cn (qe_callee C__law_open (hr.mono (by first | decide | omega)) (by rfl) (qa_cn (qv 0) (qa_cn qe_int qa_nil))) (qa_cn (qv 2) (qa_cn (qv 3) qa_nil)))))
      (qb_cn (qs_set (i := 5) sc_law.nd rfl (Or.inl rfl) (qe_callTy call_list_of (by rfl) T.list boot_list (qa_cn (qv 4) qa_nil)))
      (qb_cn (qs_set (i := 6) sc_law.nd rfl (Or.inl rfl) (qe_callee C_stretches (hr.mono (by first | decide | omega)) (by rfl) (qa_cn (qv 5) (qa_cn (qv 3) qa_nil))))
      (qb_cn (qs_if (qw_pt (qw_or (qt_not (qt_val (qe_callee C__law_parted (hr.mono (by first | decide | omega)) (by rfl) (qa_cn (qv 6) (qa_cn (qv 4) (qa_cn (qv 3) qa_nil)))))) (qw_or1 (qt_cmpR (op_neSelf (hu0 hr)) (qv 5) (qv 4) (nomark _))))) (qb_one (qs_ret qe_bl)) qb_nil)
      (qb_cn (qs_set (i := 7) sc_law.nd rfl (Or.inl rfl) (qe_ix ix_list (qe_lst (qa_cn (qe_callB (call_min2 rfl) (by rfl) T.min boot_min (qa_cn (qe_op op_add (qv 3) qe_int) (qa_cn (qe_op op_pow qe_int qe_int) qa_nil))) (qa_cn (qe_callB (call_max2 rfl) (by rfl) T.max boot_max (qa_cn (qe_op op_sub (qv 3) qe_int) (qa_cn qe_int qa_nil))) qa_nil))) (qe_callee C__law_draw (hr.mono (by first | decide | omega)) (by rfl) (qa_cn (qv 1) (qa_cn qe_int qa_nil))) (fun _ _ => rfl)))
      (qb_cn (qs_set (i := 8) sc_law.nd rfl (Or.inl rfl) (qe_callee C_stretches (hr.mono (by first | decide | omega)) (by rfl) (qa_cn (qv 5) (qa_cn (qv 7) qa_nil))))
      (qb_cn (qs_if (qt_not (qt_val (qe_callee C__law_parted (hr.mono (by first | decide | omega)) (by rfl) (qa_cn (qv 8) (qa_cn (qv 4) (qa_cn (qv 7) qa_nil)))))) (qb_one (qs_ret qe_bl)) qb_nil)
      (qb_cn (qs_for PassesOwn.never rfl (qi_list (qv 8)) (qg_name (i := 9) sc_law.nd rfl (Or.inl rfl)) (qb_one (qs_expr (qe_bm0 PySem.F.plainAttrs_list PySem.F.slot_list_clear PySem.F.type_list_clear mt_clear (qv 9)))))
      (qb_cn (qs_expr (qe_bm0 PySem.F.plainAttrs_list PySem.F.slot_list_clear PySem.F.type_list_clear mt_clear (qv 8)))
      (qb_cn (qs_expr (qe_bm0 PySem.F.plainAttrs_list PySem.F.slot_list_clear PySem.F.type_list_clear mt_clear (qv 5)))
      (qb_one (qs_ret (qe_and (qe_callee C__law_parted (hr.mono (by first | decide | omega)) (by rfl) (qa_cn (qv 6) (qa_cn (qv 4) (qa_cn (qv 3) qa_nil)))) (qe_one (qe_cmpR (op_eqN (hu0 hr)) (qe_callee C_stretches (hr.mono (by first | decide | omega)) (by rfl) (qa_cn (qe_lst qa_nil) (qa_cn (qv 7) qa_nil))) (qe_lst qa_nil) (nomark _)))))))))))))))))))
    (with_reducible refine ⟨_, hqq.p, ?_⟩)
    refine ⟨_, rfl, sa, ns, 0, rfl, hS, hn, by decide, by decide, fun p pc H1 hp h1 s1 => ?_⟩
    refine ⟨_, rfl, p, pc, rfl, h1, fun q b sc H2 hq0 hq sc1 sc2 h2 b2 => ?_⟩
    have nq : q ≠ p := h1.nef hq0
    refine ⟨_, rfl, _, rfl, p, pc, q, b, sc, rfl, h2, hq, nq, sc1, sc2, fun gap H3 g0 g1 h3 b3 => ?_⟩
    have hq3 := b3 _ _ hq nq
    have s3 : Same H H3 := But.same (But.same s1 hp b2) hp b3
    refine ⟨_, rfl, sa, ns, 1, rfl, s3.seq hS, hn, by decide, by decide, fun p2 c2 H4 hp2 h4 s4 => ?_⟩
    refine ⟨_, rfl, _, rfl, p2, c2, q, b, sc, gap, rfl, h4, s4 _ _ hq3, ne_of_none hq3 hp2, sc1, sc2, fun lr es H5 hlr0 hlr mo les b5 => ?_⟩
    have h5 : Hand H5 p pc := (h3.same s4).but (h3.ncr hp2).1 (h3.ncr hp2).2 b5
    have nlr : lr ≠ p := (h3.same s4).nef hlr0
    refine ⟨_, rfl, lr, _, rfl, .inl (SqL.of hlr), fun lh hlh => ?_⟩
    have s6 := Same.new (.lst (es.map (·.1))) hlh
    have nlh : lh ≠ p := h5.nef hlh
    have nrh : lr ≠ lh := ne_of_none hlr hlh
    have hlh6 : (upd H5 lh (.lst (es.map (·.1)))) lh = some (.lst (es.map (·.1))) := upd_same
    have hlr6 := s6 _ _ hlr
    have mo6 := fun e he => (mo e he).mono (Same.tups s6)
    have h6 := h5.same s6
    generalize upd H5 lh (.lst (es.map (·.1))) = H6 at s6 hlh6 hlr6 mo6 h6 ⊢
    refine ⟨_, rfl, _, rfl, lh, es, gap, rfl, hlh6, mo6, by omega, fun pa ls gs H7 ps s7 gne fl gd => ?_⟩
    have mo7 := fun e he => (mo6 e he).mono (Same.tups s7)
    refine ⟨_, rfl, _, rfl, _, rfl, pa, lr, gap, ls, gs, es, rfl, ⟨ps.top, ps.len, ps.at_⟩, gne, s7 _ _ hlr6, fl, gd, mo7, by omega, fun H8 s8 => ⟨_, rfl, iteF ?_⟩⟩
    have s78 := s7.trans s8
    refine ⟨_, rfl, _, rfl, lh, lr, _, rfl, rfl, SqL.of (s78 _ _ hlh6), SqL.of (s78 _ _ hlr6), rows_plain mo7, _, rfl, iteF ?_⟩
    refine ⟨_, rfl, _, _, rfl, rfl, _, _, rfl, rfl, ⟨by decide, by decide, by decide⟩, _, _, rfl, _, rfl, _, _, rfl, rfl, _, _, rfl, by show 2 ≤ sizeLine; decide, fun e he => ?_⟩
    have h8 := h6.same s78
    refine ⟨_, rfl, p, pc, 2, rfl, h8.new _ he, by decide, by decide, fun r H9 r0 r1 h9 b9 => ?_⟩
    obtain ⟨second, ez⟩ := of_two (a := (if (10 : Int) ^ (Int.toNat 6) < gap + 1 then (10 : Int) ^ (Int.toNat 6) else gap + 1)) (b := (if (0 : Int) > gap - 1 then 0 else gap - 1)) r0 r1
    have b89 : But p H8 H9 := (But.new _ he).trans b9
    refine ⟨e, _, _, _, rfl, rfl, SqL.of (b9 _ _ upd_same (h8.nef he)), ez, ?_⟩
    have npa : pa ≠ p := h6.nef ps.new
    have nla : ∀ l ∈ ls, l ≠ p := fun l hl => h6.nef (ps.frs l hl)
    have lie9 : Lies H9 pa ls gs := ⟨b89 _ _ (s8 _ _ ps.top) npa, ps.len, fun i l g x1 x2 => b89 _ _ (s8 _ _ (ps.at_ i l g x1 x2)) (nla l (List.mem_of_getElem? x1))⟩
    have hlh9 := b89 _ _ (s78 _ _ hlh6) nlh
    have hlr9 := b89 _ _ (s78 _ _ hlr6) nlr
    have t9 : Tups H6 H9 := fun t l e => (h8.tups b89) t l (s78 _ _ e)
    have mo9 := fun e he => (mo6 e he).mono t9
    refine ⟨_, rfl, _, rfl, lh, es, second, rfl, hlh9, mo9, by omega, fun pb ls2 gs2 H10 ps2 s10 gne2 fl2 gd2 => ?_⟩
    have mo10 := fun e he => (mo9 e he).mono (Same.tups s10)
    refine ⟨_, rfl, _, rfl, _, rfl, pb, lr, second, ls2, gs2, es, rfl, ⟨ps2.top, ps2.len, ps2.at_⟩, gne2, s10 _ _ hlr9, fl2, gd2, mo10, by omega, fun H11 s11 => ⟨_, rfl, iteF ?_⟩⟩
    have s911 := s10.trans s11
    refine ⟨_, rfl, pb, rfl, ⟨_, SqL.of (s11 _ _ ps2.top)⟩, ?_⟩
    refine for_list (K := K) (a := pb) (xs := ls2.map V.ref) (fun m σ H' => ∃ o9, σ = [some (.ref sa), some (.ref p), some (.ref q), some (.int gap), some (.ref lr), some (.ref lh), some (.ref pa), some (.int second), some (.ref pb), o9] ∧ H' pb = some (.lst (ls2.map V.ref)) ∧ (∀ l ∈ ls2, ∃ xs, H' l = some (.lst xs)) ∧ Same H9 H') ⟨none, rfl, s11 _ _ ps2.top, fun l hl => ?_, s911⟩ (fun m σ H' _ ⟨_, _, t', _⟩ => SqL.of t') ?_ ?_
    · obtain ⟨i, hi, el⟩ := List.mem_iff_getElem.mp hl
      have e1 : ls2[i]? = some l := by rw [List.getElem?_eq_getElem hi, el]
      have e2 : gs2[i]? = some (gs2[i]'(by rw [← ps2.len]; exact hi)) := List.getElem?_eq_getElem _
      exact ⟨_, s11 _ _ (ps2.at_ i l _ e1 e2)⟩
    · rintro m y σ H12 hy ⟨o9, rfl, t12, a12, s12⟩
      rw [List.getElem?_map] at hy
      obtain ⟨l, hl, rfl⟩ := Option.map_eq_some_iff.mp hy
      have ml := List.mem_of_getElem? hl
      obtain ⟨xs, hxs⟩ := a12 l ml
      have nb : pb ≠ l := fun z => ps2.out (by rw [z]; exact ml)
      refine ⟨_, rfl, .inl ⟨rfl, _, SqL.of hxs⟩, l, _, rfl, rfl, hxs, _, rfl, by rw [upd_ne nb]; exact t12, fun l' ml' => ?_, fun b' o' e' => ?_⟩
      · by_cases z : l' = l
        · rw [z]
          exact ⟨_, upd_same⟩
        · rw [upd_ne z]
          exact a12 l' ml'
      · rw [upd_ne (ne_of_none e' (ps2.frs l ml))]
        exact s12 _ _ e'
    · rintro σ H12 ⟨o9, rfl, t12, a12, s12⟩
      have s13 : Same H9 (upd H12 pb (.lst [])) := fun b' o' e' => by
        rw [upd_ne (ne_of_none e' ps2.new)]
        exact s12 _ _ e'
      refine ⟨_, rfl, .inl ⟨rfl, _, SqL.of t12⟩, pb, _, rfl, rfl, t12, ?_⟩
      have hlh13 := s13 _ _ hlh9
      refine ⟨_, rfl, .inl ⟨rfl, _, SqL.of hlh13⟩, lh, _, rfl, rfl, hlh13, ?_⟩
      have npah : pa ≠ lh := fun z => by have := ps.new; rw [z, hlh6] at this; cases this
      have nlah : ∀ l ∈ ls, l ≠ lh := fun l hl z => by have := ps.frs l hl; rw [z, hlh6] at this; cases this
      have lie14 : Lies (upd (upd H12 pb (.lst [])) lh (.lst [])) pa ls gs := ⟨by rw [upd_ne npah]; exact s13 _ _ lie9.top, ps.len, fun i l g x1 x2 => by rw [upd_ne (nlah l (List.mem_of_getElem? x1))]; exact s13 _ _ (lie9.at_ i l g x1 x2)⟩
      have hlr14 : (upd (upd H12 pb (.lst [])) lh (.lst [])) lr = some (.lst (es.map (·.1))) := by rw [upd_ne nrh]; exact s13 _ _ hlr9
      have mo14 := fun e he => ((mo9 e he).mono (Same.tups s13)).mono (Tups.upd (ys := []) hlh13)
      refine ⟨_, rfl, _, rfl, _, rfl, pa, lr, gap, ls, gs, es, rfl, lie14, gne, hlr14, fl, gd, mo14, by omega, fun H15 s15 => ⟨_, rfl, iteT ⟨Nat.zero_le _, fun e1 he1 => ⟨_, rfl, e1, [], second, rfl, upd_same, (fun _ z => nomatch z), Nat.zero_le _, fun pc' ls3 gs3 H16 ps3 s16 gne3 fl3 gd3 => ⟨Nat.zero_le _, fun e2 he2 => ?_⟩⟩⟩⟩⟩
      have g3 : gs3 = [] := List.length_eq_zero_iff.mp (by
        have h1 := flat_len gne3
        have h2 := congrArg List.length fl3
        rw [List.length_map, List.length_nil] at h2
        omega)
      have l3 : ls3 = [] := List.length_eq_zero_iff.mp (by rw [ps3.len, g3]; rfl)
      have tp := ps3.top
      rw [l3] at tp
      exact ⟨pc', e2, [], rfl, rfl, SqL.of (Same.new _ he2 _ _ tp), SqL.of upd_same, k _⟩
end
end K51
end
section
set_option Elab.async false
set_option linter.all false
set_option maxRecDepth 100000
namespace K51
open PySem L2 PyProof.Rows
theorem lk_law {K : PySem.W.Frag} {h : Heap} {mg : Str → Option Value} {f : Addr} {oc : Value} {od an : Option Addr} {osl : Array (Option Value)} {kV doc pm cdv ct : Value} (X : K.In h) (G : h.Ns mainGlobals mg)
    (a : PySem.W.nsIn K mainGlobals "law" = some (some (.ref f))) (l : K.lookup f = some ⟨oc, od, .func (PySem.W.fnOf "law" "law" (defArgs s_law) (defBody s_law) (defScope s_law) .none kV doc pm an cdv ct), osl⟩)
    (c : PySem.W.codeIn K cdv "law" = true) (k : PySem.W.keepIn K (.ref f) = true) : ∃ f fd, (∀ (s : Shared) (v : Value), BindsTo s fd ⟨[v], []⟩ [("_law_script", v)]) ∧ Lk K mg "law" s_law ["_law_script"] f fd :=
  ⟨f, _, fun s v => .of_eq rfl, fun_mk l c k, PySem.W.mg_of X G a, (fun_mk l c k).binds fun _ _ _ _ _ _ us hl => match us, hl with | [_], _ => rfl⟩
theorem walk {l : PySem.W.OpenLaw} {q : Program} {loose : List Str} {XP : (Str → Option Value) → Heap → Prop} {YP : World → Heap → Prop} {d : DefRec} {K : Params → PySem.W.Frag} (hn : l.most = some 63) (hdf : d.params.defaults = [])
    (hY : ∀ (w : World) (h : Heap), YP w h → (K w.params).In h)
    (F : ∀ (w : World) (mg : Str → Option Value) (fa : Addr) (h : Heap), (K w.params).In h → h.Ns mainGlobals mg → mg d.name = some (.ref fa) →
      ∃ fd : FuncData, (∀ (s : Shared) (u : Value), BindsTo s fd ⟨[u], []⟩ [("_law_script", u)]) ∧ ∀ base : Heap, (K w.params).In base → base.Ns mainGlobals mg → FnOk l.prog w (K w.params) mg base CX0 9 fa fd ["_law_script"] (spLaw (K w.params))) :
    PySem.W.WalkO q loose XP YP l.row.toRowW d [] (fun f vs => PySem.call f vs) :=
  L2.walk_of (n := 63) (k := 9) (x := "_law_script") (CX := fun _ => CX0) (sp := fun w => spLaw (K w.params)) hn (by decide) hdf ⟨rfl, by decide, by decide⟩ hY F (fun _ _ a ns hl _ hS => ⟨a, ns, rfl, hS, hl, fun _ => rfl⟩) fun _ _ _ _ _ z => z
theorem all_ok {P : Program} {w : World} {K : PySem.W.Frag} {mg : Str → Option Value} {base : Heap} (T : Txt mg)
    (e_stretches : ∃ f fd, Lk K mg "stretches" s_stretches ["rows", "gap"] f fd)
    (e_open : ∃ f fd, Lk K mg "_law_open" s_open ["_law_script", "_law_place"] f fd)
    (e_draw : ∃ f fd, Lk K mg "_law_draw" s_draw ["_law_hand", "_law_many"] f fd)
    (e_scale : ∃ f fd, Lk K mg "_law_scale" s_scale ["_law_hand"] f fd)
    (e_gap : ∃ f fd, Lk K mg "_law_gap" s_gap ["_law_hand", "_law_scale_here"] f fd)
    (e_tag : ∃ f fd, Lk K mg "_law_tag" s_tag ["_law_shape", "_law_k"] f fd)
    (e_rank : ∃ f fd, Lk K mg "_law_rank" s_rank ["_law_tag_here"] f fd)
    (e_by_turn : ∃ f fd, Lk K mg "_law_by_turn" s_by_turn ["_law_pair"] f fd)
    (e_rows : ∃ f fd, Lk K mg "_law_rows" s_rows ["_law_hand", "_law_scale_here", "_law_gap_here"] f fd)
    (e_parted : ∃ f fd, Lk K mg "_law_parted" s_parted ["_law_told", "_law_rows_here", "_law_gap_here"] f fd)
    {f : Addr} {fd : FuncData} (L : Lk K mg "law" s_law ["_law_script"] f fd) : FnOk P w K mg base CX0 9 f fd ["_law_script"] (spLaw K) := by
  obtain ⟨_, _, L_stretches⟩ := e_stretches
  obtain ⟨_, _, L_open⟩ := e_open
  obtain ⟨_, _, L_draw⟩ := e_draw
  obtain ⟨_, _, L_scale⟩ := e_scale
  obtain ⟨_, _, L_gap⟩ := e_gap
  obtain ⟨_, _, L_tag⟩ := e_tag
  obtain ⟨_, _, L_rank⟩ := e_rank
  obtain ⟨_, _, L_by_turn⟩ := e_by_turn
  obtain ⟨_, _, L_rows⟩ := e_rows
  obtain ⟨_, _, L_parted⟩ := e_parted
  have c1 := ok_draw (P := P) (w := w) (base := base) L_draw T
  have c2 := ok_open (P := P) (w := w) (base := base) L_open T
  have c3 := ok_scale L_scale T c1
  have c4 := ok_gap L_gap T c1
  have c5 := ok_tag (P := P) (w := w) (base := base) L_tag T
  have c6 := ok_key (P := P) (w := w) (base := base) L_rank T 2
  have c7 := ok_turn L_by_turn T c6
  have c8 := ok_rows L_rows T c1 c5 c7
  have c9 := ok_str (P := P) (w := w) (base := base) L_stretches T
  have c10 := ok_parted (P := P) (w := w) (base := base) L_parted T
  exact ok_law L T c2 c1 c3 c4 c8 c9 c10
end K51
open PySem PySem.W PyProof.Rows
set_option maxRecDepth 100000 in
set_option maxHeartbeats 0 in
theorem PySem.Challenge.cw_weirmark_k51_stretches_holds : PySem.Challenge.rw_weirmark_k51_stretches.Holds := by
  w_on; o_law; k_head; (case hw => w_witness2)
  k_fill
  refine K51.walk (l := PySem.Challenge.rw_weirmark_k51_stretches) rfl rfl (fun w h Y => PySem.W.kIn_of Y) ?F
  case F =>
    intro w mg fa h KX G hmg
    have m_len : mg "len" = none := by
      refine' PySem.W.mg_none_of KX G ?a1
      (case a1 => k_is)
    have m_abs : mg "abs" = none := by
      refine' PySem.W.mg_none_of KX G ?a2
      (case a2 => k_is)
    have m_range : mg "range" = none := by
      refine' PySem.W.mg_none_of KX G ?a3
      (case a3 => k_is)
    have m_isinstance : mg "isinstance" = none := by
      refine' PySem.W.mg_none_of KX G ?a4
      (case a4 => k_is)
    have m_int : mg "int" = none := by
      refine' PySem.W.mg_none_of KX G ?a5
      (case a5 => k_is)
    have m_str : mg "str" = none := by
      refine' PySem.W.mg_none_of KX G ?a6
      (case a6 => k_is)
    have m_tuple : mg "tuple" = none := by
      refine' PySem.W.mg_none_of KX G ?a7
      (case a7 => k_is)
    have m_list : mg "list" = none := by
      refine' PySem.W.mg_none_of KX G ?a8
      (case a8 => k_is)
    have m_max : mg "max" = none := by
      refine' PySem.W.mg_none_of KX G ?a9
      (case a9 => k_is)
    have m_min : mg "min" = none := by
      refine' PySem.W.mg_none_of KX G ?a10
      (case a10 => k_is)
    have m_sorted : mg "sorted" = none := by
      refine' PySem.W.mg_none_of KX G ?a11
      (case a11 => k_is)
    have e_stretches : ∃ f fd, L2.Lk (L2.KOf KX) mg "stretches" K51.s_stretches ["rows", "gap"] f fd := by
      dsimp only [L2.KOf]
      refine' L2.lk_mk KX G ?a12 ?l12 ?c12 ?k12 ?b12
      (case a12 => k_is); (case l12 => k_is); (case c12 => k_is); (case k12 => k_is)
      (case b12 => exact fun _ _ _ _ _ _ us hl => match us, hl with | [_, _], _ => rfl)
    have e_open : ∃ f fd, L2.Lk (L2.KOf KX) mg "_law_open" K51.s_open ["_law_script", "_law_place"] f fd := by
      dsimp only [L2.KOf]
      refine' L2.lk_mk KX G ?a13 ?l13 ?c13 ?k13 ?b13
      (case a13 => k_is); (case l13 => k_is); (case c13 => k_is); (case k13 => k_is)
      (case b13 => exact fun _ _ _ _ _ _ us hl => match us, hl with | [_, _], _ => rfl)
    have e_draw : ∃ f fd, L2.Lk (L2.KOf KX) mg "_law_draw" K51.s_draw ["_law_hand", "_law_many"] f fd := by
      dsimp only [L2.KOf]
      refine' L2.lk_mk KX G ?a14 ?l14 ?c14 ?k14 ?b14
      (case a14 => k_is); (case l14 => k_is); (case c14 => k_is); (case k14 => k_is)
      (case b14 => exact fun _ _ _ _ _ _ us hl => match us, hl with | [_, _], _ => rfl)
    have e_scale : ∃ f fd, L2.Lk (L2.KOf KX) mg "_law_scale" K51.s_scale ["_law_hand"] f fd := by
      dsimp only [L2.KOf]
      refine' L2.lk_mk KX G ?a15 ?l15 ?c15 ?k15 ?b15
      (case a15 => k_is); (case l15 => k_is); (case c15 => k_is); (case k15 => k_is)
      (case b15 => exact fun _ _ _ _ _ _ us hl => match us, hl with | [_], _ => rfl)
    have e_gap : ∃ f fd, L2.Lk (L2.KOf KX) mg "_law_gap" K51.s_gap ["_law_hand", "_law_scale_here"] f fd := by
      dsimp only [L2.KOf]
      refine' L2.lk_mk KX G ?a16 ?l16 ?c16 ?k16 ?b16
      (case a16 => k_is); (case l16 => k_is); (case c16 => k_is); (case k16 => k_is)
      (case b16 => exact fun _ _ _ _ _ _ us hl => match us, hl with | [_, _], _ => rfl)
    have e_tag : ∃ f fd, L2.Lk (L2.KOf KX) mg "_law_tag" K51.s_tag ["_law_shape", "_law_k"] f fd := by
      dsimp only [L2.KOf]
      refine' L2.lk_mk KX G ?a17 ?l17 ?c17 ?k17 ?b17
      (case a17 => k_is); (case l17 => k_is); (case c17 => k_is); (case k17 => k_is)
      (case b17 => exact fun _ _ _ _ _ _ us hl => match us, hl with | [_, _], _ => rfl)
    have e_rank : ∃ f fd, L2.Lk (L2.KOf KX) mg "_law_rank" K51.s_rank ["_law_tag_here"] f fd := by
      dsimp only [L2.KOf]
      refine' L2.lk_mk KX G ?a18 ?l18 ?c18 ?k18 ?b18
      (case a18 => k_is); (case l18 => k_is); (case c18 => k_is); (case k18 => k_is)
      (case b18 => exact fun _ _ _ _ _ _ us hl => match us, hl with | [_], _ => rfl)
    have e_by_turn : ∃ f fd, L2.Lk (L2.KOf KX) mg "_law_by_turn" K51.s_by_turn ["_law_pair"] f fd := by
      dsimp only [L2.KOf]
      refine' L2.lk_mk KX G ?a19 ?l19 ?c19 ?k19 ?b19
      (case a19 => k_is); (case l19 => k_is); (case c19 => k_is); (case k19 => k_is)
      (case b19 => exact fun _ _ _ _ _ _ us hl => match us, hl with | [_], _ => rfl)
    have e_rows : ∃ f fd, L2.Lk (L2.KOf KX) mg "_law_rows" K51.s_rows ["_law_hand", "_law_scale_here", "_law_gap_here"] f fd := by
      dsimp only [L2.KOf]
      refine' L2.lk_mk KX G ?a20 ?l20 ?c20 ?k20 ?b20
      (case a20 => k_is); (case l20 => k_is); (case c20 => k_is); (case k20 => k_is)
      (case b20 => exact fun _ _ _ _ _ _ us hl => match us, hl with | [_, _, _], _ => rfl)
    have e_parted : ∃ f fd, L2.Lk (L2.KOf KX) mg "_law_parted" K51.s_parted ["_law_told", "_law_rows_here", "_law_gap_here"] f fd := by
      dsimp only [L2.KOf]
      refine' L2.lk_mk KX G ?a21 ?l21 ?c21 ?k21 ?b21
      (case a21 => k_is); (case l21 => k_is); (case c21 => k_is); (case k21 => k_is)
      (case b21 => exact fun _ _ _ _ _ _ us hl => match us, hl with | [_, _, _], _ => rfl)
    have e_law : ∃ f fd, (∀ (s : Shared) (v : Value), BindsTo s fd ⟨[v], []⟩ [("_law_script", v)]) ∧ L2.Lk (L2.KOf KX) mg "law" K51.s_law ["_law_script"] f fd := by
      dsimp only [L2.KOf]
      refine' K51.lk_law KX G ?a22 ?l22 ?c22 ?k22
      (case a22 => k_is); (case l22 => k_is); (case c22 => k_is); (case k22 => k_is)
    obtain ⟨f0, fd0, bd, L0⟩ := e_law
    have e0 := hmg.symm.trans L0.m
    cases e0
    exact ⟨fd0, bd, fun base _ _ => K51.all_ok ⟨m_len, m_abs, m_range, m_isinstance, m_int, m_str, m_tuple, m_list, m_max, m_min, m_sorted⟩  e_stretches e_open e_draw e_scale e_gap e_tag e_rank e_by_turn e_rows e_parted L0⟩
end
