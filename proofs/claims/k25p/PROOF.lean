import PyProof.Rows.All
import Wide.All
import OpenK.AllK
import Wide.FinOn
import Lean
import PyProof.EqAt
import PyProof.EqKinds
import PyProof.TupleCall
import KE.KRevSl
import KE.KIntText
import KE.KIsAll
import PyProof.Rows.SetFrom
import PyProof.ZipIter
import PyProof.Rows.ZipGen
import PyProof.Rows.SortShell
import PySem.Challenge.RW_weirmark_k25_what_is_trimmed
set_option Elab.async false
set_option linter.all false
set_option maxRecDepth 100000
section
set_option Elab.async false
set_option linter.all false
set_option maxRecDepth 100000
namespace L2
open PySem PySem.Spec PyProof.Rows
abbrev Key := Sum Int Str
def keyIs : Key → Value → Bool
  | .inl k, v => Value.isInt k v
  | .inr x, v => Value.isStrOf x v
def keyH (w : World) : Key → Int
  | .inl k => hashInt k
  | .inr x => hashStr w x
theorem keyIs_shape : ∀ {k : Key} {v : Value}, keyIs k v = true → (∃ i t, k = Sum.inl i ∧ v = Value.int i t) ∨ (∃ x t, k = Sum.inr x ∧ v = Value.str x t)
  | .inl i, v, h => by
    obtain ⟨t, e⟩ := Value.isInt_shape (k := i) (v := v) h
    exact .inl ⟨i, t, rfl, e⟩
  | .inr x, v, h => by
    obtain ⟨t, e⟩ := Value.isStrOf_shape (x := x) (v := v) h
    exact .inr ⟨x, t, rfl, e⟩
theorem key_ll (a b : Int) : decide ((Sum.inl a : Key) = Sum.inl b) = (a == b) := by
  by_cases e : a = b
  · subst e; simp
  · have h : ¬ (Sum.inl a : Key) = Sum.inl b := fun q => e (Sum.inl.inj q)
    rw [decide_eq_false h]
    exact (beq_eq_false_iff_ne.mpr e).symm
theorem key_rr (a b : Str) : decide ((Sum.inr a : Key) = Sum.inr b) = decide (a = b) := by
  by_cases e : a = b
  · subst e; simp
  · have h : ¬ (Sum.inr a : Key) = Sum.inr b := fun q => e (Sum.inr.inj q)
    rw [decide_eq_false h, decide_eq_false e]
theorem key_lr (a : Int) (b : Str) : decide ((Sum.inl a : Key) = Sum.inr b) = false := decide_eq_false (fun q => nomatch q)
theorem key_rl (a : Str) (b : Int) : decide ((Sum.inr a : Key) = Sum.inl b) = false := decide_eq_false (fun q => nomatch q)
def mixKind (prog : Program) (w : World) : PySem.KeyKind prog w Key where
  is := keyIs
  hash := keyH w
  inj := fun v a b ha hb => by
    rcases keyIs_shape ha with ⟨i, t, rfl, rfl⟩ | ⟨x, t, rfl, rfl⟩
    · rcases keyIs_shape hb with ⟨j, u, rfl, e⟩ | ⟨y, u, rfl, e⟩
      · injection e with e1 _; rw [e1]
      · exact nomatch e
    · rcases keyIs_shape hb with ⟨j, u, rfl, e⟩ | ⟨y, u, rfl, e⟩
      · exact nomatch e
      · injection e with e1 _; rw [e1]
  byValue := fun k v h => by
    rcases keyIs_shape h with ⟨i, t, rfl, rfl⟩ | ⟨x, t, rfl, rfl⟩ <;> rfl
  pyHash := fun hv h => by
    rcases keyIs_shape hv with ⟨i, t, rfl, rfl⟩ | ⟨x, t, rfl, rfl⟩
    · exact wpAny_pyHash_int h
    · exact wpAny_pyHash_str h
  eqBool := fun hu hv h => by
    rcases keyIs_shape hu with ⟨i, t, rfl, rfl⟩ | ⟨x, t, rfl, rfl⟩
    · rcases keyIs_shape hv with ⟨j, u, rfl, rfl⟩ | ⟨y, u, rfl, rfl⟩
      · rw [key_ll] at h; exact wpAny_eqBool_int h
      · rw [key_lr] at h; exact SeqAt.EqAt.int_str i t y u _ _ _ _ h
    · rcases keyIs_shape hv with ⟨j, u, rfl, rfl⟩ | ⟨y, u, rfl, rfl⟩
      · rw [key_rl] at h; exact SeqAt.EqAt.str_int x t j u _ _ _ _ h
      · rw [key_rr] at h; exact wpAny_eqBool_str h
  «strs» := fun k x t v h => by
    rcases keyIs_shape h with ⟨i, u, rfl, e⟩ | ⟨y, u, rfl, e⟩
    · exact nomatch e
    · injection e with e1 _
      subst e1
      cases v <;> rfl
end L2
namespace L2
open PySem PySem.Spec PyProof.Rows
inductive V where
  | non | bl (b : Bool) | int (i : Int) | str (x : Str) | byt (b : Array UInt8) | flt (b : UInt64) | ref (a : Addr) | ty (n : String)
  deriving DecidableEq
def RelV : V → Value → Prop
  | .non, u => u = Value.none
  | .bl b, u => u = Value.bool b
  | .int i, u => ∃ t, u = Value.int i t
  | .str x, u => ∃ t, u = Value.str x t
  | .byt b, u => ∃ t, u = Value.bytes b t
  | .flt b, u => ∃ t, u = Value.float b t
  | .ref a, u => u = Value.ref a
  | .ty n, u => u = Value.type n
abbrev Vals : List V → List Value → Prop := Paired RelV
theorem Vals.length {xs : List V} {us : List Value} (r : Vals xs us) : xs.length = us.length := Paired.length r
theorem Vals.get : ∀ {xs : List V} {us : List Value} {i : Nat} {x : V}, Vals xs us → xs[i]? = some x → ∃ u, us[i]? = some u ∧ RelV x u
  | _, _, _, _, .nil, e => by simp at e
  | _, _, 0, _, .cons r _, e => by simp at e; subst e; exact ⟨_, rfl, r⟩
  | _, _, i + 1, x, .cons _ t, e => by
    obtain ⟨u, h1, h2⟩ := Vals.get (i := i) (x := x) t (by simpa using e)
    exact ⟨u, by simpa using h1, h2⟩
theorem Vals.set {x : V} {u : Value} (r : RelV x u) : ∀ {xs : List V} {us : List Value} (i : Nat), Vals xs us → Vals (xs.set i x) (us.set i u)
  | _, _, _, .nil => .nil
  | _, _, 0, .cons _ t => .cons r t
  | _, _, i + 1, .cons q t => .cons q (Vals.set r i t)
theorem Vals.append : ∀ {xs ys : List V} {us ws : List Value}, Vals xs us → Vals ys ws → Vals (xs ++ ys) (us ++ ws)
  | _, _, _, _, .nil, s => s
  | _, _, _, _, .cons r t, s => .cons r (Vals.append t s)
theorem Vals.take : ∀ {xs : List V} {us : List Value} (n : Nat), Vals xs us → Vals (xs.take n) (us.take n)
  | _, _, 0, _ => .nil
  | _, _, _ + 1, .nil => .nil
  | _, _, n + 1, .cons r t => .cons r (Vals.take n t)
theorem Vals.drop : ∀ {xs : List V} {us : List Value} (n : Nat), Vals xs us → Vals (xs.drop n) (us.drop n)
  | _, _, 0, r => r
  | _, _, _ + 1, .nil => .nil
  | _, _, n + 1, .cons _ t => Vals.drop n t
def RelO : Option V → Option Value → Prop
  | some v, some u => RelV v u
  | none, none => True
  | _, _ => False
def KV {κ : Type} : List (κ × V) → List (κ × Value) → Prop := Paired fun (p : κ × V) (q : κ × Value) => p.1 = q.1 ∧ RelV p.2 q.2
def kV : Key → V
  | .inl i => .int i
  | .inr x => .str x
inductive HO where
  | lst (xs : List V)
  | tup (xs : List V)
  | dK (kvs : List (Key × V)) | dT (kvs : List (List Key × V))
  | set (S : Int → Bool) (n : Nat)
  | ins (C dx : Addr) (fs : List (Str × V))
  | own (x : Addr)
  | xd (fs : List (Str × V))
  | met (f x : Addr)
  | rng (lo hi : Int)
  | frz (o : Obj) (u : HO)
  | tbl (ps : Array Value)
  | ext (φ : Heap → Prop)
abbrev Hp := Addr → Option HO
def upd (H : Hp) (a : Addr) (o : HO) : Hp := fun b => if b = a then some o else H b
theorem upd_same {H : Hp} {a : Addr} {o : HO} : upd H a o a = some o := by unfold upd; rw [if_pos rfl]
theorem upd_ne {H : Hp} {a b : Addr} {o : HO} (h : b ≠ a) : upd H a o b = H b := by unfold upd; rw [if_neg h]
theorem ne_of {H : Hp} {a b : Addr} {o u : HO} (h : H a = some o) (h' : H b = some u) (d : o ≠ u) : a ≠ b := by
  intro e; subst e; rw [h] at h'; exact d (Option.some.inj h')
theorem ne_of_none {H : Hp} {a b : Addr} {o : HO} (h : H a = some o) (h' : H b = none) : a ≠ b := by
  intro e; subst e; rw [h] at h'; cases h'
section
variable (P : Program) (w : World)
def ObjOk (H : Hp) (h : Heap) (a : Addr) : HO → Prop
  | .lst xs => xs.length ≤ sizeLine ∧ ∃ (its : List Value) (n : Nat), Vals xs its ∧ h.get? a = some { cls := .type "list", data := .seq its.toArray n }
  | .tup xs => xs.length ≤ sizeLine ∧ ∃ its : List Value, Vals xs its ∧ IsTup h a its.toArray
  | .dK kvs => kvs.length ≤ sizeLine ∧ (a == sysModules) = false ∧ ∃ vs, KV kvs vs ∧ h.DictOf (mixKind P w) a vs
  | .dT kvs => kvs.length ≤ sizeLine ∧ (a == sysModules) = false ∧ ∃ xs : List (List Key × Addr × Value),
      Paired (fun (p : List Key × V) (q : List Key × Addr × Value) => p.1 = q.1 ∧ H q.2.1 = some (.tup (p.1.map kV)) ∧ RelV p.2 q.2.2) kvs xs ∧
      ∃ o es ep, h.get? a = some o ∧ o.ExactDict ∧ o.data = .dict es ep ∧ es.toList = xs.map (entryOfKey (tupleKind (mixKind P w))) ∧ (xs.map (·.1)).Nodup
  | .set S n => h.SetOf (intKind P w) a S n
  | .ins C dx fs => H dx = some (.own a) ∧ fs.length ≤ 1000 ∧ dx ≠ a ∧ h.get? a = some (PySem.W.instObj C dx) ∧
      ∃ mA, h.Ns1 dx mA ∧ (∀ f, RelO (fs.lookup f) (mA f)) ∧ PySem.Within mA (fs.map (·.1))
  | .own _ => ∃ o, h.get? a = some o
  | .xd fs => ∃ mA, h.Ns1 a mA ∧ ∀ f, RelO (fs.lookup f) (mA f)
  | .rng lo hi => ∃ t u v, h.get? a = some { cls := .type "range", data := .fields #[.int lo t, .int hi u, .int 1 v] }
  | .frz o u => h.get? a = some o ∧ ObjOk H h a u
  | .tbl ps => h.get? a = some { cls := .none, data := .fields ps }
  | .met f x => h.get? a = some (PySem.W.methodObj (.ref f) (.ref x))
  | .ext φ => φ h ∧ (∃ o, h.get? a = some o) ∧ ∀ h1 h2 : Heap, φ h1 → (∀ o, h1.get? a = some o → h2.get? a = some o) → φ h2
def HOk (H : Hp) (h : Heap) : Prop := ∀ a o, H a = some o → ObjOk P w H h a o
end
section
variable {P : Program} {w : World} {H H' : Hp} {h h' : Heap} {a : Addr} {o : HO}
theorem ObjOk.lt (x : ObjOk P w H h a o) : a < h.objs.size := by
  cases o with
  | lst xs => obtain ⟨_, _, _, _, e⟩ := x; exact Heap.lt_size e
  | tup xs => obtain ⟨_, _, _, p⟩ := x; exact p.lt
  | dK kvs => obtain ⟨_, _, _, _, o, _, _, e, _⟩ := x; exact Heap.lt_size e
  | dT kvs => obtain ⟨_, _, _, _, o, _, _, e, _⟩ := x; exact Heap.lt_size e
  | set S n => obtain ⟨o, _, _, _, e, _⟩ := x; exact Heap.lt_size e
  | ins C dx fs => obtain ⟨_, _, _, e, _⟩ := x; exact Heap.lt_size e
  | own y => obtain ⟨_, e⟩ := x; exact Heap.lt_size e
  | xd fs => obtain ⟨_, ⟨_, _, _, e, _⟩, _⟩ := x; exact Heap.lt_size e
  | rng lo hi => obtain ⟨_, _, _, e⟩ := x; exact Heap.lt_size e
  | frz ob u => obtain ⟨e, _⟩ := x; exact Heap.lt_size e
  | tbl ps => exact Heap.lt_size (show h.get? a = some _ from x)
  | met f y => exact Heap.lt_size (show h.get? a = some _ from x)
  | ext φ => obtain ⟨_, ⟨_, e⟩, _⟩ := x; exact Heap.lt_size e
theorem Paired.mapP {α β : Type} {F G : α → β → Prop} : ∀ {l₁ : List α} {l₂ : List β}, Paired F l₁ l₂ → (∀ a b, F a b → G a b) → Paired G l₁ l₂
  | _, _, .nil, _ => .nil
  | _, _, .cons r t, f => .cons (f _ _ r) (Paired.mapP t f)
theorem ObjOk.stay (x : ObjOk P w H h a o) (k : ∀ b u, (b = a ∨ H b = some (.own a)) → h.get? b = some u → h'.get? b = some u)
    (ho : ∀ b, H b = some (.own a) → H' b = some (.own a)) (ht : ∀ b xs, H b = some (.tup xs) → H' b = some (.tup xs)) : ObjOk P w H' h' a o := by
  induction o with
  | lst xs => obtain ⟨z, its, n, r, e⟩ := x; exact ⟨z, its, n, r, k _ _ (.inl rfl) e⟩
  | tup xs => obtain ⟨z, its, r, ob, e, c⟩ := x; exact ⟨z, its, r, ob, k _ _ (.inl rfl) e, c⟩
  | dK kvs => obtain ⟨z, y, vs, r, ob, es, ep, e, c⟩ := x; exact ⟨z, y, vs, r, ob, es, ep, k _ _ (.inl rfl) e, c⟩
  | dT kvs =>
    obtain ⟨z, y, xs, r, ob, es, ep, e, c⟩ := x
    exact ⟨z, y, xs, Paired.mapP r fun p q z => ⟨z.1, ht _ _ z.2.1, z.2.2⟩, ob, es, ep, k _ _ (.inl rfl) e, c⟩
  | set S n => obtain ⟨ob, es, ep, t, e, c⟩ := x; exact ⟨ob, es, ep, t, k _ _ (.inl rfl) e, c⟩
  | ins C dx fs =>
    obtain ⟨d, z, ne, e, mA, ⟨od, es, ep, e2, c⟩, r⟩ := x
    exact ⟨ho _ d, z, ne, k _ _ (.inl rfl) e, mA, ⟨od, es, ep, k _ _ (.inr d) e2, c⟩, r⟩
  | own y => obtain ⟨ob, e⟩ := x; exact ⟨ob, k _ _ (.inl rfl) e⟩
  | xd fs => obtain ⟨mA, ⟨od, es, ep, e, c⟩, r⟩ := x; exact ⟨mA, ⟨od, es, ep, k _ _ (.inl rfl) e, c⟩, r⟩
  | rng lo hi => obtain ⟨t, u, v, e⟩ := x; exact ⟨t, u, v, k _ _ (.inl rfl) e⟩
  | frz ob u ih => obtain ⟨e, q⟩ := x; exact ⟨k _ _ (.inl rfl) e, ih q⟩
  | tbl ps =>
    have e : h.get? a = some { cls := .none, data := .fields ps } := x
    show h'.get? a = some { cls := .none, data := .fields ps }
    exact k a _ (.inl rfl) e
  | met f y =>
    have e : h.get? a = some (PySem.W.methodObj (.ref f) (.ref y)) := x
    show h'.get? a = some (PySem.W.methodObj (.ref f) (.ref y))
    exact k a _ (.inl rfl) e
  | ext φ => obtain ⟨p, ⟨o, e⟩, st⟩ := x; exact ⟨st _ _ p fun o q => k _ _ (.inl rfl) q, ⟨o, k _ _ (.inl rfl) e⟩, st⟩
theorem HOk.lt (x : HOk P w H h) (e : H a = some o) : a < h.objs.size := (x a o e).lt
theorem HOk.fresh (x : HOk P w H h) (e : h.objs.size ≤ a) : H a = none := by
  cases q : H a with
  | none => rfl
  | some u => exact absurd (Nat.lt_of_lt_of_le (x.lt q) e) (Nat.lt_irrefl _)
theorem HOk.kept (x : HOk P w H h) (k : ∀ b u, h.get? b = some u → h'.get? b = some u) : HOk P w H h' := fun a o e =>
  (x a o e).stay (fun b u _ q => k b u q) (fun _ q => q) fun _ _ q => q
theorem HOk.laid (x : HOk P w H h) (k : ∀ b u, h.get? b = some u → h'.get? b = some u) (hp : h.objs.size ≤ a) (new : ObjOk P w (upd H a o) h' a o) : HOk P w (upd H a o) h' := fun b u e => by
  have hn := x.fresh hp
  by_cases hb : b = a
  · subst hb; rw [upd_same] at e; cases e; exact new
  · rw [upd_ne hb] at e
    exact (x b u e).stay (fun c v _ q => k c v q) (fun c q => by rw [upd_ne (ne_of_none q hn)]; exact q) fun c xs q => by rw [upd_ne (ne_of_none q hn)]; exact q
end
def Rd (H : Hp) (a : Addr) (u : HO) : Prop := H a = some u ∨ ∃ o, H a = some (.frz o u)
theorem Rd.ok {P : Program} {w : World} {H : Hp} {h : Heap} {a : Addr} {u : HO} (r : Rd H a u) (x : HOk P w H h) : ObjOk P w H h a u := by
  rcases r with r | ⟨o, r⟩
  · exact x a u r
  · obtain ⟨_, q⟩ := x a _ r
    exact q
def Mut : Option HO → Prop
  | some (.lst _) => True
  | some (.dK _) => True
  | some (.dT _) => True
  | some (.set _ _) => True
  | some (.ins _ _ _) => True
  | some (.ext _) => True
  | _ => False
section
variable {P : Program} {w : World} {H : Hp} {h h' : Heap} {x e : Addr} {o' : HO}
theorem HOk.write (ok : HOk P w H h) (mu : Mut (H x)) (he : e = x ∨ H e = some (.own x)) (k : ∀ b u, b ≠ e → h.get? b = some u → h'.get? b = some u) (heo : ∃ u, h'.get? e = some u)
    (new : ObjOk P w (upd H x o') h' x o') : HOk P w (upd H x o') h' := fun b u q => by
  have nown : ∀ c y, H c = some (.own y) → c ≠ x := fun c y r z => by subst z; rw [r] at mu; exact mu
  have ntup : ∀ c xs, H c = some (.tup xs) → c ≠ x := fun c xs r z => by subst z; rw [r] at mu; exact mu
  by_cases hb : b = x
  · subst hb; rw [upd_same] at q; cases q; exact new
  · rw [upd_ne hb] at q
    by_cases hbe : b = e
    · have q' : H b = some (.own x) := by
        rcases he with z | z
        · exact absurd (hbe.trans z) hb
        · rw [hbe]; exact z
      rw [q] at q'; cases q'
      obtain ⟨v, hv⟩ := heo
      exact ⟨v, by rw [hbe]; exact hv⟩
    · refine (ok b u q).stay (fun c v hc r => k c v ?_ r) (fun c r => by rw [upd_ne (nown c b r)]; exact r) fun c xs r => by rw [upd_ne (ntup c xs r)]; exact r
      rcases hc with rfl | hc
      · exact hbe
      · rintro rfl
        rcases he with z | z
        · exact nown c b hc z
        · rw [hc] at z; cases z; exact hb rfl
end
structure Un (fs ex : List Addr) (H H' : Hp) (h h' : Heap) : Prop where
  keep : ∀ b o, h.get? b = some o → H b = none → b ∉ fs → b ∉ ex → h'.get? b = some o
  slot : ∀ b o, h.get? b = some o → H b = none → b ∈ fs → b ∉ ex → ∃ sl, h'.get? b = some { o with slots := sl }
  free : ∀ b o, h.get? b = some o → H b = none → b ∉ ex → H' b = none
  there : ∀ b o, h.get? b = some o → b ∉ ex → ∃ o', h'.get? b = some o'
  tups : ∀ b xs, H b = some (.tup xs) → H' b = some (.tup xs)
  frzs : ∀ b o u, H b = some (.frz o u) → H' b = some (.frz o u)
  tbls : ∀ b ps, H b = some (.tbl ps) → ∃ more, H' b = some (.tbl (ps ++ more))
section
variable {fs fs' ex ex' : List Addr} {H H1 H2 : Hp} {h h1 h2 h' : Heap} {a x e : Addr} {o : HO}
theorem Un.any (u : Un fs ex H H1 h h1) {b : Addr} {ob : Obj} (q : h.get? b = some ob) (n : H b = none) (hx : b ∉ ex) : ∃ sl, h1.get? b = some { ob with slots := sl } := by
  by_cases hb : b ∈ fs
  · exact u.slot b ob q n hb hx
  · exact ⟨ob.slots, u.keep b ob q n hb hx⟩
theorem Un.kept (k : ∀ b u, h.get? b = some u → h'.get? b = some u) : Un fs ex H H h h' :=
  ⟨fun b ob q _ _ _ => k b ob q, fun b ob q _ _ _ => ⟨ob.slots, k b ob q⟩, fun _ _ _ n _ => n, fun b ob q _ => ⟨ob, k b ob q⟩, fun _ _ q => q, fun _ _ _ q => q, fun _ ps q => ⟨#[], by rw [q]; simp⟩⟩
theorem Un.refl : Un fs ex H H h h := Un.kept fun _ _ q => q
theorem Un.laid (k : ∀ b u, h.get? b = some u → h'.get? b = some u) (hp : h.objs.size ≤ a) (hn : H a = none) : Un fs ex H (upd H a o) h h' where
  keep := fun b u q _ _ _ => k b u q
  slot := fun b u q _ _ _ => ⟨u.slots, k b u q⟩
  free := fun b u q n _ => by rw [upd_ne (Nat.ne_of_lt (Nat.lt_of_lt_of_le (Heap.lt_size q) hp))]; exact n
  there := fun b u q _ => ⟨u, k b u q⟩
  tups := fun b xs q => by rw [upd_ne (ne_of_none q hn)]; exact q
  frzs := fun b u xs q => by rw [upd_ne (ne_of_none q hn)]; exact q
  tbls := fun b ps q => ⟨#[], by rw [upd_ne (ne_of_none q hn), q]; simp⟩
theorem Un.write (mu : Mut (H x)) (he : e = x ∨ H e = some (.own x)) (k : ∀ b u, b ≠ e → h.get? b = some u → h'.get? b = some u) (heo : ∃ u, h'.get? e = some u) : Un fs ex H (upd H x o) h h' := by
  have hx : ∀ b, H b = none → b ≠ x := fun b n z => by subst z; rw [n] at mu; exact mu
  have hb : ∀ b, H b = none → b ≠ e := fun b n z => by
    subst z
    rcases he with r | r
    · exact hx b n r
    · rw [n] at r; cases r
  have hm : ∀ b u, H b = some u → ¬ Mut (some u) → b ≠ x := fun b u q nm z => by subst z; rw [q] at mu; exact nm mu
  refine ⟨fun b u q n _ _ => k b u (hb b n) q, fun b u q n _ _ => ⟨u.slots, k b u (hb b n) q⟩, fun b u q n _ => by rw [upd_ne (hx b n)]; exact n, fun b u q _ => ?_,
    fun b xs q => by rw [upd_ne (hm b _ q fun z => z)]; exact q, fun b u xs q => by rw [upd_ne (hm b _ q fun z => z)]; exact q, fun b ps q => ⟨#[], by rw [upd_ne (hm b _ q fun z => z), q]; simp⟩⟩
  by_cases hbe : b = e
  · subst hbe; exact heo
  · exact ⟨u, k b u hbe q⟩
end
def trk (h : Heap) (H : Hp) : List Addr := (List.range h.objs.size).filter fun a => (H a).isSome
def hidT (h : Heap) (H : Hp) : Heap := PySem.W.hideAll h (trk h H)
theorem hidT_size (h : Heap) (H : Hp) : (hidT h H).objs.size = h.objs.size := PySem.W.hideAll_size _ _
theorem hidT_get {h : Heap} {H : Hp} {b : Addr} {o : Obj} (e : h.get? b = some o) (n : H b = none) : (hidT h H).get? b = some o :=
  PySem.W.hideAll_get _ e fun hm => by
    have q : (H b).isSome = true := (List.mem_filter.mp hm).2
    rw [n] at q; simp at q
theorem of_hidT {h : Heap} {H : Hp} {b : Addr} {o : Obj} (e : (hidT h H).get? b = some o) : h.get? b = some o ∧ H b = none := by
  have e' : h.get? b = some o := PySem.W.of_hideAll (trk h H) e
  refine ⟨e', ?_⟩
  cases q : H b with
  | none => rfl
  | some x =>
    have hm : b ∈ trk h H := List.mem_filter.mpr ⟨List.mem_range.mpr (Heap.lt_size e'), by simp [q]⟩
    have z : (hidT h H).get? b = none := PySem.W.hideAll_none (trk h H) hm
    rw [z] at e; cases e
def allNews (g h : Heap) (L : Addr) : List (Addr × Obj) := (List.range h.objs.size).filterMap fun a => if a = L ∨ (g.get? a).isSome = true then none else (h.get? a).map fun o => (a, o)
def rest (g h : Heap) (L d : Addr) : List (Addr × Obj) := (allNews g h L).filter fun p => decide (p.1 ≠ d)
end L2
namespace L2
open PySem PySem.Spec PyProof.Rows
structure Mod (K : PySem.W.Frag) (mg : Str → Option Value) (base : Heap) : Prop where
  kin : K.In base
  glob : base.Ns mainGlobals mg
  blt : ∃ mb, base.Ns builtinsNs mb ∧ ∀ x : Str, x ≠ "__name__" → mb x = bootBuiltins x
  nolimit : base.NoLimit
structure Cx where
  prog : Program
  w : World
  K : PySem.W.Frag
  mg : Str → Option Value
  base : Heap
  A : Around
  N : List Str
  s₀ : Shared
  H₀ : Hp
  env : Env
  outer : List Env
  stack : List Env
  ex : List Addr
  fn : Str → Bool
  calm : Bool
  pn : List (Addr × Obj)
  xe : Value → Shared → Prop
def frs (l : List Env) : List Addr := l.filterMap (·.frame)
abbrev Cx.fs (X : Cx) : List Addr := frs X.outer
def Vis (sc : Scope) (x : Str) : Prop := sc.names.lookup x = some .local ∨ sc.names.lookup x = some .cell ∨ sc.names.lookup x = some .free
def Loc (sc : Scope) (x : Str) : Prop := sc.names.lookup x = some .local ∨ sc.names.lookup x = some .cell
def Look (env : Env) (h : Heap) (m : Str → Option Value) (x : Str) (u : Value) : Prop :=
  (env.kindOf x = some .local ∧ m x = some u) ∨ ((env.kindOf x = some .cell ∨ env.kindOf x = some .free) ∧ ∃ c, env.cells.lookup x = some c ∧ h.IsCell c (some u))
structure Cx.Ok (X : Cx) : Prop where
  mod : Mod X.K X.mg X.base
  kind : X.env.scope.kind = .function
  glob : X.env.globals = mainGlobals
  blt : X.env.builtins = builtinsNs
  above : X.s₀.heap.objs.size ≤ X.env.locals
  inj : ∀ x y c, X.env.cells.lookup x = some c → X.env.cells.lookup y = some c → x = y
  has : ∀ x, (X.env.kindOf x = some .cell ∨ X.env.kindOf x = some .free) → ∃ c, X.env.cells.lookup x = some c
  cab : ∀ x c, X.fn x = true → X.env.cells.lookup x = some c → X.s₀.heap.objs.size ≤ c
  hd : X.calm = true → X.A.handled = none
  frames : X.A.frames = some X.stack
  stk : X.stack = X.outer ∨ (X.stack = X.env :: X.outer ∧ X.env.frame = some X.env.locals)
  exf : ∀ b ∈ X.ex, b ≠ X.env.locals ∧ ∀ x c, X.env.cells.lookup x = some c → c ≠ b
  bs : ∀ b o, X.base.get? b = some o → X.s₀.heap.get? b = some o ∧ X.H₀ b = none
  bsz : X.base.objs.size ≤ X.s₀.heap.objs.size
  noex : ∀ b o, X.base.get? b = some o → b ∉ X.ex
  exfs : ∀ b ∈ X.ex, b ∉ X.fs
  funs : X.s₀.heap.FunFrames X.base X.outer
  frf : ∀ b ∈ X.fs, X.H₀ b = none
structure Inv (X : Cx) (pins : List (Addr × Obj)) (σ : List (Option V)) (H : Hp) (s : Shared) : Prop where
  ok : X.Ok
  os : s.os = X.s₀.os
  bare : AllBare s.gens
  base : Un X.fs X.ex X.H₀ H X.s₀.heap s.heap
  loc : ∃ m, s.heap.Ns X.env.locals m ∧ ∀ (i : Nat) (x : Str) (v : V), X.N[i]? = some x → σ[i]? = some (some v) → Vis X.env.scope x → ∃ u, RelV v u ∧ Look X.env s.heap m x u
  cell : ∀ x c, X.env.cells.lookup x = some c → ∃ v, s.heap.IsCell c v
  free : H X.env.locals = none
  freeC : ∀ x c, X.env.cells.lookup x = some c → H c = none
  pin : ∀ p ∈ X.pn ++ pins, s.heap.get? p.1 = some p.2 ∧ H p.1 = none ∧ p.1 ≠ X.env.locals ∧ p.1 ∉ X.fs ∧ ∀ v, p.2.data ≠ .cell v
  hok : HOk X.prog X.w H s.heap
  len : σ.length = X.N.length
section
variable {X : Cx} {pins : List (Addr × Obj)} {σ : List (Option V)} {H H' : Hp} {s : Shared} {h' : Heap}
theorem Cx.Ok.nofr (ok : X.Ok) {b : Addr} {o : Obj} (e : X.base.get? b = some o) : b ∉ X.fs := fun hb => by
  have := (ok.funs.mem hb).1
  rw [e] at this; cases this
theorem Inv.bs (I : Inv X pins σ H s) : ∀ b o, X.base.get? b = some o → s.heap.get? b = some o ∧ H b = none := fun b o e =>
  ⟨I.base.keep b o (I.ok.bs b o e).1 (I.ok.bs b o e).2 (I.ok.nofr e) (I.ok.noex b o e), I.base.free b o (I.ok.bs b o e).1 (I.ok.bs b o e).2 (I.ok.noex b o e)⟩
theorem Inv.bk (I : Inv X pins σ H s) : ∀ b o, X.base.get? b = some o → s.heap.get? b = some o := fun b o e => (I.bs b o e).1
theorem Inv.mod (I : Inv X pins σ H s) : Mod X.K X.mg X.base := I.ok.mod
theorem Inv.kIn (I : Inv X pins σ H s) : X.K.In s.heap := I.ok.mod.kin.keeps I.bk
theorem Inv.fr (I : Inv X pins σ H s) : ∃ m, Fr X.base X.env.locals s.heap m :=
  let ⟨m, hn, _⟩ := I.loc
  ⟨m, hn, I.bk, Nat.le_trans I.ok.bsz I.ok.above⟩
theorem Inv.lt (I : Inv X pins σ H s) : X.env.locals < s.heap.objs.size := let ⟨_, hn, _⟩ := I.loc; hn.lt
theorem Inv.sz (I : Inv X pins σ H s) : X.s₀.heap.objs.size ≤ s.heap.objs.size := Nat.le_trans I.ok.above (Nat.le_of_lt I.lt)
theorem Inv.nofs (I : Inv X pins σ H s) {a : Addr} (h : s.heap.objs.size ≤ a) : a ∉ X.fs := fun hb => by
  obtain ⟨_, o, ho, _⟩ := I.ok.funs.mem hb
  exact absurd (Nat.lt_of_lt_of_le (Heap.lt_size ho) (Nat.le_trans I.sz h)) (Nat.lt_irrefl _)
theorem Inv.cne (I : Inv X pins σ H s) : ∀ x c, X.env.cells.lookup x = some c → c ≠ X.env.locals := fun x c e z => by
  obtain ⟨v, o, ho, hd⟩ := I.cell x c e
  obtain ⟨m, ⟨o', es, ep, ho', hd', _⟩, _⟩ := I.loc
  rw [z, ho'] at ho; cases ho; rw [hd'] at hd; cases hd
theorem Inv.funs (I : Inv X pins σ H s) : s.heap.FunFrames X.base X.outer := by
  have all : ∀ (l : List Env), (∀ b ∈ frs l, b ∈ X.fs) → X.s₀.heap.FunFrames X.base l → s.heap.FunFrames X.base l := by
    intro l
    induction l with
    | nil => intro _ _; trivial
    | cons env r ih =>
      intro hs hl
      obtain ⟨hk, ⟨L, o, hf, hn, ho, hd⟩, hr⟩ := hl
      have hL : L ∈ X.fs := hs L (by unfold frs; rw [List.filterMap_cons, hf]; exact List.mem_cons_self)
      obtain ⟨sl, e⟩ := I.base.slot L o ho (I.ok.frf L hL) hL fun z => I.ok.exfs L z hL
      exact ⟨hk, ⟨L, _, hf, hn, e, hd⟩, ih (fun b hb => hs b (by unfold frs; rw [List.filterMap_cons, hf]; exact List.mem_cons_of_mem _ hb)) hr⟩
  exact all X.outer (fun _ hb => hb) I.ok.funs
theorem Inv.stack (I : Inv X pins σ H s) : s.heap.FunFrames X.base X.stack := by
  rcases I.ok.stk with e | ⟨e, hf⟩
  · rw [e]; exact I.funs
  · rw [e]
    obtain ⟨m, hn, _⟩ := I.loc
    refine .cons (by rw [I.ok.kind]; decide) hf hn ?_ I.funs
    exact Heap.get?_none_of_le (Nat.le_trans I.ok.bsz I.ok.above)
theorem Inv.stkSub (I : Inv X pins σ H s) : ∀ b ∈ frs X.stack, b ∈ X.env.locals :: X.fs := fun b hb => by
  rcases I.ok.stk with e | ⟨e, hf⟩
  · rw [e] at hb; exact List.mem_cons_of_mem _ hb
  · rw [e] at hb
    unfold frs at hb
    rw [List.filterMap_cons, hf] at hb
    exact hb
theorem Inv.stkFree (I : Inv X pins σ H s) : ∀ b ∈ frs X.stack, H b = none := fun b hb => by
  rcases List.mem_cons.mp (I.stkSub b hb) with e | hb
  · rw [e]; exact I.free
  · obtain ⟨_, o, ho, _⟩ := I.ok.funs.mem hb
    exact I.base.free b o ho (I.ok.frf b hb) fun z => I.ok.exfs b z hb
theorem Inv.step {g' : Array GenState} {t' : Nat} {d' : Drawn} {ch : List Addr} (I : Inv X pins σ H s)
    (hch : ∀ b ∈ ch, (b ∈ X.ex ∨ X.s₀.heap.objs.size ≤ b) ∧ b ≠ X.env.locals ∧ (∀ x c, X.env.cells.lookup x = some c → c ≠ b) ∧ ∀ p ∈ X.pn ++ pins, p.1 ≠ b)
    (keep : ∀ b o, b ≠ X.env.locals → b ∉ X.fs → b ∉ ch → s.heap.get? b = some o → H b = none → h'.get? b = some o)
    (slot : ∀ b o, b ≠ X.env.locals → b ∈ X.fs → b ∉ ch → s.heap.get? b = some o → H b = none → ∃ sl, h'.get? b = some { o with slots := sl }) (free : ∀ b o, b ∉ ch → s.heap.get? b = some o → H b = none → H' b = none)
    (there : ∀ b o, b ∉ ch → s.heap.get? b = some o → ∃ o', h'.get? b = some o')
    (tups : ∀ b xs, H b = some (.tup xs) → H' b = some (.tup xs)) (frzs : ∀ b o u, H b = some (.frz o u) → H' b = some (.frz o u)) (tbls : ∀ b ps, H b = some (.tbl ps) → ∃ more, H' b = some (.tbl (ps ++ more)))
    (ns : ∀ m, s.heap.Ns X.env.locals m → h'.Ns X.env.locals m) (hok : HOk X.prog X.w H' h') (hg : AllBare g') :
    Inv X pins σ H' { s with heap := h', gens := g', drawn := d', toks := t' } := by
  have neL : ∀ b o, X.s₀.heap.get? b = some o → b ≠ X.env.locals := fun b o e => Nat.ne_of_lt (Nat.lt_of_lt_of_le (Heap.lt_size e) I.ok.above)
  have neC : ∀ b o, X.s₀.heap.get? b = some o → b ∉ X.ex → b ∉ ch := fun b o e hx hb => by
    rcases (hch b hb).1 with z | z
    · exact hx z
    · exact absurd (Nat.lt_of_lt_of_le (Heap.lt_size e) z) (Nat.lt_irrefl _)
  have cellK : ∀ x c, X.env.cells.lookup x = some c → ∀ v, s.heap.IsCell c v → h'.IsCell c v := fun x c e v ⟨o, ho, hd⟩ => by
    have nch : c ∉ ch := fun z => (hch c z).2.2.1 x c e rfl
    by_cases hc : c ∈ X.fs
    · obtain ⟨sl, q⟩ := slot c o (I.cne x c e) hc nch ho (I.freeC x c e)
      exact ⟨_, q, hd⟩
    · exact ⟨o, keep c o (I.cne x c e) hc nch ho (I.freeC x c e), hd⟩
  refine ⟨I.ok, I.os, hg, ⟨fun b o e n hb hx => ?_, fun b o e n hb hx => ?_, fun b o e n hx => ?_, fun b o e hx => ?_, fun b xs e => tups b xs (I.base.tups b xs e), fun b o xs e => frzs b o xs (I.base.frzs b o xs e), fun b ps e => ?_⟩, ?_, fun x c e => ?_, ?_, fun x c e => ?_, fun p hp => ?_, hok, I.len⟩
  · exact keep b o (neL b o e) hb (neC b o e hx) (I.base.keep b o e n hb hx) (I.base.free b o e n hx)
  · obtain ⟨sl, e1⟩ := I.base.slot b o e n hb hx
    obtain ⟨sl', e2⟩ := slot b _ (neL b o e) hb (neC b o e hx) e1 (I.base.free b o e n hx)
    exact ⟨sl', e2⟩
  · obtain ⟨o', e1⟩ := I.base.there b o e hx
    exact free b o' (neC b o e hx) e1 (I.base.free b o e n hx)
  · obtain ⟨o', e1⟩ := I.base.there b o e hx
    exact there b o' (neC b o e hx) e1
  · obtain ⟨m1, e1⟩ := I.base.tbls b ps e
    obtain ⟨m2, e2⟩ := tbls b _ e1
    exact ⟨m1 ++ m2, by rw [e2, Array.append_assoc]⟩
  · obtain ⟨m, hn, hl⟩ := I.loc
    refine ⟨m, ns m hn, fun i x v e1 e2 e3 => ?_⟩
    obtain ⟨u, r, l⟩ := hl i x v e1 e2 e3
    refine ⟨u, r, ?_⟩
    rcases l with l | ⟨k, c, e, z⟩
    · exact .inl l
    · exact .inr ⟨k, c, e, cellK x c e _ z⟩
  · obtain ⟨v, z⟩ := I.cell x c e
    exact ⟨v, cellK x c e v z⟩
  · obtain ⟨m, ⟨o, _, _, ho, _⟩, _⟩ := I.loc
    exact free _ o (fun z => (hch _ z).2.1 rfl) ho I.free
  · obtain ⟨v, o, ho, hd⟩ := I.cell x c e
    exact free c o (fun z => (hch c z).2.2.1 x c e rfl) ho (I.freeC x c e)
  · obtain ⟨e, n, ne, nf, d⟩ := I.pin p hp
    have nch : p.1 ∉ ch := fun z => (hch p.1 z).2.2.2 p hp rfl
    exact ⟨keep p.1 p.2 ne nf nch e n, free p.1 p.2 nch e n, ne, nf, d⟩
theorem Inv.un {t' : Nat} (I : Inv X pins σ H s) (u : Un X.fs [] H H' s.heap h') (hok : HOk X.prog X.w H' h') : Inv X pins σ H' { s with heap := h', toks := t' } := by
  obtain ⟨m, ⟨o, es, ep, ho, r⟩, _⟩ := id I.loc
  obtain ⟨sl, hL⟩ := u.any ho I.free (by simp)
  exact I.step (g' := s.gens) (d' := s.drawn) (ch := []) (fun _ z => nomatch z) (fun b o _ hb _ e n => u.keep b o e n hb (by simp)) (fun b o _ hb _ e n => u.slot b o e n hb (by simp)) (fun b o _ e n => u.free b o e n (by simp)) (fun b o _ e => u.there b o e (by simp)) u.tups u.frzs u.tbls (fun m' hm => by
    obtain ⟨o', es', ep', ho', r'⟩ := hm
    rw [ho] at ho'; cases ho'
    exact ⟨_, es', ep', hL, r'⟩) hok I.bare
theorem Inv.call {g' : Array GenState} {t' : Nat} {d' : Drawn} {ch : List Addr} (I : Inv X pins σ H s) (u : Un (frs X.stack) ch H H' s.heap h') (hok : HOk X.prog X.w H' h') (hg : AllBare g')
    (hch : ∀ b ∈ ch, (b ∈ X.ex ∨ X.s₀.heap.objs.size ≤ b) ∧ b ≠ X.env.locals ∧ (∀ x c, X.env.cells.lookup x = some c → c ≠ b) ∧ ∀ p ∈ X.pn ++ pins, p.1 ≠ b) :
    Inv X pins σ H' { s with heap := h', gens := g', drawn := d', toks := t' } := by
  obtain ⟨m, ⟨o, es, ep, ho, r⟩, _⟩ := id I.loc
  obtain ⟨sl, hL⟩ := u.any ho I.free fun z => (hch _ z).2.1 rfl
  exact I.step (ch := ch) hch (fun b o hL hb hc e n => u.keep b o e n (fun z => (List.mem_cons.mp (I.stkSub b z)).elim hL hb) hc) (fun b o _ _ hc e n => u.any e n hc) (fun b o hc e n => u.free b o e n hc) (fun b o hc e => u.there b o e hc) u.tups u.frzs u.tbls (fun m' hm => by
    obtain ⟨o', es', ep', ho', r'⟩ := hm
    rw [ho] at ho'; cases ho'
    exact ⟨_, es', ep', hL, r'⟩) hok hg
theorem Inv.turned {t' : Nat} {it : Addr} (I : Inv X pins σ H s) (k : ∀ b o, b ≠ it → s.heap.get? b = some o → h'.get? b = some o) (hn : H it = none) (hL : it ≠ X.env.locals)
    (h1 : it ∈ X.ex ∨ X.s₀.heap.objs.size ≤ it) (h2 : ∀ x c, X.env.cells.lookup x = some c → c ≠ it) (h3 : ∀ p ∈ X.pn ++ pins, p.1 ≠ it) : Inv X pins σ H { s with heap := h', toks := t' } := by
  have nit : ∀ b u, H b = some u → b ≠ it := fun b u e z => by rw [z, hn] at e; cases e
  refine I.step (g' := s.gens) (d' := s.drawn) (ch := [it]) (fun b hb => ?_) (fun b o _ _ hc e _ => k b o (fun z => hc (by simp [z])) e) (fun b o _ _ hc e _ => ⟨o.slots, k b o (fun z => hc (by simp [z])) e⟩) (fun _ _ _ _ n => n)
    (fun b o hc e => ⟨o, k b o (fun z => hc (by simp [z])) e⟩) (fun _ _ e => e) (fun _ _ _ e => e) (fun b ps e => ⟨#[], by rw [e]; simp⟩) (fun m hm => ?_) (fun b u e => ?_) I.bare
  · have e : b = it := by simpa using hb
    subst e
    exact ⟨h1, hL, h2, h3⟩
  · obtain ⟨o, es, ep, ho, r⟩ := hm
    exact ⟨o, es, ep, k _ o (Ne.symm hL) ho, r⟩
  · refine (I.hok b u e).stay (fun c v hc q => k c v ?_ q) (fun _ q => q) fun _ _ q => q
    rcases hc with z | z
    · rw [z]; exact nit b u e
    · exact nit c _ z
theorem Inv.tok (I : Inv X pins σ H s) (t : Nat) : Inv X pins σ H { s with toks := t } := I.un (h' := s.heap) (t' := t) Un.refl I.hok
theorem Inv.kept {t' : Nat} (I : Inv X pins σ H s) (k : ∀ b u, s.heap.get? b = some u → h'.get? b = some u) : Inv X pins σ H { s with heap := h', toks := t' } := I.un (Un.kept k) (I.hok.kept k)
theorem Inv.laid {a : Addr} {o : HO} {t' : Nat} (I : Inv X pins σ H s) (k : ∀ b u, s.heap.get? b = some u → h'.get? b = some u) (hp : s.heap.objs.size ≤ a) (new : ObjOk X.prog X.w (upd H a o) h' a o) :
    Inv X pins σ (upd H a o) { s with heap := h', toks := t' } := I.un (Un.laid k hp (I.hok.fresh hp)) (I.hok.laid k hp new)
theorem Inv.write {x e : Addr} {o : HO} {t' : Nat} (I : Inv X pins σ H s) (mu : Mut (H x)) (he : e = x ∨ H e = some (.own x)) (k : ∀ b u, b ≠ e → s.heap.get? b = some u → h'.get? b = some u) (heo : ∃ u, h'.get? e = some u)
    (new : ObjOk X.prog X.w (upd H x o) h' x o) : Inv X pins σ (upd H x o) { s with heap := h', toks := t' } := I.un (Un.write mu he k heo) (I.hok.write mu he k heo new)
theorem Inv.weak {σ' : List (Option V)} (I : Inv X pins σ H s) (hl : σ'.length = σ.length) (w : ∀ (i : Nat) v, σ'[i]? = some (some v) → σ[i]? = some (some v)) : Inv X pins σ' H s :=
  ⟨I.ok, I.os, I.bare, I.base, let ⟨m, hn, hl'⟩ := I.loc; ⟨m, hn, fun i x v e1 e2 e3 => hl' i x v e1 (w i v e2) e3⟩, I.cell, I.free, I.freeC, I.pin, I.hok, hl.trans I.len⟩
theorem Inv.pins_of {pins' : List (Addr × Obj)} (I : Inv X pins σ H s) (h : ∀ p ∈ pins', s.heap.get? p.1 = some p.2 ∧ H p.1 = none ∧ p.1 ≠ X.env.locals ∧ p.1 ∉ X.fs ∧ ∀ v, p.2.data ≠ .cell v) : Inv X pins' σ H s :=
  ⟨I.ok, I.os, I.bare, I.base, I.loc, I.cell, I.free, I.freeC, fun p hp => (List.mem_append.mp hp).elim (fun z => I.pin p (List.mem_append_left _ z)) (h p), I.hok, I.len⟩
theorem nodup_ix {N : List Str} (hN : N.Nodup) {i j : Nat} {x : Str} (a : N[i]? = some x) (b : N[j]? = some x) : i = j := by
  obtain ⟨h1, e1⟩ := List.getElem?_eq_some_iff.mp a
  obtain ⟨h2, e2⟩ := List.getElem?_eq_some_iff.mp b
  exact (List.getElem_inj hN).mp (e1.trans e2.symm)
theorem store_ok2 {M : Model} {A : Around} {E : Value → Shared → Prop} {i : Nat} {x : Str} {v : V} {u : Value} {Q : Unit → Shared → Prop} (I : Inv X pins σ H s) (hN : X.N.Nodup) (hi : X.N[i]? = some x) (hx : Loc X.env.scope x) (r : RelV v u)
    (h : ∀ s', Inv X pins (σ.set i (some v)) H s' → (∃ a, Heap.SameBut a s.heap s'.heap ∧ (a = X.env.locals ∨ X.env.cells.lookup x = some a)) → Q () s') (hf : X.fn x = true ∨ X.env.scope.names.lookup x = some .local := by first | exact .inl rfl | exact .inr rfl | assumption) : wpAny M A (storeName X.env x u) Q E s := by
  obtain ⟨m, hn, hl⟩ := id I.loc
  have hcls : (X.env.scope.kind == .class || (X.env.scope.kind == .module && X.env.locals != X.env.globals)) = false := by rw [I.ok.kind]; rfl
  have hiσ : i < σ.length := by rw [I.len]; exact (List.getElem?_eq_some_iff.mp hi).1
  have cne := I.cne
  have tracked : ∀ {a : Addr} {h' : Heap}, (∃ o, s.heap.get? a = some o ∧ H a = none) → Heap.SameBut a s.heap h' → HOk X.prog X.w H h' := fun {a h'} ha hs b ob e => by
    obtain ⟨_, _, hfree⟩ := ha
    refine (I.hok b ob e).stay (fun c w' hc q => (hs.2 c ?_).trans q) (fun _ q => q) fun _ _ q => q
    rintro rfl
    rcases hc with rfl | hc
    · rw [hfree] at e; cases e
    · rw [hfree] at hc; cases hc
  rcases hx with hk | hk
  · refine wpAny_storeName_local hk hn (fun h' hn' hs => ?_) hcls
    obtain ⟨oL, _, _, hoL, _⟩ := id hn
    refine h _ ⟨I.ok, I.os, I.bare, ⟨fun b o e n hb hx => ?_, fun b o e n hb hx => ?_, I.base.free, fun b o e hx => ?_, I.base.tups, I.base.frzs, I.base.tbls⟩, ⟨_, hn', fun j y v' e1 e2 e3 => ?_⟩, fun y c e => ?_, I.free, I.freeC, fun p hp => ?_, tracked ⟨oL, hoL, I.free⟩ hs, by simpa using I.len⟩ ⟨_, hs, .inl rfl⟩
    · exact (hs.2 b (Nat.ne_of_lt (Nat.lt_of_lt_of_le (Heap.lt_size e) I.ok.above))).trans (I.base.keep b o e n hb hx)
    · obtain ⟨sl, e1⟩ := I.base.slot b o e n hb hx
      exact ⟨sl, (hs.2 b (Nat.ne_of_lt (Nat.lt_of_lt_of_le (Heap.lt_size e) I.ok.above))).trans e1⟩
    · obtain ⟨o', e1⟩ := I.base.there b o e hx
      exact ⟨o', (hs.2 b (Nat.ne_of_lt (Nat.lt_of_lt_of_le (Heap.lt_size e) I.ok.above))).trans e1⟩
    · by_cases hj : j = i
      · subst hj
        rw [hi] at e1; cases e1
        rw [List.getElem?_set_self hiσ] at e2
        cases e2
        exact ⟨u, r, .inl ⟨hk, by simp⟩⟩
      · rw [List.getElem?_set_ne (Ne.symm hj)] at e2
        obtain ⟨u', r', q⟩ := hl j y v' e1 e2 e3
        refine ⟨u', r', ?_⟩
        rcases q with ⟨k, e⟩ | ⟨k, c, e, z⟩
        · refine .inl ⟨k, ?_⟩
          have : y ≠ x := fun e => hj (nodup_ix hN e1 (e ▸ hi))
          simp [this, e]
        · exact .inr ⟨k, c, e, z.sameBut hs (cne y c e)⟩
    · obtain ⟨w', z⟩ := I.cell y c e
      exact ⟨w', z.sameBut hs (cne y c e)⟩
    · obtain ⟨e, n, ne, nf, d⟩ := I.pin p hp
      exact ⟨(hs.2 p.1 ne).trans e, n, ne, nf, d⟩
  · have hfn : X.fn x = true := by
      rcases hf with z | z
      · exact z
      · rw [z] at hk; cases hk
    obtain ⟨c, hc⟩ := I.ok.has x (.inl hk)
    obtain ⟨w', z⟩ := I.cell x c hc
    refine wpAny_storeName_cell I.ok.kind hk hc z (fun h' hc' hs => ?_)
    obtain ⟨oc, hoc, hocd⟩ := id z
    refine h { s with heap := h' } ⟨I.ok, I.os, I.bare, ⟨fun b o e n hb hx => ?_, fun b o e n hb hx => ?_, I.base.free, fun b o e hx => ?_, I.base.tups, I.base.frzs, I.base.tbls⟩, ⟨m, hn.sameBut hs (Ne.symm (cne x c hc)), fun j y v' e1 e2 e3 => ?_⟩, fun y c' e => ?_, I.free, I.freeC, fun p hp => ?_, tracked ⟨oc, hoc, I.freeC x c hc⟩ hs, by simpa using I.len⟩ ⟨c, hs, .inr hc⟩
    · exact (hs.2 b (Nat.ne_of_lt (Nat.lt_of_lt_of_le (Heap.lt_size e) (I.ok.cab x c hfn hc)))).trans (I.base.keep b o e n hb hx)
    · obtain ⟨sl, e1⟩ := I.base.slot b o e n hb hx
      exact ⟨sl, (hs.2 b (Nat.ne_of_lt (Nat.lt_of_lt_of_le (Heap.lt_size e) (I.ok.cab x c hfn hc)))).trans e1⟩
    · obtain ⟨o', e1⟩ := I.base.there b o e hx
      exact ⟨o', (hs.2 b (Nat.ne_of_lt (Nat.lt_of_lt_of_le (Heap.lt_size e) (I.ok.cab x c hfn hc)))).trans e1⟩
    · by_cases hj : j = i
      · subst hj
        rw [hi] at e1; cases e1
        rw [List.getElem?_set_self hiσ] at e2
        cases e2
        exact ⟨u, r, .inr ⟨.inl hk, c, hc, hc'⟩⟩
      · rw [List.getElem?_set_ne (Ne.symm hj)] at e2
        obtain ⟨u', r', q⟩ := hl j y v' e1 e2 e3
        refine ⟨u', r', ?_⟩
        rcases q with q | ⟨k, c', e, z'⟩
        · exact .inl q
        · refine .inr ⟨k, c', e, z'.sameBut hs ?_⟩
          rintro rfl
          exact hj (nodup_ix hN e1 (I.ok.inj _ _ _ e hc ▸ hi))
    · by_cases hcc : c' = c
      · subst hcc; exact ⟨_, hc'⟩
      · obtain ⟨w2, z2⟩ := I.cell y c' e
        exact ⟨w2, z2.sameBut hs hcc⟩
    · obtain ⟨e, n, ne, nf, d⟩ := I.pin p hp
      refine ⟨(hs.2 p.1 ?_).trans e, n, ne, nf, d⟩
      intro q
      rw [q, hoc] at e
      have q' : oc = p.2 := Option.some.inj e
      exact d w' (by rw [← q']; exact hocd)
theorem store_ok {M : Model} {A : Around} {E : Value → Shared → Prop} {i : Nat} {x : Str} {v : V} {u : Value} {Q : Unit → Shared → Prop} (I : Inv X pins σ H s) (hN : X.N.Nodup) (hi : X.N[i]? = some x) (hx : Loc X.env.scope x) (r : RelV v u)
    (h : ∀ s', Inv X pins (σ.set i (some v)) H s' → Q () s') (hf : X.fn x = true ∨ X.env.scope.names.lookup x = some .local := by first | exact .inl rfl | exact .inr rfl | assumption) : wpAny M A (storeName X.env x u) Q E s :=
  store_ok2 I hN hi hx r (fun s' I' _ => h s' I') hf
theorem Inv.call' {s' : Shared} {ch : List Addr} (I : Inv X pins σ H s) (ho : s'.os = s.os) (u : Un (frs X.stack) ch H H' s.heap s'.heap) (hok : HOk X.prog X.w H' s'.heap) (hg : AllBare s'.gens)
    (hch : ∀ b ∈ ch, (b ∈ X.ex ∨ X.s₀.heap.objs.size ≤ b) ∧ b ≠ X.env.locals ∧ (∀ x c, X.env.cells.lookup x = some c → c ≠ b) ∧ ∀ p ∈ X.pn ++ pins, p.1 ≠ b) : Inv X pins σ H' s' := by
  obtain ⟨h', g', d', t', o'⟩ := s'
  have e : o' = s.os := ho
  subst e
  exact I.call (g' := g') (t' := t') (d' := d') u hok hg hch
end
abbrev XK := Value → Option Addr → Hp → Prop
abbrev St := List (Option V)
abbrev VK := V → Hp → Prop
abbrev TE := St → Hp → VK → Prop
abbrev TT := St → Hp → (Bool → Hp → Prop) → Prop
abbrev TA := St → Hp → (List V → Hp → Prop) → Prop
structure Ends where
  nx : St → Hp → Prop
  rt : VK
  bk : St → Hp → Prop := fun _ _ => False
  ct : St → Hp → Prop := fun _ _ => False
abbrev TS := Ends → St → Hp → Prop
def EP (X : Cx) (pins : List (Addr × Obj)) (σ : St) (Q : VK) (u : Value) (s' : Shared) : Prop := ∃ v H', Inv X pins σ H' s' ∧ RelV v u ∧ Q v H'
def TP (X : Cx) (pins : List (Addr × Obj)) (σ : St) (Q : Bool → Hp → Prop) (b : Bool) (s' : Shared) : Prop := ∃ H', Inv X pins σ H' s' ∧ Q b H'
def AP (X : Cx) (pins : List (Addr × Obj)) (σ : St) (Q : List V → Hp → Prop) (us : List Value) (s' : Shared) : Prop := ∃ vs H', Inv X pins σ H' s' ∧ Vals vs us ∧ Q vs H'
def SP (X : Cx) (pins : List (Addr × Obj)) (D : Ends) (f : Flow) (s' : Shared) : Prop :=
  match f with
  | .next => ∃ σ' H', Inv X pins σ' H' s' ∧ D.nx σ' H'
  | .brk => ∃ σ' H', Inv X pins σ' H' s' ∧ D.bk σ' H'
  | .cont => ∃ σ' H', Inv X pins σ' H' s' ∧ D.ct σ' H'
  | .ret u => ∃ v σ' H', Inv X pins σ' H' s' ∧ RelV v u ∧ D.rt v H'
def PE (X : Cx) (e : Expr) (t : TE) : Prop :=
  ∀ (pins : List (Addr × Obj)) (s : Shared) (σ : St) (H : Hp) (Q : VK), Inv X pins σ H s → t σ H Q → wpAny (model X.prog X.w) X.A (eval e X.env) (EP X pins σ Q) X.xe s
def PT (X : Cx) (e : Expr) (t : TT) : Prop :=
  ∀ (pins : List (Addr × Obj)) (s : Shared) (σ : St) (H : Hp) (Q : Bool → Hp → Prop), Inv X pins σ H s → t σ H Q → wpAny (model X.prog X.w) X.A (isTrue e X.env (eval e X.env)) (TP X pins σ Q) X.xe s
def PW (X : Cx) (e : Expr) (t : TT) : Prop :=
  ∀ (whole : Sem Value) (pins : List (Addr × Obj)) (s : Shared) (σ : St) (H : Hp) (Q : Bool → Hp → Prop), Inv X pins σ H s → t σ H Q → wpAny (model X.prog X.w) X.A (isTrue e X.env whole) (TP X pins σ Q) X.xe s
theorem PW.pt {X : Cx} {e : Expr} {t : TT} (h : PW X e t) : PT X e t := h _
def PA (X : Cx) (es : List Expr) (t : TA) : Prop :=
  ∀ (pos : Pos) (pins : List (Addr × Obj)) (s : Shared) (σ : St) (H : Hp) (Q : List V → Hp → Prop), Inv X pins σ H s → t σ H Q → wpAny (model X.prog X.w) X.A (spliced (backTo pos (starEach es X.env))) (AP X pins σ Q) X.xe s
def PS (X : Cx) (st : Stmt) (t : TS) : Prop :=
  ∀ (pins : List (Addr × Obj)) (s : Shared) (σ : St) (H : Hp) (D : Ends), Inv X pins σ H s → t D σ H → wpAny (model X.prog X.w) X.A (exec st X.env) (SP X pins D) X.xe s
def PSs (X : Cx) (st : List Stmt) (t : TS) : Prop :=
  ∀ (pins : List (Addr × Obj)) (s : Shared) (σ : St) (H : Hp) (D : Ends), Inv X pins σ H s → t D σ H → wpAny (model X.prog X.w) X.A (execs st X.env) (SP X pins D) X.xe s
theorem thn {α : Type} {t : Sem α} {Q Q' : α → Shared → Prop} {M : Model} {A : Around} {E : Value → Shared → Prop} {s : Shared} (h : wpAny M A t Q E s) (hQ : ∀ a s, Q a s → Q' a s) : wpAny M A t Q' E s := wpAny_mono h hQ fun _ _ x => x
end L2
namespace L2
open PySem PySem.Spec PyProof.Rows
section
variable {X : Cx}
theorem bin {a b : Expr} {ta tb : TE} (ha : PE X a ta) (hb : PE X b tb) {pins : List (Addr × Obj)} {s : Shared} {σ : St} {H : Hp} {R : V → V → Hp → Prop} (I : Inv X pins σ H s) (h : ta σ H fun x H1 => tb σ H1 fun y H2 => R x y H2)
    {α : Type} {Q : α → Shared → Prop} {f : Value → Value → Sem α}
    (hf : ∀ v u s2 x y H2, Inv X pins σ H2 s2 → RelV x v → RelV y u → R x y H2 → wpAny (model X.prog X.w) X.A (f v u) Q X.xe s2) :
    wpAny (model X.prog X.w) X.A (eval a X.env) (fun v s₁ => wpAny (model X.prog X.w) X.A (eval b X.env) (fun u s₂ => wpAny (model X.prog X.w) X.A (f v u) Q X.xe s₂) X.xe s₁) X.xe s := by
  refine thn (ha pins s σ H _ I h) fun v s1 ⟨x, H1, I1, r1, q1⟩ => ?_
  refine thn (hb pins s1 σ H1 _ I1 q1) fun u s2 ⟨y, H2, I2, r2, q2⟩ => ?_
  exact hf v u s2 x y H2 I2 r1 r2 q2
def tVar (i : Nat) : TE := fun σ H Q => ∃ v, σ[i]? = some (some v) ∧ Q v H
def tC (v : V) : TE := fun _ H Q => Q v H
theorem pe_var {i : Nat} {x : Str} {pos : Pos} (hN : X.N[i]? = some x) (hv : Vis X.env.scope x) (hd : (x == ("__debug__" : Str)) = false := by decide) (hcd : (x == ("__classdict__" : Str)) = false := by decide) : PE X (.Name x pos) (tVar i) := by
  intro pins s σ H Q I h
  obtain ⟨v, e, h⟩ := h
  obtain ⟨m, hn, hl⟩ := I.loc
  obtain ⟨u, r, l⟩ := hl i x v hN e hv
  have fin : EP X pins σ Q u s := ⟨v, H, I, r, h⟩
  rcases l with ⟨hk, hm⟩ | ⟨hk, c, hc, hcell⟩
  · exact wpAny_Name (wpAny_loadName_local I.ok.kind hk hn hm fin) hd
  · rcases hk with hk | hk
    · exact wpAny_Name (wpAny_loadName_cell I.ok.kind hk hc hcell fin) hd
    · exact wpAny_Name (wpAny_loadName_free I.ok.kind hk hc hcell fin hcd) hd
theorem pe_int {i j pos} : PE X (.Constant (.int i) j pos) (tC (.int i)) := fun _ _ _ H _ I h => wpAny_Constant_int ⟨.int i, H, I.tok _, ⟨_, rfl⟩, h⟩
theorem pe_bl {b j pos} : PE X (.Constant (.bool b) j pos) (tC (.bl b)) := fun _ _ _ H _ I h => Constant_bool ⟨.bl b, H, I, rfl, h⟩
theorem pe_non {j pos} : PE X (.Constant .none j pos) (tC .non) := fun _ _ _ H _ I h => Constant_none ⟨.non, H, I, rfl, h⟩
theorem pe_str {x j pos} : PE X (.Constant (.str x) j pos) (tC (.str x)) := fun _ _ _ H _ I h => Calls.Constant_str ⟨.str x, H, I.tok _, ⟨_, rfl⟩, h⟩
def Gl (X : Cx) (x : Str) : Prop := X.env.kindOf x = some .globalImplicit
theorem ld_glob {E : Value → Shared → Prop} {pins : List (Addr × Obj)} {s : Shared} {σ : St} {H : Hp} {x : Str} {u : Value} {pos : Pos} {Q : Value → Shared → Prop} (I : Inv X pins σ H s) (hg : Gl X x) (hm : X.mg x = some u) (h : Q u s)
    (hd : (x == ("__debug__" : Str)) = false := by decide) : wpAny (model X.prog X.w) X.A (eval (.Name x pos) X.env) Q E s :=
  Calls.Name_function_global I.ok.kind hg (Calls.loadGlobal_global (by rw [I.ok.glob]; exact I.mod.glob.keeps I.bk) hm h) hd
theorem ld_blt {E : Value → Shared → Prop} {pins : List (Addr × Obj)} {s : Shared} {σ : St} {H : Hp} {x : Str} {u : Value} {pos : Pos} {Q : Value → Shared → Prop} (I : Inv X pins σ H s) (hg : Gl X x) (hm : X.mg x = none) (hv : bootBuiltins x = some u) (h : Q u s)
    (hn : x ≠ "__name__" := by decide) (hd : (x == ("__debug__" : Str)) = false := by decide) : wpAny (model X.prog X.w) X.A (eval (.Name x pos) X.env) Q E s := by
  obtain ⟨mb, h1, h2⟩ := I.mod.blt
  exact Calls.Name_function_global I.ok.kind hg (Calls.loadGlobal_builtin (by rw [I.ok.glob]; exact I.mod.glob.keeps I.bk) hm (by rw [I.ok.blt]; exact h1.keeps I.bk) ((h2 x hn).trans hv) h) hd
theorem pe_bltn {x : Str} {v : V} {u : Value} {pos : Pos} (hg : Gl X x) (hm : X.mg x = none) (hv : bootBuiltins x = some u) (r : RelV v u) (hn : x ≠ "__name__" := by decide) (hd : (x == ("__debug__" : Str)) = false := by decide) : PE X (.Name x pos) (tC v) :=
  fun _ _ _ H _ I h => ld_blt I hg hm hv ⟨v, H, I, r, h⟩ hn hd
def t2I (ta tb : TE) (k : Int → Int → Hp → Prop) : St → Hp → Prop := fun σ H => ta σ H fun x H1 => tb σ H1 fun y H2 => ∃ i j, x = .int i ∧ y = .int j ∧ k i j H2
def tAdd (ta tb : TE) : TE := fun σ H Q => t2I ta tb (fun i j H2 => Q (.int (i + j)) H2) σ H
def tSub (ta tb : TE) : TE := fun σ H Q => t2I ta tb (fun i j H2 => Q (.int (i - j)) H2) σ H
def tMul (ta tb : TE) : TE := fun σ H Q => t2I ta tb (fun i j H2 => (-(2 ^ 64) < i ∧ i < 2 ^ 64) ∧ Q (.int (i * j)) H2) σ H
variable {a b : Expr} {ta tb : TE} {pos : Pos}
def PC (X : Cx) (op : CmpOp) (a b : Expr) (t : TE) : Prop :=
  ∀ (pins : List (Addr × Obj)) (s : Shared) (σ : St) (H : Hp) (Q : VK), Inv X pins σ H s → t σ H Q →
    wpAny (model X.prog X.w) X.A (eval a X.env) (fun v s₁ => wpAny (model X.prog X.w) X.A (eval b X.env) (fun u s₂ => wpAny (model X.prog X.w) X.A (compareOp op v u) (EP X pins σ Q) X.xe s₂) X.xe s₁) X.xe s
def tCmp (p : Int → Int → Bool) (ta tb : TE) : TE := fun σ H Q => t2I ta tb (fun i j H2 => Q (.bl (p i j)) H2) σ H
abbrev tLt : TE → TE → TE := tCmp fun i j => decide (i < j)
abbrev tLe : TE → TE → TE := tCmp fun i j => decide (i ≤ j)
abbrev tGt : TE → TE → TE := tCmp fun i j => decide (j < i)
abbrev tGe : TE → TE → TE := tCmp fun i j => decide (j ≤ i)
abbrev tEqI : TE → TE → TE := tCmp fun i j => decide (i = j)
abbrev tNeI : TE → TE → TE := tCmp fun i j => !decide (i = j)
def tIsN (ta : TE) : TE := fun σ H Q => ta σ H fun x H1 => Q (.bl (decide (x = .non))) H1
def tNotN (ta : TE) : TE := fun σ H Q => ta σ H fun x H1 => Q (.bl (!decide (x = .non))) H1
def tB (t : TE) : TT := fun σ H Q => t σ H fun x H1 => ∃ c, x = .bl c ∧ Q c H1
theorem pt_cmp {op : CmpOp} {t : TE} (h : PC X op a b t) (h1 : behindInMarks op b = false := by first | exact nobehind _ (by decide) (by decide) | rfl) : PT X (.Compare a [op] [b] pos) (tB t) := by
  intro pins s σ H Q I hw
  refine wpAny_isTrue_Compare1 (thn (h pins s σ H _ I hw) fun v s1 h1 => thn h1 fun u s2 h2 => thn h2 fun c s3 ⟨x, H1, I1, r1, q1⟩ => ?_) h1
  obtain ⟨d, rfl, q⟩ := q1
  cases r1
  exact wpAny_truthy_bool ⟨H1, I1, q⟩
theorem pt_val {e : Expr} {t : TE} (h : PE X e t) (he : ∀ whole, isTrue e X.env whole = (do let v ← whole; standAt e.pos; holding [v] (truthy v)) := by intro _; rfl) : PT X e (tB t) := by
  intro pins s σ H Q I hw
  refine isTrue_plain (thn (h pins s σ H _ I hw) fun v s1 ⟨x, H1, I1, r1, q1⟩ => ?_) (he _)
  obtain ⟨d, rfl, q⟩ := q1
  cases r1
  exact wpAny_truthy_bool ⟨H1, I1, q⟩
variable {tA tB' : TT} {rest : List Expr}
def tAnd (t u : TT) : TT := fun σ H Q => t σ H fun c H1 => if c = true then u σ H1 Q else Q false H1
def tOr (t u : TT) : TT := fun σ H Q => t σ H fun c H1 => if c = true then Q true H1 else u σ H1 Q
def tNot (t : TT) : TT := fun σ H Q => t σ H fun c H1 => Q (!c) H1
theorem pw_and1 (ha : PT X a tA) : PW X (.BoolOp .And [a] pos) tA := by
  intro wh pins s σ H Q I h
  refine isTrue_and (thn (ha pins s σ H Q I h) fun c s1 e => ?_)
  cases c with
  | true => exact isTrue_and_nil e
  | false => exact e
theorem pw_or1 (ha : PT X a tA) : PW X (.BoolOp .Or [a] pos) tA := by
  intro wh pins s σ H Q I h
  refine isTrue_or (thn (ha pins s σ H Q I h) fun c s1 e => ?_)
  cases c with
  | false => exact isTrue_or_nil e
  | true => exact e
theorem pw_and (ha : PT X a tA) (hb : PW X (.BoolOp .And (b :: rest) pos) tB') : PW X (.BoolOp .And (a :: b :: rest) pos) (tAnd tA tB') := by
  intro wh pins s σ H Q I h
  refine isTrue_and (thn (ha pins s σ H _ I h) fun c s1 ⟨H1, I1, q1⟩ => ?_)
  cases c with
  | true => exact hb wh pins s1 σ H1 Q I1 q1
  | false => exact ⟨H1, I1, q1⟩
theorem pw_or (ha : PT X a tA) (hb : PW X (.BoolOp .Or (b :: rest) pos) tB') : PW X (.BoolOp .Or (a :: b :: rest) pos) (tOr tA tB') := by
  intro wh pins s σ H Q I h
  refine isTrue_or (thn (ha pins s σ H _ I h) fun c s1 ⟨H1, I1, q1⟩ => ?_)
  cases c with
  | true => exact ⟨H1, I1, q1⟩
  | false => exact hb wh pins s1 σ H1 Q I1 q1
theorem pt_not (ha : PT X a tA) : PT X (.UnaryOp .Not a pos) (tNot tA) := by
  intro pins s σ H Q I h
  exact isTrue_not (ha pins s σ H (fun c H1 => Q (!c) H1) I h)
def tAndV (ta tb : TE) : TE := fun σ H Q => ta σ H fun x H1 => ∃ c, x = .bl c ∧ if c = true then tb σ H1 Q else Q (.bl false) H1
def tOrV (ta tb : TE) : TE := fun σ H Q => ta σ H fun x H1 => ∃ c, x = .bl c ∧ if c = true then Q (.bl true) H1 else tb σ H1 Q
def tNotV (ta : TE) : TE := fun σ H Q => ta σ H fun x H1 => ∃ c, x = .bl c ∧ Q (.bl (!c)) H1
theorem pe_one {op} {t : TE} (h : PE X a t) : PE X (.BoolOp op [a] pos) t := fun pins s σ H Q I hw => BoolOp_one (h pins s σ H Q I hw)
theorem pe_and (ha : PE X a ta) (hb : PE X (.BoolOp .And (b :: rest) pos) tb) : PE X (.BoolOp .And (a :: b :: rest) pos) (tAndV ta tb) := by
  intro pins s σ H Q I h
  refine BoolOp_and (thn (ha pins s σ H _ I h) fun v s1 ⟨x, H1, I1, r1, q1⟩ => ?_)
  obtain ⟨c, rfl, q1⟩ := q1
  cases r1
  refine wpAny_truthy_bool ?_
  cases c with
  | true => exact hb pins s1 σ H1 Q I1 q1
  | false => exact ⟨.bl false, H1, I1, rfl, q1⟩
theorem pe_or (ha : PE X a ta) (hb : PE X (.BoolOp .Or (b :: rest) pos) tb) : PE X (.BoolOp .Or (a :: b :: rest) pos) (tOrV ta tb) := by
  intro pins s σ H Q I h
  refine BoolOp_or (thn (ha pins s σ H _ I h) fun v s1 ⟨x, H1, I1, r1, q1⟩ => ?_)
  obtain ⟨c, rfl, q1⟩ := q1
  cases r1
  refine wpAny_truthy_bool ?_
  cases c with
  | false => exact hb pins s1 σ H1 Q I1 q1
  | true => exact ⟨.bl true, H1, I1, rfl, q1⟩
theorem pe_not (ha : PE X a ta) : PE X (.UnaryOp .Not a pos) (tNotV ta) := by
  intro pins s σ H Q I h
  refine UnaryOp_ (thn (ha pins s σ H _ I h) fun v s1 ⟨x, H1, I1, r1, q1⟩ => ?_)
  obtain ⟨c, rfl, q1⟩ := q1
  cases r1
  exact not_of (wpAny_truthy_bool ⟨.bl (!c), H1, I1, rfl, q1⟩)
def tIf (t : TT) (ta tb : TE) : TE := fun σ H Q => t σ H fun c H1 => if c = true then ta σ H1 Q else tb σ H1 Q
theorem pe_ifExp {c : Expr} (hc : PT X c tA) (ha : PE X a ta) (hb : PE X b tb) : PE X (.IfExp c a b pos) (tIf tA ta tb) := by
  intro pins s σ H Q I h
  refine wpAny_IfExp (thn (hc pins s σ H _ I h) fun d s1 ⟨H1, I1, q1⟩ => ?_)
  cases d with
  | true => exact ha pins s1 σ H1 Q I1 q1
  | false => exact hb pins s1 σ H1 Q I1 q1
end
end L2
namespace L2
open PySem PySem.Spec PyProof.Rows
def SqL (K : PySem.W.Frag) (H : Hp) (a : Addr) (xs : List V) : Prop :=
  Rd H a (.lst xs) ∨
    ∃ (o : Obj) (its : Array Value) (n : Nat), K.lookup a = some o ∧ o.cls = .type "list" ∧ o.dict = none ∧ o.data = .seq its n ∧ its.size ≤ sizeLine ∧ Vals xs its.toList
def SqT (K : PySem.W.Frag) (H : Hp) (a : Addr) (xs : List V) : Prop :=
  Rd H a (.tup xs) ∨
    ∃ (o : Obj) (its : Array Value) (n : Nat), K.lookup a = some o ∧ o.cls = .type "tuple" ∧ o.data = .seq its n ∧ its.size ≤ sizeLine ∧ Vals xs its.toList
def absV : Value → Option V
  | .none => some .non
  | .bool b => some (.bl b)
  | .int i _ => some (.int i)
  | .str x _ => some (.str x)
  | .bytes b _ => some (.byt b)
  | .float b _ => some (.flt b)
  | .ref a => some (.ref a)
  | .type n => some (.ty n)
  | _ => none
theorem RelV.abs {x : V} {u : Value} (r : RelV x u) : absV u = some x := by
  cases x with
  | non => cases r; rfl
  | bl _ => cases r; rfl
  | int _ => obtain ⟨t, rfl⟩ := r; rfl
  | str _ => obtain ⟨t, rfl⟩ := r; rfl
  | byt _ => obtain ⟨t, rfl⟩ := r; rfl
  | flt _ => obtain ⟨t, rfl⟩ := r; rfl
  | ref _ => cases r; rfl
  | ty _ => cases r; rfl
theorem RelV.inj {x y : V} {u : Value} (r : RelV x u) (q : RelV y u) : x = y := Option.some.inj (r.abs.symm.trans q.abs)
theorem Vals.inj : ∀ {xs ys : List V} {us : List Value}, Vals xs us → Vals ys us → xs = ys
  | _, _, _, .nil, .nil => rfl
  | _, _, _, .cons r t, .cons r' t' => by rw [r.inj r', Vals.inj t t']
section
variable {X : Cx} {pins : List (Addr × Obj)} {σ : St} {H : Hp} {s : Shared} {a : Addr} {xs ys : List V}
theorem SqL.of {K : PySem.W.Frag} (h : H a = some (.lst xs)) : SqL K H a xs := .inl (.inl h)
theorem SqT.of {K : PySem.W.Frag} (h : H a = some (.tup xs)) : SqT K H a xs := .inl (.inl h)
theorem Inv.list (I : Inv X pins σ H s) (h : SqL X.K H a xs) : ∃ its : List Value, Vals xs its ∧ PlainL s.heap a its.toArray ∧ xs.length ≤ sizeLine := by
  rcases h with h | ⟨o, its, n, hk, hc, hd, hs, hz, r⟩
  · obtain ⟨z, its, n, r, e⟩ := h.ok I.hok
    exact ⟨its, r, ⟨_, n, e, rfl, rfl, rfl⟩, z⟩
  · refine ⟨its.toList, r, ⟨o, n, I.kIn a o hk, hc, hd, by simpa using hs⟩, ?_⟩
    have e := r.length
    simp only [Array.length_toList] at e
    omega
theorem Inv.tuple (I : Inv X pins σ H s) (h : SqT X.K H a xs) : ∃ its : List Value, Vals xs its ∧ IsTup s.heap a its.toArray ∧ xs.length ≤ sizeLine := by
  rcases h with h | ⟨o, its, n, hk, hc, hs, hz, r⟩
  · obtain ⟨z, its, r, p⟩ := h.ok I.hok
    exact ⟨its, r, p, z⟩
  · refine ⟨its.toList, r, ⟨o, I.kIn a o hk, hc, n, by simpa using hs⟩, ?_⟩
    have e := r.length
    simp only [Array.length_toList] at e
    omega
theorem Inv.list_inj (I : Inv X pins σ H s) (h : SqL X.K H a xs) (h' : SqL X.K H a ys) : xs = ys := by
  obtain ⟨its, r, ⟨o, n, e, _, _, d⟩, _⟩ := I.list h
  obtain ⟨its', r', ⟨o', n', e', _, _, d'⟩, _⟩ := I.list h'
  rw [e] at e'; cases e'
  rw [d] at d'
  injection d' with d1 _
  have : its = its' := by simpa using congrArg Array.toList d1
  subst this
  exact r.inj r'
theorem Inv.tuple_inj (I : Inv X pins σ H s) (h : SqT X.K H a xs) (h' : SqT X.K H a ys) : xs = ys := by
  obtain ⟨its, r, ⟨o, e, _, n, d⟩, _⟩ := I.tuple h
  obtain ⟨its', r', ⟨o', e', _, n', d'⟩, _⟩ := I.tuple h'
  rw [e] at e'; cases e'
  rw [d] at d'
  injection d' with d1 _
  have : its = its' := by simpa using congrArg Array.toList d1
  subst this
  exact r.inj r'
end
abbrev Cx.wish (X : Cx) (E : Value → Shared → Prop) : Cx := { X with xe := E }
abbrev Cx.nox (X : Cx) : Cx := X.wish fun _ _ => False
theorem Cx.Ok.wish {X : Cx} (ok : X.Ok) (E : Value → Shared → Prop) : (X.wish E).Ok :=
  ⟨ok.mod, ok.kind, ok.glob, ok.blt, ok.above, ok.inj, ok.has, ok.cab, ok.hd, ok.frames, ok.stk, ok.exf, ok.bs, ok.bsz, ok.noex, ok.exfs, ok.funs, ok.frf⟩
theorem Cx.Ok.unwish {X : Cx} {E : Value → Shared → Prop} (ok : (X.wish E).Ok) : X.Ok :=
  ⟨ok.mod, ok.kind, ok.glob, ok.blt, ok.above, ok.inj, ok.has, ok.cab, ok.hd, ok.frames, ok.stk, ok.exf, ok.bs, ok.bsz, ok.noex, ok.exfs, ok.funs, ok.frf⟩
section
variable {X : Cx} {pins : List (Addr × Obj)} {σ : St} {H : Hp} {s : Shared} {E : Value → Shared → Prop}
theorem Inv.wish (I : Inv X pins σ H s) (E : Value → Shared → Prop) : Inv (X.wish E) pins σ H s := ⟨I.ok.wish E, I.os, I.bare, I.base, I.loc, I.cell, I.free, I.freeC, I.pin, I.hok, I.len⟩
theorem Inv.unwish (I : Inv (X.wish E) pins σ H s) : Inv X pins σ H s := ⟨I.ok.unwish, I.os, I.bare, I.base, I.loc, I.cell, I.free, I.freeC, I.pin, I.hok, I.len⟩
theorem SP.unwish {D : Ends} {f : Flow} {s' : Shared} (h : SP (X.wish E) pins D f s') : SP X pins D f s' := by
  cases f with
  | next => obtain ⟨σ', H', I, q⟩ := h; exact ⟨σ', H', I.unwish, q⟩
  | brk => obtain ⟨σ', H', I, q⟩ := h; exact ⟨σ', H', I.unwish, q⟩
  | cont => obtain ⟨σ', H', I, q⟩ := h; exact ⟨σ', H', I.unwish, q⟩
  | ret u => obtain ⟨v, σ', H', I, r, q⟩ := h; exact ⟨v, σ', H', I.unwish, r, q⟩
theorem PSs.nox {st : List Stmt} {t : TS} (h : PSs X.nox st t) : PSs X st t := fun pins s σ H D I hw =>
  wpAny_mono (h pins s σ H D (I.wish _) hw) (fun _ _ q => q.unwish) fun _ _ z => False.elim z
end
section
variable {X : Cx} {st : Stmt} {rest : List Stmt} {t u : TS} {e : Expr} {te : TE} {pos : Pos}
def tNext : TS := fun D σ H => D.nx σ H
def tSeq (t u : TS) : TS := fun D σ H => t { D with nx := u D } σ H
theorem pss_nil : PSs X [] tNext := fun _ _ σ H _ I h => wpAny_execs_nil ⟨σ, H, I, h⟩
theorem pss_cons (h1 : PS X st t) (h2 : PSs X rest u) : PSs X (st :: rest) (tSeq t u) := by
  intro pins s σ H D I h
  refine wpAny_execs_cons (thn (h1 pins s σ H { D with nx := u D } I h) fun f s1 q => ?_)
  cases f with
  | next =>
    obtain ⟨σ', H', I', q⟩ := q
    exact h2 pins s1 σ' H' D I' q
  | ret v => exact q
  | brk => exact q
  | cont => exact q
theorem pss_one (h1 : PS X st t) : PSs X [st] t := by
  intro pins s σ H D I h
  refine wpAny_execs_cons (thn (h1 pins s σ H D I h) fun f s1 q => ?_)
  cases f with
  | next => exact wpAny_execs_nil q
  | ret v => exact q
  | brk => exact q
  | cont => exact q
def tBreak : TS := fun D σ H => D.bk σ H
def tCont : TS := fun D σ H => D.ct σ H
theorem Inv.quiet {pins : List (Addr × Obj)} {σ : St} {H : Hp} {s : Shared} (I : Inv X pins σ H s) : interactive X.env = false := by simp [interactive, I.ok.kind]
def tDrop (te : TE) : TS := fun D σ H => te σ H fun _ H1 => D.nx σ H1
theorem ps_expr (he : PE X e te) (hs : swapsWith e none pos.line X.env = pure false := by rfl) : PS X (.Expr e pos) (tDrop te) := by
  intro pins s σ H D I h
  exact wpAny_Expr_any (thn (he pins s σ H _ I h) fun v s1 ⟨x, H1, I1, r1, q1⟩ => ⟨σ, H1, I1, q1⟩) I.quiet hs
def tRet (te : TE) : TS := fun D σ H => te σ H D.rt
theorem ps_ret (he : PE X e te) : PS X (.Return (some e) pos) (tRet te) := by
  intro pins s σ H D I h
  exact wpAny_Return_some (thn (he pins s σ H _ I h) fun v s1 ⟨x, H1, I1, r1, q1⟩ => ⟨x, σ, H1, I1, r1, q1⟩)
def tRetN : TS := fun D _ H => D.rt .non H
def tIfS (c : TT) (t u : TS) : TS := fun D σ H => c σ H fun b H1 => if b = true then t D σ H1 else u D σ H1
theorem ps_if {c : Expr} {a b : List Stmt} {tc : TT} (hc : PT X c tc) (ha : PSs X a t) (hb : PSs X b u) : PS X (.If c a b pos) (tIfS tc t u) := by
  intro pins s σ H D I h
  refine wpAny_If (thn (hc pins s σ H _ I h) fun d s1 ⟨H1, I1, q1⟩ => ?_)
  cases d with
  | true => exact ha pins s1 σ H1 D I1 q1
  | false => exact hb pins s1 σ H1 D I1 q1
def tNever : TS := fun _ _ _ => False
end
abbrev TG := V → St → Hp → (St → Hp → Prop) → Prop
abbrev TGs := List V → St → Hp → (St → Hp → Prop) → Prop
def PG (X : Cx) (target : Expr) (t : TG) : Prop :=
  ∀ (pins : List (Addr × Obj)) (s : Shared) (σ : St) (H : Hp) (v : V) (u : Value) (Q : St → Hp → Prop), Inv X pins σ H s → RelV v u → t v σ H Q →
    wpAny (model X.prog X.w) X.A (assign target X.env u) (fun _ s' => ∃ σ' H', Inv X pins σ' H' s' ∧ Q σ' H') X.xe s
def PGs (X : Cx) (ts : List Expr) (t : TGs) : Prop :=
  ∀ (pins : List (Addr × Obj)) (s : Shared) (σ : St) (H : Hp) (vs : List V) (us : List Value) (Q : St → Hp → Prop), Inv X pins σ H s → Vals vs us → t vs σ H Q →
    wpAny (model X.prog X.w) X.A (assignInOrder ((assignEach ts X.env).map (·.2)) us) (fun _ s' => ∃ σ' H', Inv X pins σ' H' s' ∧ Q σ' H') X.xe s
abbrev TSet := V → V → V → Hp → (Hp → Prop) → Prop
def PSet (X : Cx) (t : TSet) : Prop :=
  ∀ (pins : List (Addr × Obj)) (s : Shared) (σ : St) (H : Hp) (o i v : V) (ov iv u : Value) (Q : Hp → Prop), Inv X pins σ H s → RelV o ov → RelV i iv → RelV v u → t o i v H Q →
    wpAny (model X.prog X.w) X.A (setItem ov iv u) (fun _ s' => ∃ H', Inv X pins σ H' s' ∧ Q H') X.xe s
abbrev TIp := V → V → Hp → VK → Prop
def PIp (X : Cx) (op : Operator) (t : TIp) : Prop :=
  ∀ (pins : List (Addr × Obj)) (s : Shared) (σ : St) (H : Hp) (x y : V) (v u : Value) (Q : VK), Inv X pins σ H s → RelV x v → RelV y u → t x y H Q →
    wpAny (model X.prog X.w) X.A (inplaceOp op v u) (EP X pins σ Q) X.xe s
section
variable {X : Cx} {pos : Pos}
def gName (i : Nat) : TG := fun v σ H Q => Q (σ.set i (some v)) H
theorem pg_name {i : Nat} {x : Str} (hN : X.N.Nodup) (hi : X.N[i]? = some x) (hx : Loc X.env.scope x) (hf : X.fn x = true ∨ X.env.scope.names.lookup x = some .local := by first | exact .inl rfl | exact .inr rfl | assumption) : PG X (.Name x pos) (gName i) := by
  intro pins s σ H v u Q I r h
  exact wpAny_assign_Name (store_ok I hN hi hx r (fun s' I' => ⟨_, H, I', h⟩) hf)
def gNil : TGs := fun vs σ H Q => vs = [] ∧ Q σ H
def gCons (t : TG) (u : TGs) : TGs := fun vs σ H Q => ∃ v r, vs = v :: r ∧ t v σ H fun σ' H' => u r σ' H' Q
theorem pgs_nil : PGs X [] gNil := by
  intro pins s σ H vs us Q I r h
  obtain ⟨e, h⟩ := h
  subst e
  cases r
  exact assignInOrder_nil ⟨σ, H, I, h⟩
theorem pgs_cons {e : Expr} {es : List Expr} {t : TG} {u : TGs} (h1 : PG X e t) (h2 : PGs X es u)
    (hs : (assignEach (e :: es) X.env).map (·.2) = assign e X.env :: (assignEach es X.env).map (·.2) := by rfl) : PGs X (e :: es) (gCons t u) := by
  intro pins s σ H vs us Q I r h
  obtain ⟨v, vr, e1, h⟩ := h
  subst e1
  cases r with
  | cons r rr =>
    rw [hs]
    refine assignInOrder_cons (thn (h1 pins s σ H _ _ _ I r h) fun _ s1 ⟨σ1, H1, I1, q1⟩ => ?_)
    exact h2 pins s1 σ1 H1 _ _ Q I1 rr q1
def gTup (K : PySem.W.Frag) (n : Nat) (t : TGs) : TG := fun v σ H Q => ∃ a xs, v = .ref a ∧ SqT K H a xs ∧ xs.length = n ∧ t xs σ H Q
theorem pg_tup {es : List Expr} {k : Nat} {t : TGs} {n : Nat} (hc : X.calm = true) (h : PGs X es t)
    (hn : (assignEach es X.env).length = n := by rfl) (hst : (assignEach es X.env).findIdx? (·.1) = none := by rfl) : PG X (.Tuple es k pos) (gTup X.K n t) := by
  intro pins s σ H v u Q I r hw
  obtain ⟨a, xs, e1, hq, hl, hw⟩ := hw
  subst e1
  cases r
  obtain ⟨its, rv, ht, hz⟩ := I.tuple hq
  refine assign_Tuple_tuple (I.ok.hd hc) ht (by simp [hn, ← hl, rv.length]) hst fun h' hx => ?_
  have I1 : Inv X pins σ H { s with heap := h' } := I.kept (t' := s.toks) fun b o e => hx b o (Nat.ne_of_lt (Heap.lt_size e)) e
  exact h pins _ σ H xs _ Q I1 (by simpa using rv) hw
def gSub (to ti : TE) (t : TSet) : TG := fun v σ H Q => to σ H fun o H1 => ti σ H1 fun i H2 => t o i v H2 fun H3 => Q σ H3
theorem pg_sub {o i : Expr} {to ti : TE} {t : TSet} (ho : PE X o to) (hi : PE X i ti) (hs : PSet X t)
    (ha : ∀ v, assign (.Subscript o i pos) X.env v = (do
      let ov ← holding [v] (eval o X.env)
      let iv ← holding [v, ov] (eval i X.env)
      standAt pos
      holding [v, ov, iv] (setItem ov iv v)
      release [v, ov, iv] []) := by intro _; rfl) : PG X (.Subscript o i pos) (gSub to ti t) := by
  intro pins s σ H v u Q I r h
  rw [ha]
  refine wpAny_bind (wpAny_holding (thn (ho pins s σ H _ I h) fun ov s1 ⟨x, H1, I1, r1, q1⟩ => ?_))
  refine wpAny_bind (wpAny_holding (thn (hi pins s1 σ H1 _ I1 q1) fun iv s2 ⟨y, H2, I2, r2, q2⟩ => ?_))
  refine wpAny_bind (wpAny_standAt (wpAny_bind (wpAny_holding (thn (hs pins s2 σ H2 x y v ov iv u _ I2 r1 r2 r q2) fun _ s3 ⟨H3, I3, q3⟩ => ?_))))
  exact wpAny_release ⟨σ, H3, I3, q3⟩
def tAsg (te : TE) (g : TG) : TS := fun D σ H => te σ H fun x H1 => g x σ H1 D.nx
theorem ps_asg {tg e : Expr} {te : TE} {g : TG} (he : PE X e te) (hg : PG X tg g) (hs : swapsWithSole [tg] e pos.line X.env = pure false := by rfl) (hw : swappedStores [tg] e X.env = pure none := by rfl)
    (h1 : (assignEach [tg] X.env).map (·.2) = [assign tg X.env] := by rfl) : PS X (.Assign [tg] e pos) (tAsg te g) := by
  intro pins s σ H D I h
  refine wpAny_Assign_stores (thn (he pins s σ H _ I h) fun v s1 ⟨x, H1, I1, r1, q1⟩ => ?_) hs hw
  rw [h1]
  exact thn (hg pins s1 σ H1 x v _ I1 r1 q1) fun _ s2 q => q
theorem ps_set {i : Nat} {x : Str} {e : Expr} {te : TE} {pos' : Pos} (hN : X.N.Nodup) (hi : X.N[i]? = some x) (hx : Loc X.env.scope x) (he : PE X e te) (hs : swapsWith e (some (.Name x pos')) pos.line X.env = pure false := by rfl) (hf : X.fn x = true ∨ X.env.scope.names.lookup x = some .local := by first | exact .inl rfl | exact .inr rfl | assumption) :
    PS X (.Assign [.Name x pos'] e pos) (tAsg te (gName i)) := by
  intro pins s σ H D I h
  refine wpAny_Assign_Name (thn (he pins s σ H _ I h) fun v s1 ⟨y, H1, I1, r1, q1⟩ => ?_) hs
  exact store_ok I1 hN hi hx r1 (fun s2 I2 => ⟨_, H1, I2, q1⟩) hf
def tPar (i j : Nat) (ta : TA) : TS := fun D σ H => ta σ H fun vs H1 => ∃ v w, vs = [v, w] ∧ D.nx ((σ.set i (some v)).set j (some w)) H1
def tAug (i : Nat) (te : TE) (ti : TIp) : TS := fun D σ H => ∃ x, σ[i]? = some (some x) ∧ te σ H fun y H1 => ti x y H1 fun z H2 => D.nx (σ.set i (some z)) H2
def tAugS (to ti te : TE) (tget : V → V → Hp → VK → Prop) (tip : TIp) (tset : TSet) : TS := fun D σ H => to σ H fun o H1 => ti σ H1 fun i H2 => tget o i H2 fun x H3 => te σ H3 fun y H4 => tip x y H4 fun z H5 => tset o i z H5 fun H6 => D.nx σ H6
def PGet (X : Cx) (t : V → V → Hp → VK → Prop) : Prop :=
  ∀ (pins : List (Addr × Obj)) (s : Shared) (σ : St) (H : Hp) (o i : V) (ov iv : Value) (Q : VK), Inv X pins σ H s → RelV o ov → RelV i iv → t o i H Q →
    wpAny (model X.prog X.w) X.A (getItem ov iv) (EP X pins σ Q) X.xe s
theorem ps_augS {o i e : Expr} {to ti te : TE} {tget : V → V → Hp → VK → Prop} {tip : TIp} {tset : TSet} {op : Operator} {tpos : Pos} (ho : PE X o to) (hi : PE X i ti) (hg : PGet X tget) (he : PE X e te) (hp : PIp X op tip) (hs : PSet X tset)
    (ha : ∀ ov iv new, augStore i ov iv new = (do holding [new, ov, iv] (setItem ov iv new); release [new, ov, iv] []; pure .next) := by intros; rfl) : PS X (.AugAssign (.Subscript o i tpos) op e pos) (tAugS to ti te tget tip tset) := by
  intro pins s σ H D I h
  refine wpAny_AugAssign_SubscriptAny (thn (ho pins s σ H _ I h) fun ov s1 ⟨x1, H1, I1, r1, q1⟩ => ?_) ha
  refine thn (hi pins s1 σ H1 _ I1 q1) fun iv s2 ⟨x2, H2, I2, r2, q2⟩ => ?_
  refine thn (hg pins s2 σ H2 x1 x2 ov iv _ I2 r1 r2 q2) fun old s3 ⟨x3, H3, I3, r3, q3⟩ => ?_
  refine thn (he pins s3 σ H3 _ I3 q3) fun v s4 ⟨x4, H4, I4, r4, q4⟩ => ?_
  refine thn (hp pins s4 σ H4 x3 x4 old v _ I4 r3 r4 q4) fun new s5 ⟨x5, H5, I5, r5, q5⟩ => ?_
  exact thn (hs pins s5 σ H5 x1 x2 x5 ov iv new _ I5 r1 r2 r5 q5) fun _ s6 ⟨H6, I6, q6⟩ => ⟨σ, H6, I6, q6⟩
def ipI (f : Int → Int → Int) : TIp := fun x y H Q => ∃ i j, x = .int i ∧ y = .int j ∧ Q (.int (f i j)) H
theorem ip_add : PIp X .Add (ipI fun i j => i + j) := by
  intro pins s σ H x y v u Q I r1 r2 h
  obtain ⟨i, j, e1, e2, q⟩ := h
  subst e1; subst e2
  obtain ⟨t, rfl⟩ := r1
  obtain ⟨t', rfl⟩ := r2
  exact iadd_int ⟨.int _, H, I.tok _, ⟨_, rfl⟩, q⟩
end
section
variable {X : Cx} {pos : Pos}
def tWhile (c : TT) (tb : TS) : TS := fun D σ H => ∃ W : Nat → St → Hp → Prop, (∃ m, W m σ H) ∧ ∀ m σ H, W m σ H →
  c σ H fun b H1 => if b = true then ∃ N : St → Hp → Prop, (∀ σ' H', N σ' H' → ∃ m', m' < m ∧ W m' σ' H') ∧ tb { D with nx := N, ct := N, bk := D.nx } σ H1 else D.nx σ H1
end
structure It where
  go : Nat → Hp → Prop
  yld : Nat → Hp → V → Hp → Prop
  stop : Nat → Hp → Prop
def FpOk (X : Cx) (pins : List (Addr × Obj)) (H : Hp) (b : Addr) : Prop :=
  H b = none ∧ b ≠ X.env.locals ∧ b ∉ X.fs ∧ (b ∈ X.ex ∨ X.s₀.heap.objs.size ≤ b) ∧ (∀ x c, X.env.cells.lookup x = some c → c ≠ b) ∧ ∀ p ∈ X.pn ++ pins, p.1 ≠ b
theorem Inv.fpOk {X : Cx} {pins : List (Addr × Obj)} {σ : St} {H H' : Hp} {s : Shared} {b : Addr} (I : Inv X pins σ H s) (hb : s.heap.objs.size ≤ b) (hn : H' b = none) : FpOk X pins H' b := by
  refine ⟨hn, Nat.ne_of_gt (Nat.lt_of_lt_of_le I.lt hb), I.nofs hb, .inr (Nat.le_trans I.sz hb), fun x c e z => ?_, fun p hp z => ?_⟩
  · obtain ⟨v, q⟩ := I.cell x c e
    exact absurd (Nat.lt_of_lt_of_le q.lt (by rw [z]; exact hb)) (Nat.lt_irrefl _)
  · exact absurd (Nat.lt_of_lt_of_le (Heap.lt_size (I.pin p hp).1) (by rw [z]; exact hb)) (Nat.lt_irrefl _)
structure Turn (P : Program) (w : World) (K : PySem.W.Frag) (tg : Expr) (J : It) (fp : List Addr) (it : Addr) (tn : Nat → Heap → Prop) : Prop where
  mem : it ∈ fp
  obj : ∀ i h, tn i h → ∀ b ∈ fp, ∃ o, h.get? b = some o ∧ ∀ v, o.data ≠ .cell v
  keep : ∀ i h h', tn i h → (∀ b ∈ fp, ∀ o, h.get? b = some o → h'.get? b = some o) → tn i h'
  item : ∀ (X : Cx), X.prog = P → X.w = w → X.K = K → X.calm = true → ∀ (i : Nat) (pins : List (Addr × Obj)) (s : Shared) (σ : St) (H : Hp) (E : Value → Shared → Prop), Inv X pins σ H s → (∀ b ∈ fp, FpOk X pins H b) → tn i s.heap → J.go i H →
    wpAny (model P w) X.A (pyNext (.ref it)) (fun r s1 => ∃ u, r = some u ∧
      wpAny (model P w) X.A (letOwnedTupleGo tg (.ref it) u) (fun _ s2 => ∃ x H', Inv X pins σ H' s2 ∧ RelV x u ∧ J.yld i H x H' ∧ tn (i + 1) s2.heap ∧ ∀ b ∈ fp, H' b = none) E s1) E s
  done : ∀ (X : Cx), X.prog = P → X.w = w → X.K = K → X.calm = true → ∀ (i : Nat) (pins : List (Addr × Obj)) (s : Shared) (σ : St) (H : Hp) (E : Value → Shared → Prop), Inv X pins σ H s → (∀ b ∈ fp, FpOk X pins H b) → tn i s.heap → J.stop i H →
    wpAny (model P w) X.A (pyNext (.ref it)) (fun r s1 => r = none ∧ Inv X pins σ H s1) E s
  self : ∀ (A : Around) (i : Nat) (s : Shared) (Q : Value → Shared → Prop) (E : Value → Shared → Prop), tn i s.heap → Q (.ref it) s → wpAny (model P w) A (pyIter (.ref it)) Q E s
abbrev TI := St → Hp → (It → Hp → Prop) → Prop
def PIE (X : Cx) (pins : List (Addr × Obj)) (σ : St) (tg : Expr) (R : It → Hp → Prop) (itv : Value) (s2 : Shared) : Prop :=
  ∃ (it : Addr) (fp : List Addr) (tn : Nat → Heap → Prop) (J : It) (H' : Hp), itv = .ref it ∧ Inv X pins σ H' s2 ∧ Turn X.prog X.w X.K tg J fp it tn ∧ tn 0 s2.heap ∧ (∀ b ∈ fp, FpOk X pins H' b) ∧ R J H'
def PI (X : Cx) (tg iter : Expr) (wi : TI) : Prop :=
  ∀ (pins : List (Addr × Obj)) (s : Shared) (σ : St) (H : Hp) (R : It → Hp → Prop), Inv X pins σ H s → wi σ H R →
    wpAny (model X.prog X.w) X.A (eval iter X.env) (fun v s1 => wpAny (model X.prog X.w) X.A (pyIter v) (PIE X pins σ tg R) X.xe s1) X.xe s
theorem go_of {M : Model} {A : Around} {E : Value → Shared → Prop} {s : Shared} {tg : Expr} {it : Addr} {u : Value} {o : Obj} {n : String} {vs : Array Value} {Q : Unit → Shared → Prop} (ho : s.heap.get? it = some o) (hc : o.cls = .type n) (hd : o.data = .fields vs)
    (hn : ["enumerate", "zip", "dict_itemiterator", "dict_reverseitemiterator", "odict_iterator", "itertools.zip_longest", "itertools.pairwise"].contains n = false) (hQ : Q () s) : wpAny M A (letOwnedTupleGo tg (.ref it) u) Q E s := by
  unfold letOwnedTupleGo
  cases tg <;> first
    | exact wpAny_pure hQ
    | (cases u <;> first
        | exact wpAny_pure hQ
        | (refine wpAny_bind (wpAny_load ho ?_)
           rw [hc, hd]
           show wpAny M A (if (["enumerate", "zip", "dict_itemiterator", "dict_reverseitemiterator", "odict_iterator", "itertools.zip_longest", "itertools.pairwise"].contains n && vs[0]? == some (rawInt _)) = true then _ else _) Q E s
           rw [if_neg (by intro h; rw [hn, Bool.false_and] at h; cases h)]
           exact wpAny_pure hQ))
def Itl (K : PySem.W.Frag) (a : Addr) : It :=
  ⟨fun i H => ∃ xs x, SqL K H a xs ∧ xs[i]? = some x, fun i H x H' => H' = H ∧ ∀ xs, SqL K H a xs → xs[i]? = some x, fun i H => ∃ xs, SqL K H a xs ∧ xs.length ≤ i⟩
def Itt (K : PySem.W.Frag) (a : Addr) : It :=
  ⟨fun i H => ∃ xs x, SqT K H a xs ∧ xs[i]? = some x, fun i H x H' => H' = H ∧ ∀ xs, SqT K H a xs → xs[i]? = some x, fun i H => ∃ xs, SqT K H a xs ∧ xs.length ≤ i⟩
def Itr (lo : Int) (n : Nat) : It := ⟨fun i _ => i < n, fun i H x H' => H' = H ∧ x = .int (lo + i), fun i _ => n ≤ i⟩
theorem turn_list {P : Program} {w : World} {K : PySem.W.Frag} {tg : Expr} (a it : Addr) : Turn P w K tg (Itl K a) [it] it (fun i h => h.IsListIter it a i) where
  mem := by simp
  obj := fun i h st b hb => by
    have e : b = it := by simpa using hb
    subst e
    obtain ⟨o, e, c, d⟩ := st
    exact ⟨o, e, fun v z => by rw [d] at z; cases z⟩
  keep := fun i h h' st k => st.at fun o e => k it (by simp) o e
  item := by
    intro X hP hw hK hc i pins s σ H E I hf st hg
    subst hP hw hK
    obtain ⟨xs, x, hq, hx⟩ := hg
    obtain ⟨its, rv, p, hz⟩ := I.list hq
    obtain ⟨u, hu, ru⟩ := rv.get hx
    obtain ⟨f0, f1, f2, f3, f4, f5⟩ := hf it (by simp)
    refine wpAny_pyNext_list_item st p.isList (x := u) (by simpa using hu) fun h' st' sb => ?_
    have I1 : Inv X pins σ H { s with heap := h' } := I.turned (t' := s.toks) (fun b o hb e => (sb.2 b hb).trans e) f0 f1 f3 f4 f5
    obtain ⟨o, e, c, d⟩ := id st'
    exact ⟨u, rfl, go_of (s := { s with heap := h' }) e c d (by decide) ⟨x, H, I1, ru, ⟨rfl, fun ys hy => by rw [I.list_inj hy hq]; exact hx⟩, st', fun b hb => (hf b hb).1⟩⟩
  done := by
    intro X hP hw hK hc i pins s σ H E I hf st hg
    subst hP hw hK
    obtain ⟨xs, hq, hx⟩ := hg
    obtain ⟨its, rv, p, hz⟩ := I.list hq
    obtain ⟨f0, f1, f2, f3, f4, f5⟩ := hf it (by simp)
    have hl := rv.length
    exact wpAny_pyNext_list_end (I.ok.hd hc) st p.isList (by simp; omega) fun h' eb => ⟨rfl, I.turned (t' := s.toks) (fun b o hb e => eb b o hb e) f0 f1 f3 f4 f5⟩
  self := fun _ _ _ _ _ st h => wpAny_pyIter_listiter st h
theorem turn_tuple {P : Program} {w : World} {K : PySem.W.Frag} {tg : Expr} (a it : Addr) : Turn P w K tg (Itt K a) [it] it (fun i h => h.IsTupleIter it a i) where
  mem := by simp
  obj := fun i h st b hb => by
    have e : b = it := by simpa using hb
    subst e
    obtain ⟨o, e, c, d⟩ := st
    exact ⟨o, e, fun v z => by rw [d] at z; cases z⟩
  keep := fun i h h' st k => st.at fun o e => k it (by simp) o e
  item := by
    intro X hP hw hK hc i pins s σ H E I hf st hg
    subst hP hw hK
    obtain ⟨xs, x, hq, hx⟩ := hg
    obtain ⟨its, rv, p, hz⟩ := I.tuple hq
    obtain ⟨u, hu, ru⟩ := rv.get hx
    obtain ⟨f0, f1, f2, f3, f4, f5⟩ := hf it (by simp)
    refine wpAny_pyNext_tuple_item st (show s.heap.IsTuple a its.toArray from p) (x := u) (by simpa using hu) fun h' st' sb => ?_
    have I1 : Inv X pins σ H { s with heap := h' } := I.turned (t' := s.toks) (fun b o hb e => (sb.2 b hb).trans e) f0 f1 f3 f4 f5
    obtain ⟨o, e, c, d⟩ := id st'
    exact ⟨u, rfl, go_of (s := { s with heap := h' }) e c d (by decide) ⟨x, H, I1, ru, ⟨rfl, fun ys hy => by rw [I.tuple_inj hy hq]; exact hx⟩, st', fun b hb => (hf b hb).1⟩⟩
  done := by
    intro X hP hw hK hc i pins s σ H E I hf st hg
    subst hP hw hK
    obtain ⟨xs, hq, hx⟩ := hg
    obtain ⟨its, rv, p, hz⟩ := I.tuple hq
    obtain ⟨f0, f1, f2, f3, f4, f5⟩ := hf it (by simp)
    have hl := rv.length
    exact wpAny_pyNext_tuple_end (I.ok.hd hc) st (show s.heap.IsTuple a its.toArray from p) (by simp; omega) fun h' eb => ⟨rfl, I.turned (t' := s.toks) (fun b o hb e => eb b o hb e) f0 f1 f3 f4 f5⟩
  self := fun _ _ _ _ _ st h => wpAny_pyIter_tupleiter st h
theorem turn_range {P : Program} {w : World} {K : PySem.W.Frag} {tg : Expr} (it : Addr) (lo : Int) (n : Nat) : Turn P w K tg (Itr lo n) [it] it (fun i h => IsRangeIter h it (lo + (i : Nat) * 1) ((n : Int) - (i : Nat)) 1) where
  mem := by simp
  obj := fun i h st b hb => by
    have e : b = it := by simpa using hb
    subst e
    exact ⟨_, st, fun v z => by
      have z' : Data.fields _ = Data.cell v := z
      cases z'⟩
  keep := fun i h h' st k => k it (by simp) _ st
  item := by
    intro X hP hw hK hc i pins s σ H E I hf st hg
    subst hP hw hK
    obtain ⟨f0, f1, f2, f3, f4, f5⟩ := hf it (by simp)
    have W := Walks.range (prog := X.prog) (w := X.w) (I.ok.hd hc) it lo 1 n
    refine W.item i s _ _ hg st fun v h' tk hv st' kk => ?_
    obtain ⟨t, rfl⟩ := hv
    have I1 : Inv X pins σ H { s with heap := h', toks := tk } := I.turned (fun b o hb e => kk b o (by simpa using hb) e) f0 f1 f3 f4 f5
    refine ⟨_, rfl, go_of (s := { s with heap := h', toks := tk }) (n := "range_iterator") st' rfl rfl (by decide) ⟨.int (lo + i), H, I1, ⟨t, ?_⟩, ⟨rfl, rfl⟩, st', fun b hb => (hf b hb).1⟩⟩
    rw [Int.mul_one]
  done := by
    intro X hP hw hK hc i pins s σ H E I hf st hg
    subst hP hw hK
    obtain ⟨f0, f1, f2, f3, f4, f5⟩ := hf it (by simp)
    exact wpAny_pyNext_range_end (I.ok.hd hc) st (by have : n ≤ i := hg; omega) fun h' eb => ⟨rfl, I.turned (t' := s.toks) (fun b o hb e => eb b o hb e) f0 f1 f3 f4 f5⟩
  self := fun _ _ _ _ _ st h => wpAny_pyIter_rangeiter st h
end L2
namespace L2
open PySem PySem.Spec PyProof.Rows
section
variable {X : Cx} {tg : Expr}
def iList (K : PySem.W.Frag) (tl : TE) : TI := fun σ H R => tl σ H fun x H1 => ∃ a, x = .ref a ∧ (∃ xs, SqL K H1 a xs) ∧ R (Itl K a) H1
def iTup (K : PySem.W.Frag) (tl : TE) : TI := fun σ H R => tl σ H fun x H1 => ∃ a, x = .ref a ∧ (∃ xs, SqT K H1 a xs) ∧ R (Itt K a) H1
theorem pi_list {l : Expr} {tl : TE} (hl : PE X l tl) : PI X tg l (iList X.K tl) := by
  intro pins s σ H R I h
  refine thn (hl pins s σ H _ I h) fun v s1 ⟨x, H1, I1, r1, q1⟩ => ?_
  obtain ⟨a, e, ⟨xs, hq⟩, q⟩ := q1
  subst e
  cases r1
  obtain ⟨its, rv, p, hz⟩ := I1.list hq
  refine wpAny_pyIter_list p.isList ?_
  refine ⟨s1.heap.objs.size, [s1.heap.objs.size], _, _, H1, rfl, I1.kept (t' := s1.toks) fun b o e => Heap.get?_push_of_some _ e, turn_list a _, ⟨_, Heap.get?_push_size _ rfl, rfl, rfl⟩, fun b hb => ?_, q⟩
  have e : b = s1.heap.objs.size := by simpa using hb
  subst e
  exact I1.fpOk (Nat.le_refl _) (I1.hok.fresh (Nat.le_refl _))
theorem pi_tup {l : Expr} {tl : TE} (hl : PE X l tl) : PI X tg l (iTup X.K tl) := by
  intro pins s σ H R I h
  refine thn (hl pins s σ H _ I h) fun v s1 ⟨x, H1, I1, r1, q1⟩ => ?_
  obtain ⟨a, e, ⟨xs, hq⟩, q⟩ := q1
  subst e
  cases r1
  obtain ⟨its, rv, p, hz⟩ := I1.tuple hq
  refine wpAny_pyIter_tuple (show s1.heap.IsTuple a its.toArray from p) ?_
  refine ⟨s1.heap.objs.size, [s1.heap.objs.size], _, _, H1, rfl, I1.kept (t' := s1.toks) fun b o e => Heap.get?_push_of_some _ e, turn_tuple a _, ⟨_, Heap.get?_push_size _ rfl, rfl, rfl⟩, fun b hb => ?_, q⟩
  have e : b = s1.heap.objs.size := by simpa using hb
  subst e
  exact I1.fpOk (Nat.le_refl _) (I1.hok.fresh (Nat.le_refl _))
theorem range_it {pins : List (Addr × Obj)} {σ : St} {H : Hp} {s : Shared} {R : It → Hp → Prop} {E : Value → Shared → Prop} {lo hi : Int} {t u v : Tok} {tk : Nat} (I : Inv X pins σ H s) (h1 : -(2 ^ 62) ≤ lo) (h2 : lo < 2 ^ 62) (h3 : -(2 ^ 62) ≤ hi) (h4 : hi < 2 ^ 62)
    (q : R (Itr lo (hi - lo).toNat) H) : wpAny (model X.prog X.w) X.A (pyIter (.ref s.heap.objs.size)) (PIE X pins σ tg R) E { s with heap := s.heap.push { cls := .type "range", data := .fields #[.int lo t, .int hi u, .int 1 v] }, toks := tk } := by
  refine wpAny_pyIter_range (IsRange.new ..) (small_one h1 h2 h3 h4) ?_
  have I1 : Inv X pins σ H { s with heap := s.heap.push { cls := .type "range", data := .fields #[.int lo t, .int hi u, .int 1 v] }, toks := tk } := I.kept fun b o e => Heap.get?_push_of_some _ e
  refine ⟨(s.heap.push { cls := .type "range", data := .fields #[.int lo t, .int hi u, .int 1 v] }).objs.size, [(s.heap.push { cls := .type "range", data := .fields #[.int lo t, .int hi u, .int 1 v] }).objs.size], _, _, H, rfl,
    I1.kept (t' := tk) fun b o e => Heap.get?_push_of_some _ e, turn_range _ lo (hi - lo).toNat, ?_, fun b hb => ?_, q⟩
  · have e1 : lo + ((0 : Nat) : Int) * 1 = lo := by simp
    have e2 : (((hi - lo).toNat : Nat) : Int) - ((0 : Nat) : Int) = Builtin.Range.rangeSize lo hi 1 := by rw [rangeSize_one]; split <;> omega
    show IsRangeIter _ _ (lo + ((0 : Nat) : Int) * 1) ((((hi - lo).toNat : Nat) : Int) - ((0 : Nat) : Int)) 1
    rw [e1, e2]
    exact Heap.get?_push_size _ rfl
  · have e : b = (s.heap.push { cls := .type "range", data := .fields #[.int lo t, .int hi u, .int 1 v] }).objs.size := by simpa using hb
    subst e
    exact I1.fpOk (Nat.le_refl _) (I1.hok.fresh (Nat.le_refl _))
def iRng1 (ta : TA) : TI := fun σ H R => ta σ H fun vs H1 => ∃ j : Int, vs = [.int j] ∧ -(2 ^ 62) ≤ j ∧ j < 2 ^ 62 ∧ R (Itr 0 j.toNat) H1
def iRng2 (ta : TA) : TI := fun σ H R => ta σ H fun vs H1 => ∃ i j : Int, vs = [.int i, .int j] ∧ (-(2 ^ 62) ≤ i ∧ i < 2 ^ 62 ∧ -(2 ^ 62) ≤ j ∧ j < 2 ^ 62) ∧ R (Itr i (j - i).toNat) H1
theorem pi_range1 {a : Expr} {ta : TA} {p pos : Pos} (hg : Gl X "range") (hm : X.mg "range" = none) (ha : PA X [a] ta) (hs : starEach [a] X.env = [(false, eval a X.env)] := by rfl) : PI X tg (.Call (.Name "range" p) [a] [] pos) (iRng1 ta) := by
  intro pins s σ H R I h
  refine Call_ (ld_blt I hg hm boot_range (PyProof.Rows.callWith_type1 (thn (ha pos pins s σ H _ I h) fun us s1 ⟨vs, H1, I1, r1, q1⟩ => ?_) hs rfl))
  obtain ⟨j, e, q1, q2, q⟩ := q1
  subst e
  cases r1 with
  | cons r rr =>
    cases rr
    obtain ⟨t, rfl⟩ := r
    exact call_range_1 (range_it I1 (by omega) (by omega) q1 q2 (by simpa using q))
def tFor (wi : TI) (g : TG) (tb : TS) : TS := fun D σ H => wi σ H fun J H1 => ∃ W : Nat → Nat → St → Hp → Prop, (∃ m, W 0 m σ H1) ∧ ∀ i m σ H, W i m σ H →
  (J.stop i H ∧ D.nx σ H) ∨ (J.go i H ∧ ∃ N : St → Hp → Prop, (∀ σ' H', N σ' H' → ∃ m', m' < m ∧ W (i + 1) m' σ' H') ∧ ∀ x H', J.yld i H x H' → g x σ H' fun σ2 H2 => tb { D with nx := N, ct := N, bk := D.nx } σ2 H2)
def pinsAt (fp : List Addr) (h : Heap) : List (Addr × Obj) := fp.filterMap fun b => (h.get? b).map fun o => (b, o)
theorem mem_pinsAt {fp : List Addr} {h : Heap} {b : Addr} {o : Obj} (hb : b ∈ fp) (e : h.get? b = some o) : (b, o) ∈ pinsAt fp h := List.mem_filterMap.mpr ⟨b, hb, by rw [e]; rfl⟩
theorem of_pinsAt {fp : List Addr} {h : Heap} {p : Addr × Obj} (hp : p ∈ pinsAt fp h) : p.1 ∈ fp ∧ h.get? p.1 = some p.2 := by
  obtain ⟨b, hb, e⟩ := List.mem_filterMap.mp hp
  cases q : h.get? b with
  | none => rw [q] at e; cases e
  | some o =>
    rw [q] at e
    have e' : (b, o) = p := Option.some.inj e
    subst e'
    exact ⟨hb, q⟩
theorem Inv.pinned {pins : List (Addr × Obj)} {σ : St} {H : Hp} {s : Shared} {fp : List Addr} (I : Inv X pins σ H s) (hf : ∀ b ∈ fp, FpOk X pins H b) (ho : ∀ b ∈ fp, ∃ o, s.heap.get? b = some o ∧ ∀ v, o.data ≠ .cell v) : Inv X (pins ++ pinsAt fp s.heap) σ H s :=
  I.pins_of fun p hp => (List.mem_append.mp hp).elim (fun z => I.pin p (List.mem_append_right _ z)) fun z => by
    obtain ⟨hb, e⟩ := of_pinsAt z
    obtain ⟨f0, f1, f2, _⟩ := hf p.1 hb
    obtain ⟨o, e', d⟩ := ho p.1 hb
    rw [e] at e'; cases e'
    exact ⟨e, f0, f1, f2, d⟩
theorem Inv.unpinned {pins pl : List (Addr × Obj)} {σ : St} {H : Hp} {s : Shared} (I : Inv X (pins ++ pl) σ H s) : Inv X pins σ H s := I.pins_of fun p hp => I.pin p (List.mem_append_right _ (List.mem_append_left _ hp))
theorem ps_for {iter : Expr} {body : List Stmt} {wi : TI} {g : TG} {tb : TS} {pos : Pos} (hp : PassesOwn (model X.prog X.w) X.A X.env X.xe) (hc : X.calm = true) (hi : PI X tg iter wi) (hg : PG X tg g) (hb : PSs X body tb)
    (hs : ∀ x, foldedSetIterable iter X.env x = pure x := by intro _; rfl) : PS X (.For tg iter body [] pos) (tFor wi g tb) := by
  intro pins s σ H D I h
  refine wpAny_For (thn (hi pins s σ H _ I h) fun v s1 h1 => thn h1 fun itv s2 h2 => ?_) hs
  obtain ⟨it, fp, tn, J, H2, e, I2, T, st2, f2, W, ⟨m0, w0⟩, turn⟩ := h2
  subst e
  have stat : ∀ {H' : Hp}, (∀ b ∈ fp, H' b = none) → ∀ b ∈ fp, FpOk X pins H' b := fun hn b hb => ⟨hn b hb, (f2 b hb).2⟩
  refine codeAny_forLoop_any (fun n s' => ∃ i σ' H', Inv X pins σ' H' s' ∧ tn i s'.heap ∧ (∀ b ∈ fp, H' b = none) ∧ W i n σ' H') ?_ m0 ⟨0, σ, H2, I2, st2, fun b hb => (f2 b hb).1, w0⟩
  rintro n s3 ⟨i, σ3, H3, I3, st3, fr3, w3⟩
  rcases turn i n σ3 H3 w3 with ⟨stop, qn⟩ | ⟨go, N, hN, step⟩
  · refine wpAny_passesOwn hp (thn (T.done X rfl rfl rfl hc i pins s3 σ3 H3 X.xe I3 (stat fr3) st3 stop) fun r s4 ⟨hr, I4⟩ => ?_)
    subst hr
    exact wpAny_execs_nil ⟨σ3, H3, I4, qn⟩
  · refine wpAny_passesOwn hp (thn (T.item X rfl rfl rfl hc i pins s3 σ3 H3 X.xe I3 (stat fr3) st3 go) fun r s4 ⟨u, hr, h4⟩ => ?_)
    subst hr
    refine wpAny_passesOwn hp (thn h4 fun _ s5 ⟨x, H5, I5, r5, y5, st5, fr5⟩ => ?_)
    have I5' := I5.pinned (stat fr5) (T.obj _ _ st5)
    refine wpAny_passesOwn hp (thn (hg _ s5 σ3 H5 x u _ I5' r5 (step x H5 y5)) fun _ s6 ⟨σ6, H6, I6, q6⟩ => ?_)
    refine wpAny_passesOwn hp (thn (hb _ s6 σ6 H6 _ I6 q6) fun f s7 q7 => ?_)
    have again : ∀ {σ7 : St} {H7 : Hp}, Inv X (pins ++ pinsAt fp s5.heap) σ7 H7 s7 → N σ7 H7 → ∃ m, m < n ∧ ∃ i σ' H', Inv X pins σ' H' s7 ∧ tn i s7.heap ∧ (∀ b ∈ fp, H' b = none) ∧ W i m σ' H' := fun {σ7 H7} I7 n7 => by
      obtain ⟨m', hm, w7⟩ := hN σ7 H7 n7
      refine ⟨m', hm, i + 1, σ7, H7, I7.unpinned, T.keep _ _ _ st5 fun b hb o e => (I7.pin (b, o) (List.mem_append_right _ (List.mem_append_right _ (mem_pinsAt hb e)))).1, fun b hb => ?_, w7⟩
      obtain ⟨o, e, d⟩ := T.obj _ _ st5 b hb
      exact (I7.pin (b, o) (List.mem_append_right _ (List.mem_append_right _ (mem_pinsAt hb e)))).2.1
    cases f with
    | next => obtain ⟨σ7, H7, I7, n7⟩ := q7; exact again I7 n7
    | cont => obtain ⟨σ7, H7, I7, n7⟩ := q7; exact again I7 n7
    | brk => obtain ⟨σ7, H7, I7, q7⟩ := q7; exact ⟨σ7, H7, I7.unpinned, q7⟩
    | ret v => obtain ⟨x7, σ7, H7, I7, r7, q7⟩ := q7; exact ⟨x7, σ7, H7, I7.unpinned, r7, q7⟩
end
theorem for_list {K : PySem.W.Frag} {a : Addr} {xs : List V} {g : TG} {tb : TS} {D : Ends} {σ : St} {H : Hp} (Pv : Nat → St → Hp → Prop) (h0 : Pv 0 σ H) (hl : ∀ i σ H, i ≤ xs.length → Pv i σ H → SqL K H a xs)
    (hs : ∀ i x σ H, xs[i]? = some x → Pv i σ H → g x σ H fun σ2 H2 => tb { D with nx := Pv (i + 1), ct := Pv (i + 1), bk := D.nx } σ2 H2) (hd : ∀ σ H, Pv xs.length σ H → D.nx σ H) :
    ∃ W : Nat → Nat → St → Hp → Prop, (∃ m, W 0 m σ H) ∧ ∀ i m σ H, W i m σ H →
      ((Itl K a).stop i H ∧ D.nx σ H) ∨ ((Itl K a).go i H ∧ ∃ N : St → Hp → Prop, (∀ σ' H', N σ' H' → ∃ m', m' < m ∧ W (i + 1) m' σ' H') ∧ ∀ x H', (Itl K a).yld i H x H' → g x σ H' fun σ2 H2 => tb { D with nx := N, ct := N, bk := D.nx } σ2 H2) := by
  refine ⟨fun i m σ H => m = xs.length - i ∧ i ≤ xs.length ∧ Pv i σ H, ⟨xs.length, by simp, Nat.zero_le _, h0⟩, ?_⟩
  rintro i m σ H ⟨rfl, hi, p⟩
  have q := hl i σ H hi p
  by_cases hlt : i < xs.length
  · refine .inr ⟨⟨xs, xs[i], q, by simp [hlt]⟩, Pv (i + 1), fun σ' H' p' => ⟨xs.length - (i + 1), by omega, rfl, hlt, p'⟩, fun x H' y => ?_⟩
    obtain ⟨e, y⟩ := y
    subst e
    exact hs i x σ _ (y xs q) p
  · have e : i = xs.length := by omega
    subst e
    exact .inl ⟨⟨xs, q, Nat.le_refl _⟩, hd σ H p⟩
theorem for_range {lo : Int} {n : Nat} {g : TG} {tb : TS} {D : Ends} {σ : St} {H : Hp} (Pv : Nat → St → Hp → Prop) (h0 : Pv 0 σ H)
    (hs : ∀ i σ H, i < n → Pv i σ H → g (.int (lo + i)) σ H fun σ2 H2 => tb { D with nx := Pv (i + 1), ct := Pv (i + 1), bk := D.nx } σ2 H2) (hd : ∀ σ H, Pv n σ H → D.nx σ H) :
    ∃ W : Nat → Nat → St → Hp → Prop, (∃ m, W 0 m σ H) ∧ ∀ i m σ H, W i m σ H →
      ((Itr lo n).stop i H ∧ D.nx σ H) ∨ ((Itr lo n).go i H ∧ ∃ N : St → Hp → Prop, (∀ σ' H', N σ' H' → ∃ m', m' < m ∧ W (i + 1) m' σ' H') ∧ ∀ x H', (Itr lo n).yld i H x H' → g x σ H' fun σ2 H2 => tb { D with nx := N, ct := N, bk := D.nx } σ2 H2) := by
  refine ⟨fun i m σ H => m = n - i ∧ i ≤ n ∧ Pv i σ H, ⟨n, by simp, Nat.zero_le _, h0⟩, ?_⟩
  rintro i m σ H ⟨rfl, hi, p⟩
  by_cases hlt : i < n
  · refine .inr ⟨hlt, Pv (i + 1), fun σ' H' p' => ⟨n - (i + 1), by omega, rfl, hlt, p'⟩, fun x H' y => ?_⟩
    obtain ⟨e, y⟩ := y
    subst e y
    exact hs i σ _ hlt p
  · have e : i = n := by omega
    subst e
    exact .inl ⟨Nat.le_refl _, hd σ H p⟩
end L2
namespace L2
open PySem PySem.Spec PyProof.Rows
abbrev R2 := V → V → Hp → VK → Prop
def OpR (X : Cx) (f : Value → Value → Sem Value) (r : R2) : Prop :=
  ∀ (pins : List (Addr × Obj)) (s : Shared) (σ : St) (H : Hp) (x y : V) (v u : Value) (Q : VK), Inv X pins σ H s → RelV x v → RelV y u → r x y H Q →
    wpAny (model X.prog X.w) X.A (f v u) (EP X pins σ Q) X.xe s
def UnR (X : Cx) (f : Value → Sem Value) (r : V → Hp → VK → Prop) : Prop :=
  ∀ (pins : List (Addr × Obj)) (s : Shared) (σ : St) (H : Hp) (x : V) (v : Value) (Q : VK), Inv X pins σ H s → RelV x v → r x H Q →
    wpAny (model X.prog X.w) X.A (f v) (EP X pins σ Q) X.xe s
def CallR (X : Cx) (f : Value) (r : List V → Hp → VK → Prop) : Prop :=
  ∀ (pins : List (Addr × Obj)) (s : Shared) (σ : St) (H : Hp) (xs : List V) (us : List Value) (Q : VK), Inv X pins σ H s → Vals xs us → r xs H Q →
    wpAny (model X.prog X.w) X.A (call f us) (EP X pins σ Q) X.xe s
def TruR (X : Cx) (r : V → Hp → (Bool → Hp → Prop) → Prop) : Prop :=
  ∀ (pins : List (Addr × Obj)) (s : Shared) (σ : St) (H : Hp) (x : V) (v : Value) (Q : Bool → Hp → Prop), Inv X pins σ H s → RelV x v → r x H Q →
    wpAny (model X.prog X.w) X.A (truthy v) (TP X pins σ Q) X.xe s
def tOp (r : R2) (ta tb : TE) : TE := fun σ H Q => ta σ H fun x H1 => tb σ H1 fun y H2 => r x y H2 Q
def tUn (r : V → Hp → VK → Prop) (ta : TE) : TE := fun σ H Q => ta σ H fun x H1 => r x H1 Q
def rI (C : Int → Int → Prop) (g : Int → Int → V) : R2 := fun x y H Q => ∃ i j, x = .int i ∧ y = .int j ∧ C i j ∧ Q (g i j) H
def rI0 (g : Int → Int → V) : R2 := fun x y H Q => ∃ i j, x = .int i ∧ y = .int j ∧ Q (g i j) H
def rU (g : Int → V) : V → Hp → VK → Prop := fun x H Q => ∃ i, x = .int i ∧ Q (g i) H
section
variable {X : Cx} {a b c : Expr} {ta tb tc : TE} {pos : Pos}
theorem binT (ha : PE X a ta) (hb : PE X b tb) {pins : List (Addr × Obj)} {s : Shared} {σ : St} {H : Hp} {R : V → V → Hp → Prop} (I : Inv X pins σ H s)
    (h : ta σ H fun x H1 => tb σ H1 fun y H2 => R x y H2) {Q : Value → Shared → Prop} {f : Value → Value → Sem Value}
    (hf : ∀ v u s2 x y H2, Inv X pins σ H2 s2 → RelV x v → RelV y u → R x y H2 → wpAny (model X.prog X.w) X.A (f v u) Q X.xe s2) :
    wpAny (model X.prog X.w) X.A (eval a X.env) (fun v s₁ => wpAny (model X.prog X.w) X.A (eval b X.env) (fun u s₂ => wpAny (model X.prog X.w) X.A (f v u) Q X.xe s₂) X.xe s₁) X.xe s := by
  refine thn (ha pins s σ H _ I h) fun v s1 ⟨x, H1, I1, r1, q1⟩ => ?_
  refine thn (hb pins s1 σ H1 _ I1 q1) fun u s2 ⟨y, H2, I2, r2, q2⟩ => ?_
  exact hf v u s2 x y H2 I2 r1 r2 q2
theorem pe_op {op : Operator} {r : R2} (ho : OpR X (binaryOp op) r) (ha : PE X a ta) (hb : PE X b tb) : PE X (.BinOp a op b pos) (tOp r ta tb) := by
  intro pins s σ H Q I h
  exact wpAny_BinOp (binT ha hb I h fun v u s2 x y H2 I2 rx ry q => ho pins s2 σ H2 x y v u Q I2 rx ry q)
theorem pe_un {op : UnaryOp} {r : V → Hp → VK → Prop} (ho : UnR X (unaryOp op) r) (ha : PE X a ta) : PE X (.UnaryOp op a pos) (tUn r ta) := by
  intro pins s σ H Q I h
  exact UnaryOp_ (thn (ha pins s σ H _ I h) fun v s1 ⟨x, H1, I1, r1, q1⟩ => ho pins s1 σ H1 x v Q I1 r1 q1)
theorem opI {f : Value → Value → Sem Value} {C : Int → Int → Prop} {g : Int → Int → Int}
    (rule : ∀ (i j : Int) (t u : Tok) (s : Shared) (Q : Value → Shared → Prop) (E : Value → Shared → Prop), C i j → Q (.int (g i j) s.toks) { s with toks := s.toks + 1 } → wpAny (model X.prog X.w) X.A (f (.int i t) (.int j u)) Q E s) :
    OpR X f (rI C fun i j => .int (g i j)) := by
  intro pins s σ H x y v u Q I rx ry h
  obtain ⟨i, j, rfl, rfl, hc, q⟩ := h
  obtain ⟨t, rfl⟩ := rx
  obtain ⟨t', rfl⟩ := ry
  exact rule i j t t' s _ _ hc ⟨.int (g i j), H, I.tok _, ⟨_, rfl⟩, q⟩
theorem opI0 {f : Value → Value → Sem Value} {g : Int → Int → Int}
    (rule : ∀ (i j : Int) (t u : Tok) (s : Shared) (Q : Value → Shared → Prop) (E : Value → Shared → Prop), Q (.int (g i j) s.toks) { s with toks := s.toks + 1 } → wpAny (model X.prog X.w) X.A (f (.int i t) (.int j u)) Q E s) :
    OpR X f (rI0 fun i j => .int (g i j)) := by
  intro pins s σ H x y v u Q I rx ry h
  obtain ⟨i, j, rfl, rfl, q⟩ := h
  obtain ⟨t, rfl⟩ := rx
  obtain ⟨t', rfl⟩ := ry
  exact rule i j t t' s _ _ ⟨.int (g i j), H, I.tok _, ⟨_, rfl⟩, q⟩
theorem opB0 {f : Value → Value → Sem Value} {g : Int → Int → Bool}
    (rule : ∀ (i j : Int) (t u : Tok) (s : Shared) (Q : Value → Shared → Prop) (E : Value → Shared → Prop), Q (.bool (g i j)) s → wpAny (model X.prog X.w) X.A (f (.int i t) (.int j u)) Q E s) :
    OpR X f (rI0 fun i j => .bl (g i j)) := by
  intro pins s σ H x y v u Q I rx ry h
  obtain ⟨i, j, rfl, rfl, q⟩ := h
  obtain ⟨t, rfl⟩ := rx
  obtain ⟨t', rfl⟩ := ry
  exact rule i j t t' s _ _ ⟨.bl (g i j), H, I, rfl, q⟩
def CDiv (i j : Int) : Prop := 0 < j ∧ j < 1073741824
def CDivN (i j : Int) : Prop := j ≠ 0 ∧ j.natAbs < 1073741824
def CPow (i j : Int) : Prop := 0 ≤ j ∧ j ≤ 1000000 ∧ i.natAbs < 2 ^ 64
def CMul (i j : Int) : Prop := (-(2 ^ 64) < i ∧ i < 2 ^ 64) ∨ (-(2 ^ 64) < j ∧ j < 2 ^ 64)
theorem CMul.ok {i j : Int} (h : CMul i j) : IntMulOk i j := by
  rcases h with ⟨h1, h2⟩ | ⟨h1, h2⟩
  · exact .of_left (intBits_le_64 h1 h2)
  · exact .of_right (intBits_le_64 h1 h2)
theorem op_add : OpR X (binaryOp .Add) (rI0 fun i j => .int (i + j)) := opI0 fun _ _ _ _ _ _ _ q => add_int q
theorem op_sub : OpR X (binaryOp .Sub) (rI0 fun i j => .int (i - j)) := opI0 fun _ _ _ _ _ _ _ q => sub_int q
theorem op_mul : OpR X (binaryOp .Mult) (rI CMul fun i j => .int (i * j)) := opI fun _ _ _ _ _ _ _ hc q => mul_int q hc.ok
theorem op_fdiv : OpR X (binaryOp .FloorDiv) (rI CDiv fun i j => .int (i / j)) := opI fun i j _ _ _ _ _ hc q => by
  have h1 : (0 : Int) < j := hc.1
  have h2 : j < 1073741824 := hc.2
  exact floordiv_int (by omega) (by rw [Int.fdiv_eq_ediv_of_nonneg i (by omega)]; exact q) (.inl (PyProof.noPylong_small (by omega)))
theorem op_mod : OpR X (binaryOp .Mod) (rI (fun _ j => 0 < j) fun i j => .int (i % j)) := opI fun i j _ _ _ _ _ hc q => by
  have h1 : (0 : Int) < j := hc
  exact mod_int' (by omega) (by rw [Int.fmod_eq_emod_of_nonneg i (by omega)]; exact q)
theorem op_pow : OpR X (binaryOp .Pow) (rI CPow fun i j => .int (i ^ j.toNat)) := opI fun _ _ _ _ _ _ _ hc q => pow_int_small hc.1 hc.2.1 hc.2.2 q
theorem unI {f : Value → Sem Value} {g : Int → Int}
    (rule : ∀ (i : Int) (t : Tok) (s : Shared) (Q : Value → Shared → Prop) (E : Value → Shared → Prop), Q (.int (g i) s.toks) { s with toks := s.toks + 1 } → wpAny (model X.prog X.w) X.A (f (.int i t)) Q E s) :
    UnR X f (rU fun i => .int (g i)) := by
  intro pins s σ H x v Q I rx h
  obtain ⟨i, rfl, q⟩ := h
  obtain ⟨t, rfl⟩ := rx
  exact rule i t s _ _ ⟨.int (g i), H, I.tok _, ⟨_, rfl⟩, q⟩
theorem un_neg : UnR X (unaryOp .USub) (rU fun i => .int (-i)) := unI fun _ _ _ _ _ q => neg_int q
end
def scal : V → V → Bool
  | .non, .non => true | .non, .int _ => true | .int _, .non => true | .non, .bl _ => true | .bl _, .non => true | .non, .str _ => true | .str _, .non => true
  | .int _, .int _ => true | .bl _, .bl _ => true | .str _, .str _ => true | .byt _, .byt _ => true
  | .int _, .str _ => true | .str _, .int _ => true | .bl _, .str _ => true | .str _, .bl _ => true
  | _, _ => false
def rEq : R2 := fun x y H Q => scal x y = true ∧ Q (.bl (decide (x = y))) H
def rNe : R2 := fun x y H Q => scal x y = true ∧ Q (.bl (!decide (x = y))) H
theorem dec_int {i j : Int} : decide (V.int i = V.int j) = (i == j) := by
  rw [Bool.eq_iff_iff]
  simp
theorem dec_bl {i j : Bool} : decide (V.bl i = V.bl j) = (i == j) := by
  rw [Bool.eq_iff_iff]
  simp
theorem dec_str {i j : Str} : decide (V.str i = V.str j) = (i == j) := by
  rw [Bool.eq_iff_iff]
  simp
theorem dec_byt {i j : Array UInt8} : decide (V.byt i = V.byt j) = (i.toList == j.toList) := by
  rw [Bool.eq_iff_iff]
  cases i
  cases j
  simp
section
variable {X : Cx} {a b c : Expr} {ta tb tc : TE} {pos : Pos}
theorem fin_bl {pins : List (Addr × Obj)} {σ : St} {H : Hp} {s : Shared} {Q : VK} {k k' : Bool} (I : Inv X pins σ H s) (q : Q (.bl k) H) (e : k = k') : EP X pins σ Q (.bool k') s := by
  subst e
  exact ⟨.bl k, H, I, rfl, q⟩
theorem op_eq : OpR X (compareOp .Eq) rEq := by
  intro pins s σ H x y v u Q I rx ry h
  obtain ⟨hs, q⟩ := h
  cases x with
  | non =>
    cases rx
    cases y with
    | non => cases ry; exact PySem.EqNone.eq_none_none (fin_bl I q (by simp))
    | bl j => cases ry; exact PySem.EqNone.eq_none_bool (fin_bl I q (by simp))
    | int j => obtain ⟨t', rfl⟩ := ry; exact PySem.EqNone.eq_none_int (fin_bl I q (by simp))
    | str j => obtain ⟨t', rfl⟩ := ry; exact PySem.EqNone.eq_none_str (fin_bl I q (by simp))
    | _ => exact absurd (show false = true from hs) Bool.false_ne_true
  | bl i =>
    cases rx
    cases y with
    | non => cases ry; exact PySem.EqNone.eq_bool_none (fin_bl I q (by simp))
    | bl j => cases ry; exact eq_bool (fin_bl I q dec_bl)
    | str j => obtain ⟨t', rfl⟩ := ry; exact PySem.EqMixed.eq_bool_str (fin_bl I q (by simp))
    | _ => exact absurd (show false = true from hs) Bool.false_ne_true
  | int i =>
    obtain ⟨t, rfl⟩ := rx
    cases y with
    | non => cases ry; exact PySem.EqNone.eq_int_none (fin_bl I q (by simp))
    | int j => obtain ⟨t', rfl⟩ := ry; exact eq_int (fin_bl I q dec_int)
    | str j => obtain ⟨t', rfl⟩ := ry; exact PySem.EqMixed.eq_int_str (fin_bl I q (by simp))
    | _ => exact absurd (show false = true from hs) Bool.false_ne_true
  | str i =>
    obtain ⟨t, rfl⟩ := rx
    cases y with
    | non => cases ry; exact PySem.EqNone.eq_str_none (fin_bl I q (by simp))
    | bl j => cases ry; exact PySem.EqMixed.eq_str_bool (fin_bl I q (by simp))
    | int j => obtain ⟨t', rfl⟩ := ry; exact PySem.EqMixed.eq_str_int (fin_bl I q (by simp))
    | str j => obtain ⟨t', rfl⟩ := ry; exact eq_str (fin_bl I q dec_str)
    | _ => exact absurd (show false = true from hs) Bool.false_ne_true
  | byt i =>
    obtain ⟨t, rfl⟩ := rx
    cases y with
    | byt j => obtain ⟨t', rfl⟩ := ry; exact PySem.W.eq_bytes (fin_bl I q dec_byt)
    | _ => exact absurd (show false = true from hs) Bool.false_ne_true
  | _ => cases y <;> exact absurd (show false = true from hs) Bool.false_ne_true
theorem op_ne : OpR X (compareOp .NotEq) rNe := by
  intro pins s σ H x y v u Q I rx ry h
  obtain ⟨hs, q⟩ := h
  cases x with
  | non =>
    cases rx
    cases y with
    | non => cases ry; exact PySem.EqNone.ne_none_none (fin_bl I q (by simp))
    | bl j => cases ry; exact PySem.EqNone.ne_none_bool (fin_bl I q (by simp))
    | int j => obtain ⟨t', rfl⟩ := ry; exact PySem.EqNone.ne_none_int (fin_bl I q (by simp))
    | str j => obtain ⟨t', rfl⟩ := ry; exact PySem.EqNone.ne_none_str (fin_bl I q (by simp))
    | _ => exact absurd (show false = true from hs) Bool.false_ne_true
  | bl i =>
    cases rx
    cases y with
    | non => cases ry; exact PySem.EqNone.ne_bool_none (fin_bl I q (by simp))
    | bl j => cases ry; exact ne_bool (fin_bl I q (congrArg not dec_bl))
    | str j => obtain ⟨t', rfl⟩ := ry; exact PySem.EqMixed.ne_bool_str (fin_bl I q (by simp))
    | _ => exact absurd (show false = true from hs) Bool.false_ne_true
  | int i =>
    obtain ⟨t, rfl⟩ := rx
    cases y with
    | non => cases ry; exact PySem.EqNone.ne_int_none (fin_bl I q (by simp))
    | int j => obtain ⟨t', rfl⟩ := ry; exact ne_int (fin_bl I q (congrArg not dec_int))
    | str j => obtain ⟨t', rfl⟩ := ry; exact PySem.EqMixed.ne_int_str (fin_bl I q (by simp))
    | _ => exact absurd (show false = true from hs) Bool.false_ne_true
  | str i =>
    obtain ⟨t, rfl⟩ := rx
    cases y with
    | non => cases ry; exact PySem.EqNone.ne_str_none (fin_bl I q (by simp))
    | bl j => cases ry; exact PySem.EqMixed.ne_str_bool (fin_bl I q (by simp))
    | int j => obtain ⟨t', rfl⟩ := ry; exact PySem.EqMixed.ne_str_int (fin_bl I q (by simp))
    | str j => obtain ⟨t', rfl⟩ := ry; exact ne_str (fin_bl I q (congrArg not dec_str))
    | _ => exact absurd (show false = true from hs) Bool.false_ne_true
  | byt i =>
    obtain ⟨t, rfl⟩ := rx
    cases y with
    | byt j => obtain ⟨t', rfl⟩ := ry; exact PySem.W.ne_bytes (fin_bl I q (congrArg not dec_byt))
    | _ => exact absurd (show false = true from hs) Bool.false_ne_true
  | _ => cases y <;> exact absurd (show false = true from hs) Bool.false_ne_true
theorem op_lt : OpR X (compareOp .Lt) (rI0 fun i j => .bl (decide (i < j))) := opB0 fun _ _ _ _ _ _ _ q => lt_int q
theorem op_le : OpR X (compareOp .LtE) (rI0 fun i j => .bl (decide (i ≤ j))) := opB0 fun _ _ _ _ _ _ _ q => le_int q
theorem op_gt : OpR X (compareOp .Gt) (rI0 fun i j => .bl (decide (j < i))) := opB0 fun _ _ _ _ _ _ _ q => gt_int q
theorem op_ge : OpR X (compareOp .GtE) (rI0 fun i j => .bl (decide (j ≤ i))) := opB0 fun _ _ _ _ _ _ _ q => ge_int q
theorem op_isN : OpR X (compareOp .Is) (fun x y H Q => y = .non ∧ Q (.bl (decide (x = .non))) H) := by
  intro pins s σ H x y v u Q I rx ry h
  obtain ⟨rfl, q⟩ := h
  cases ry
  refine is_none_gen (fin_bl I q ?_)
  cases x <;> first
    | (cases rx; rfl)
    | (obtain ⟨t, rfl⟩ := rx; rfl)
theorem op_notN : OpR X (compareOp .IsNot) (fun x y H Q => y = .non ∧ Q (.bl (!decide (x = .non))) H) := by
  intro pins s σ H x y v u Q I rx ry h
  obtain ⟨rfl, q⟩ := h
  cases ry
  refine isnot_none_gen (fin_bl I q ?_)
  cases x <;> first
    | (cases rx; rfl)
    | (obtain ⟨t, rfl⟩ := rx; rfl)
def isObj : HO → Bool
  | .lst _ => true
  | .ins _ _ _ => true
  | _ => false
theorem nomark (b : Expr) {op : CmpOp} (h : op ≠ .In := by decide) (h2 : op ≠ .NotIn := by decide) : behindInMarks op b = false := by
  have e1 : (op == CmpOp.In) = false := by cases op <;> first | rfl | exact absurd rfl h
  have e2 : (op == CmpOp.NotIn) = false := by cases op <;> first | rfl | exact absurd rfl h2
  cases b <;> simp [behindInMarks, e1, e2]
theorem pe_cmpR {op : CmpOp} {r : R2} (ho : OpR X (compareOp op) r) (ha : PE X a ta) (hb : PE X b tb) (hm : behindInMarks op b = false) : PE X (.Compare a [op] [b] pos) (tOp r ta tb) := by
  intro pins s σ H Q I h
  exact wpAny_Compare1 (binT ha hb I h fun v u s2 x y H2 I2 rx ry q => ho pins s2 σ H2 x y v u Q I2 rx ry q) hm
def tTest (t : TE) : TT := fun σ H Q => t σ H fun x H' => ∃ k, x = .bl k ∧ Q k H'
theorem pt_cmpR {op : CmpOp} {r : R2} (ho : OpR X (compareOp op) r) (ha : PE X a ta) (hb : PE X b tb) (hm : behindInMarks op b = false) : PT X (.Compare a [op] [b] pos) (tTest (tOp r ta tb)) := by
  intro pins s σ H Q I h
  refine wpAny_isTrue_Compare1 (thn (ha pins s σ H _ I h) fun v s1 ⟨x, H1, I1, r1, q1⟩ => thn (hb pins s1 σ H1 _ I1 q1) fun u s2 ⟨y, H2, I2, r2, q2⟩ =>
    thn (ho pins s2 σ H2 x y v u _ I2 r1 r2 q2) fun c s3 ⟨z, H3, I3, r3, k, e, q3⟩ => ?_) hm
  subst e
  cases r3
  exact wpAny_truthy_bool ⟨H3, I3, q3⟩
def tChain (r r' : R2) (ta tb tc : TE) : TE := fun σ H Q => ta σ H fun x H1 => tb σ H1 fun y H2 => r x y H2 fun z H3 => ∃ k, z = .bl k ∧
  (if k = true then tc σ H3 fun w' H4 => r' y w' H4 Q else Q (.bl false) H3)
def TruV (K : PySem.W.Frag) (x : V) (H : Hp) (k : Bool) : Prop :=
  match x with
  | .non => k = false
  | .bl b => k = b
  | .int i => k = (i != 0)
  | .str y => y.length ≤ sizeLine ∧ k = ((y.length : Int) != 0)
  | .byt y => y.size ≤ sizeLine ∧ k = ((y.size : Int) != 0)
  | .ref p => (∃ xs, SqL K H p xs ∧ k = !xs.isEmpty) ∨ (∃ xs, SqT K H p xs ∧ k = !xs.isEmpty) ∨ ∃ kvs, H p = some (.dK kvs) ∧ k = !kvs.isEmpty
  | _ => False
theorem isEmpty_kv {κ : Type} {kvs : List (κ × V)} {vs : List (κ × Value)} (r : KV kvs vs) : (!vs.isEmpty) = !kvs.isEmpty := by
  cases r <;> rfl
theorem isEmpty_of {xs : List V} {its : List Value} (r : Vals xs its) : (!its.toArray.isEmpty) = !xs.isEmpty := by
  cases r <;> simp
theorem line63 : (sizeLine : Nat) < 2 ^ 63 := by rw [sizeLine_eq]; decide
theorem tru_ok : TruR X (fun x H Q => ∃ k, TruV X.K x H k ∧ Q k H) := by
  intro pins s σ H x v Q I rx h
  obtain ⟨k, e, q⟩ := h
  have hl := line63
  have hs : sizeLine = 16777216 := sizeLine_eq
  cases x with
  | non =>
    cases rx
    have e' : k = false := e
    subst e'
    exact truthy_none ⟨H, I, q⟩
  | bl b =>
    cases rx
    have e' : k = b := e
    subst e'
    exact wpAny_truthy_bool ⟨H, I, q⟩
  | int i =>
    obtain ⟨t, rfl⟩ := rx
    have e' : k = (i != 0) := e
    subst e'
    exact PySem.P.truthy_int ⟨H, I, q⟩
  | str y =>
    obtain ⟨t, rfl⟩ := rx
    obtain ⟨hy, e'⟩ : y.length ≤ sizeLine ∧ k = ((y.length : Int) != 0) := e
    subst e'
    exact PySem.P.truthy_str (by omega) ⟨H, I.tok _, q⟩
  | byt y =>
    obtain ⟨t, rfl⟩ := rx
    obtain ⟨hy, e'⟩ : y.size ≤ sizeLine ∧ k = ((y.size : Int) != 0) := e
    subst e'
    exact PySem.W.truthy_bytes (by omega) ⟨H, I.tok _, q⟩
  | ref p =>
    cases rx
    have e' : (∃ xs, SqL X.K H p xs ∧ k = !xs.isEmpty) ∨ (∃ xs, SqT X.K H p xs ∧ k = !xs.isEmpty) ∨ ∃ kvs, H p = some (.dK kvs) ∧ k = !kvs.isEmpty := e
    rcases e' with ⟨xs, hx, e'⟩ | ⟨xs, hx, e'⟩ | ⟨kvs, hx, e'⟩
    · subst e'
      obtain ⟨its, r, pl, hz⟩ := I.list hx
      have hlen := r.length
      exact wpAny_truthy_list pl.isList (by simp only [List.size_toArray]; omega) ⟨H, I.tok _, by rw [isEmpty_of r]; exact q⟩
    · subst e'
      obtain ⟨its, r, pl, hz⟩ := I.tuple hx
      have hlen := r.length
      exact truthy_tuple pl (by simp only [List.size_toArray]; omega) ⟨H, I.tok _, by rw [isEmpty_of r]; exact q⟩
    · subst e'
      obtain ⟨hz, hS, vs, r, m⟩ : kvs.length ≤ sizeLine ∧ (p == sysModules) = false ∧ ∃ vs, KV kvs vs ∧ s.heap.DictOf (mixKind X.prog X.w) p vs := I.hok p _ hx
      have hlen : kvs.length = vs.length := Paired.length r
      exact wpAny_truthy_dict hS m (by omega) ⟨H, I.tok _, by rw [isEmpty_kv r]; exact q⟩
  | _ => exact (show False from e).elim
theorem pt_truth (ha : PE X a ta) (he : ∀ whole, isTrue a X.env whole = (do let v ← whole; standAt a.pos; holding [v] (truthy v))) :
    PT X a (fun σ H Q => ta σ H fun x H' => ∃ k, TruV X.K x H' k ∧ Q k H') := by
  intro pins s σ H Q I h
  exact isTrue_plain (thn (ha pins s σ H _ I h) fun v s1 ⟨x, H1, I1, r1, q1⟩ => tru_ok pins s1 σ H1 x v Q I1 r1 q1) (he _)
def PlainIxT (b : Expr) : Prop := ∀ o i, subscripted b false o i = operate [o, i] (getItem o i)
theorem vals1 {x : V} {us : List Value} (r : Vals [x] us) : ∃ u, us = [u] ∧ RelV x u := by
  cases r with
  | cons r1 r2 => cases r2; exact ⟨_, rfl, r1⟩
theorem vals2 {x y : V} {us : List Value} (r : Vals [x, y] us) : ∃ u w', us = [u, w'] ∧ RelV x u ∧ RelV y w' := by
  cases r with
  | cons r1 r2 =>
    cases r2 with
    | cons r3 r4 => cases r4; exact ⟨_, _, rfl, r1, r3⟩
theorem call_abs : CallR X (.builtin "abs") (fun xs H Q => ∃ i, xs = [.int i] ∧ Q (.int (if i < 0 then -i else i)) H) := by
  intro pins s σ H xs us Q I r h
  obtain ⟨i, rfl, q⟩ := h
  obtain ⟨u, rfl, t, rfl⟩ := vals1 r
  exact call_abs_int fun u tk => ⟨.int (if i < 0 then -i else i), H, I.tok _, ⟨_, rfl⟩, q⟩
def LenV (K : PySem.W.Frag) (x : V) (H : Hp) (n : Nat) : Prop :=
  match x with
  | .str y => y.length ≤ sizeLine ∧ n = y.length
  | .byt y => y.size ≤ sizeLine ∧ n = y.size
  | .ref p => (∃ xs, SqL K H p xs ∧ n = xs.length) ∨ ∃ xs, SqT K H p xs ∧ n = xs.length
  | _ => False
end
end L2
namespace L2
open PySem PySem.Spec PyProof.Rows
structure ObjM (h : Heap) (x dx C : Addr) (mA : Str → Option Value) : Prop where
  obj : h.get? x = some (PySem.W.instObj C dx)
  ns : h.Ns1 dx mA
  ne : dx ≠ x
theorem lookIn_ns {h : Heap} {dx : Addr} {mA : Str → Option Value} (n : h.Ns1 dx mA) : ∃ od, h.get? dx = some od ∧ ∀ name, PySem.W.lookIn name od = some (mA name) := by
  obtain ⟨o, es, ep, ho, hd, hk, _, hm⟩ := n
  refine ⟨o, ho, fun name => ?_⟩
  have e := hm name
  unfold nsFind findBy at e
  rw [← Array.find?_toList] at e
  unfold PySem.W.lookIn
  rw [hd]
  dsimp only
  split
  · rename_i y q
    rw [q] at e
    exact congrArg some e
  · rename_i q
    rw [q] at e
    have a : es.toList.any (·.refKey) = false := by
      rw [List.any_eq_false]
      intro y hy
      obtain ⟨z, t, hkey⟩ := hk y (Array.mem_toList_iff.mp hy)
      simp [DictEntry.refKey, hkey]
    have a' : ¬ es.toList.any (·.refKey) = true := by rw [a]; exact Bool.false_ne_true
    rw [if_neg a']
    exact congrArg some e
theorem ObjM.look {h : Heap} {x dx C : Addr} {mA : Str → Option Value} (I : ObjM h x dx C mA) : ∃ od, PySem.W.InstAt h x (PySem.W.instObj C dx) C (some od) ∧ ∀ name, PySem.W.lookIn name od = some (mA name) :=
  let ⟨od, ho, hl⟩ := lookIn_ns I.ns
  ⟨od, ⟨I.obj, rfl, rfl, ho⟩, hl⟩
section
variable {prog : Program} {w : World} {A : Around} {E : Value → Shared → Prop} {s : Shared} {K : PySem.W.Frag} {x dx C f : Addr} {mA : Str → Option Value} {name : Str} {v : Value}
theorem get_meth {pl : Sem Bool} {Q : Value × List Value → Shared → Prop} (X : K.In s.heap) (I : ObjM s.heap x dx C mA) (hg : PySem.W.plainGet K C name = true)
    (hf : PySem.W.findIn K (.ref C) name = some (some (.ref f))) (ht : PySem.W.isFn K (.ref f) = true) (hv : mA name = none) (h : Q (.ref f, [.ref x]) s) :
    wpAny (model prog w) A (getMethod (.ref x) name pl) Q E s := by
  obtain ⟨od, J, hl⟩ := I.look
  exact PySem.W.method_fn X J (PySem.W.plainGet_of hg).1 (PySem.W.plainGet_of hg).2 hf (beq_iff_eq.mp ht) (by show (PySem.W.lookIn name od).map (·.isSome) = some false; rw [hl, hv]; rfl) h
theorem make_map0 {R : Result → Shared → Prop} (X : K.In s.heap) (hm : PySem.W.makesIn K C = true)
    (hi : PySem.W.findIn K (.ref C) "__init__" = some (some (.builtin "object.__init__")))
    (hb : ∀ self, PySem.W.Looks (model prog w) s.heap (bindSpecial (.builtin "object.__init__") self) (.builtin "object.__init__", [self]))
    (h : codeAny (model prog w) (A.under (.builtin "type.__call__" ⟨[.ref C], []⟩)) (.call (.builtin "object.__init__") ⟨[.ref (s.heap.objs.size + 1)], []⟩) (PySem.W.InitBack (s.heap.objs.size + 1) R)
      { s with heap := (s.heap.push PySem.W.emptyDict).push (PySem.W.instObj C s.heap.objs.size) }) :
    codeAny (model prog w) A (.call (.ref C) ⟨[], []⟩) R s := by
  obtain ⟨hh, g, d, t, os⟩ := s
  exact PySem.W.make_core (PySem.W.makes_of X hm) (PySem.W.looks_findIn X hi) hb (.inr ⟨rfl, rfl⟩) h
end
def putF (f : Str) (v : V) : List (Str × V) → List (Str × V)
  | [] => [(f, v)]
  | (g, x) :: r => if g = f then (g, v) :: r else (g, x) :: putF f v r
theorem RelO.none_of {o : Option Value} (r : RelO none o) : o = none := by
  cases o with
  | none => rfl
  | some u => exact (show False from r).elim
section
variable {P : Program} {w : World} {H H' : Hp} {h h' : Heap} {a C dx : Addr} {fs fs' : List (Str × V)}
theorem ins_get (hok : HOk P w H h) (e : H a = some (.ins C dx fs)) : ∃ mA, ObjM h a dx C mA ∧ (∀ f, RelO (fs.lookup f) (mA f)) ∧ PySem.Within mA (fs.map (·.1)) ∧ fs.length ≤ 1000 ∧ H dx = some (.own a) := by
  obtain ⟨d, z, ne, ob, mA, n, r, q⟩ := (show ObjOk P w H h a (.ins C dx fs) from hok a _ e)
  exact ⟨mA, ⟨ob, n, ne⟩, r, q, z, d⟩
end
structure Cls (K : PySem.W.Frag) (C : Addr) : Prop where
  pg : PySem.W.plainGet K C Str.empty = true
  hd : PySem.W.hasDictIn K C = true
  po : PySem.W.plainOver K C = true
  sa : PySem.W.findIn K (.ref C) "__setattr__" = some (some (.builtin "object.__setattr__"))
theorem Cls.get {K : PySem.W.Frag} {C : Addr} (c : Cls K C) (f : Str) : PySem.W.plainGet K C f = true := c.pg
def NoAttr (K : PySem.W.Frag) (C : Addr) (f : Str) : Prop := PySem.W.findIn K (.ref C) f = some none
structure Con (K : PySem.W.Frag) (C : Addr) (f : Str) (v : V) (u : Value) : Prop where
  at_ : PySem.W.findIn K (.ref C) f = some (some u)
  rel : RelV v u
  get : PySem.W.specialIn K u "__get__" = some none
  cp : PySem.W.copiedNames.contains f = false
structure Meth (K : PySem.W.Frag) (C : Addr) (m : Str) (f : Addr) : Prop where
  at_ : PySem.W.findIn K (.ref C) m = some (some (.ref f))
  fn : PySem.W.isFn K (.ref f) = true
  kp : PySem.W.keepIn K (.ref f) = true
section
variable {X : Cx} {pins : List (Addr × Obj)} {σ : St} {H : Hp} {s : Shared} {a C dx : Addr} {fs : List (Str × V)} {f : Str} {v : V} {A : Around} {E : Value → Shared → Prop}
theorem getmeth_ok {m : Str} {g : Addr} {pl : Sem Bool} {Q : Value × List Value → Shared → Prop} (I : Inv X pins σ H s) (e : H a = some (.ins C dx fs)) (c : Cls X.K C) (k : Meth X.K C m g) (l : fs.lookup m = none)
    (h : Q (.ref g, [.ref a]) s) : wpAny (model X.prog X.w) A (getMethod (.ref a) m pl) Q E s := by
  obtain ⟨mA, O, r, _, _, _⟩ := ins_get I.hok e
  have hn : mA m = none := RelO.none_of (by rw [← l]; exact r m)
  exact get_meth I.kIn O (c.get m) k.at_ k.fn hn h
theorem Inv.made (I : Inv X pins σ H s) : Inv X pins σ (upd (upd H s.heap.objs.size (.own (s.heap.objs.size + 1))) (s.heap.objs.size + 1) (.ins C s.heap.objs.size []))
    { s with heap := (s.heap.push PySem.W.emptyDict).push (PySem.W.instObj C s.heap.objs.size) } := by
  have e1 : (s.heap.push PySem.W.emptyDict).get? s.heap.objs.size = some PySem.W.emptyDict := Heap.get?_push_size s.heap rfl
  have e2 : ((s.heap.push PySem.W.emptyDict).push (PySem.W.instObj C s.heap.objs.size)).get? (s.heap.objs.size + 1) = some (PySem.W.instObj C s.heap.objs.size) := by
    have := Heap.get?_push_size (s.heap.push PySem.W.emptyDict) (o := PySem.W.instObj C s.heap.objs.size) rfl
    rwa [Heap.size_push] at this
  have e3 : (s.heap.push PySem.W.emptyDict).Ns s.heap.objs.size (fun _ => none) := ⟨PySem.W.emptyDict, #[], _, e1, rfl, (fun e he => absurd he (by simp)), fun _ => rfl⟩
  have I1 := I.laid (a := s.heap.objs.size) (o := .own (s.heap.objs.size + 1)) (h' := s.heap.push PySem.W.emptyDict) (t' := s.toks) (fun b u q => Heap.get?_push_of_some _ q) (Nat.le_refl _) ⟨_, e1⟩
  refine I1.laid (a := s.heap.objs.size + 1) (o := .ins C s.heap.objs.size []) (t' := s.toks) (fun b u q => Heap.get?_push_of_some _ q) (Nat.le_of_eq (Heap.size_push _ _)) ?_
  have ne : s.heap.objs.size ≠ s.heap.objs.size + 1 := Nat.ne_of_lt (Nat.lt_succ_self _)
  refine ⟨by rw [upd_ne ne, upd_same], Nat.zero_le _, ne, e2, fun _ => none, (Heap.Ns1.of_empty e3).at fun o q => Heap.get?_push_of_some _ q, fun _ => True.intro, fun y hy => absurd rfl hy⟩
end
def tFld (K : PySem.W.Frag) (ta : TE) (f : Str) : TE := fun σ H Q => ta σ H fun x H1 => ∃ a C dx fs v, x = .ref a ∧ H1 a = some (.ins C dx fs) ∧ Cls K C ∧ NoAttr K C f ∧ fs.lookup f = some v ∧ Q v H1
def tCon (K : PySem.W.Frag) (ta : TE) (f : Str) : TE := fun σ H Q => ta σ H fun x H1 => ∃ a C dx fs v u, x = .ref a ∧ H1 a = some (.ins C dx fs) ∧ Cls K C ∧ Con K C f v u ∧ fs.lookup f = none ∧ Q v H1
def sFld (K : PySem.W.Frag) (ta tv : TE) (f : Str) : TS := fun D σ H => tv σ H fun y H1 => ta σ H1 fun x H2 => ∃ a C dx fs, x = .ref a ∧ H2 a = some (.ins C dx fs) ∧ Cls K C ∧ NoAttr K C f ∧ fs.length < 1000 ∧
  D.nx σ (upd H2 a (.ins C dx (putF f y fs)))
def InOp (X : Cx) (op : Operator) (rd : V → V → Hp → VK → Prop) : Prop :=
  ∀ (pins : List (Addr × Obj)) (s : Shared) (σ : St) (H : Hp) (x y : V) (u v : Value) (Q : VK), Inv X pins σ H s → RelV x u → RelV y v → rd x y H Q → wpAny (model X.prog X.w) X.A (inplaceOp op u v) (EP X pins σ Q) X.xe s
def sFldAug (K : PySem.W.Frag) (ta tv : TE) (rd : V → V → Hp → VK → Prop) (f : Str) : TS := fun D σ H => ta σ H fun x H1 => ∃ a C dx fs v, x = .ref a ∧ H1 a = some (.ins C dx fs) ∧ Cls K C ∧ NoAttr K C f ∧ fs.lookup f = some v ∧
  tv σ H1 fun y H2 => rd v y H2 fun z H3 => ∃ dx' fs', H3 a = some (.ins C dx' fs') ∧ fs'.length < 1000 ∧ D.nx σ (upd H3 a (.ins C dx' (putF f z fs')))
section
variable {X : Cx} {o e value : Expr} {f : Str} {pos pos' tpos : Pos} {ta tv : TE}
def rAdd : V → V → Hp → VK → Prop := fun x y H Q => ∃ i j, x = .int i ∧ y = .int j ∧ Q (.int (i + j)) H
def rSub : V → V → Hp → VK → Prop := fun x y H Q => ∃ i j, x = .int i ∧ y = .int j ∧ Q (.int (i - j)) H
end
section
variable {X : Cx} {pins : List (Addr × Obj)} {σ : St} {H : Hp} {s : Shared} {A : Around} {E : Value → Shared → Prop} {Q : Value → Shared → Prop} {c : Value} {b : Bool}
inductive TyOf (K : PySem.W.Frag) (H : Hp) : V → Value → Prop where
  | non : TyOf K H .non (.type "NoneType")
  | bl (x : Bool) : TyOf K H (.bl x) (.type "bool")
  | int (i : Int) : TyOf K H (.int i) (.type "int")
  | str (x : Str) : TyOf K H (.str x) (.type "str")
  | flt (x : UInt64) : TyOf K H (.flt x) (.type "float")
  | lst {a : Addr} {xs : List V} (e : H a = some (.lst xs)) : TyOf K H (.ref a) (.type "list")
  | frz {a : Addr} {o : Obj} {xs : List V} (e : H a = some (.frz o (.lst xs))) : TyOf K H (.ref a) (.type "list")
  | tup {a : Addr} {xs : List V} (e : H a = some (.tup xs)) : TyOf K H (.ref a) (.type "tuple")
  | dK {a : Addr} {kvs : List (Key × V)} (e : H a = some (.dK kvs)) : TyOf K H (.ref a) (.type "dict")
  | dT {a : Addr} {kvs : List (List Key × V)} (e : H a = some (.dT kvs)) : TyOf K H (.ref a) (.type "dict")
  | ins {a C dx : Addr} {fs : List (Str × V)} (e : H a = some (.ins C dx fs)) (cl : Cls K C) (ha : PySem.W.findIn K (.ref C) "__class__" = some (some (.builtin "object.__class__")))
      (hn : PySem.W.specialIn K (.builtin "object.__class__") "__get__" = some (some (.builtin "getset_descriptor.__get__"))) (htk : PySem.W.takesIn K (.builtin "object.__class__") = some true)
      (hm : PySem.W.mroIn K C (.type "object") = some true) : TyOf K H (.ref a) (.ref C)
theorem isinst_ok {x : V} {u t : Value} (I : Inv X pins σ H s) (rx : RelV x u) (ty : TyOf X.K H x t) (e : PySem.W.kitOne X.K t c = some b) (h : ∀ tk, Q (.bool b) { s with toks := tk }) :
    wpAny (model X.prog X.w) A (call (.builtin "isinstance") [u, c]) Q E s := by
  cases ty with
  | non => cases (show u = Value.none from rx); exact PySem.W.kia_one PySem.W.kitx_none I.kIn True.intro e (fun z => nomatch z) h
  | bl y => cases (show u = Value.bool y from rx); exact PySem.W.kia_one PySem.W.kitx_bool I.kIn True.intro e (fun z => nomatch z) h
  | int i => obtain ⟨t, q⟩ := (show ∃ t, u = Value.int i t from rx); cases q; exact PySem.W.kia_one PySem.W.kitx_int I.kIn True.intro e (fun z => nomatch z) h
  | str y => obtain ⟨t, q⟩ := (show ∃ t, u = Value.str y t from rx); cases q; exact PySem.W.kia_one PySem.W.kitx_str I.kIn True.intro e (fun z => nomatch z) h
  | flt y => obtain ⟨t, q⟩ := (show ∃ t, u = Value.float y t from rx); cases q; exact PySem.W.kia_one PySem.W.kitx_float I.kIn True.intro e (fun z => nomatch z) h
  | @lst a xs ea =>
    cases (show u = Value.ref a from rx)
    obtain ⟨_, _, n, _, h1⟩ := (show ObjOk X.prog X.w H s.heap a (.lst xs) from I.hok a _ ea)
    exact PySem.W.kia_one PySem.W.kitx_list I.kIn ⟨_, h1, rfl⟩ e (fun z => nomatch z) h
  | @frz a ob xs ea =>
    cases (show u = Value.ref a from rx)
    obtain ⟨_, _, _, n, _, h1⟩ := (show ObjOk X.prog X.w H s.heap a (.frz ob (.lst xs)) from I.hok a _ ea)
    exact PySem.W.kia_one PySem.W.kitx_list I.kIn ⟨_, h1, rfl⟩ e (fun z => nomatch z) h
  | @tup a xs ea =>
    cases (show u = Value.ref a from rx)
    obtain ⟨_, _, _, p⟩ := (show ObjOk X.prog X.w H s.heap a (.tup xs) from I.hok a _ ea)
    obtain ⟨o, h1, h2, _⟩ := p
    exact PySem.W.kia_one PySem.W.kitx_tuple I.kIn ⟨o, h1, h2⟩ e (fun z => nomatch z) h
  | @dK a kvs ea =>
    cases (show u = Value.ref a from rx)
    obtain ⟨_, _, vs, _, p⟩ := (show ObjOk X.prog X.w H s.heap a (.dK kvs) from I.hok a _ ea)
    obtain ⟨o, es, ep, h1, h2, _⟩ := p
    exact PySem.W.kia_one PySem.W.kitx_dict I.kIn ⟨o, h1, h2.1⟩ e (fun z => nomatch z) h
  | @dT a kvs ea =>
    cases (show u = Value.ref a from rx)
    obtain ⟨_, _, xs, _, o, es, ep, h1, h2, _⟩ := (show ObjOk X.prog X.w H s.heap a (.dT kvs) from I.hok a _ ea)
    exact PySem.W.kia_one PySem.W.kitx_dict I.kIn ⟨o, h1, h2.1⟩ e (fun z => nomatch z) h
  | @ins a C dx fs ea cl ha hn htk hm =>
    cases (show u = Value.ref a from rx)
    obtain ⟨mA, O, _⟩ := ins_get I.hok ea
    obtain ⟨od, J, _⟩ := O.look
    exact PySem.W.kia_one (PySem.W.kitx_own (cl.get _) cl.hd ha hn htk hm) I.kIn J e (fun z => nomatch z) h
end
end L2
namespace L2
open PySem PySem.Spec PyProof.Rows
structure Room (k : Nat) (A : Around) : Prop where
  hd : A.handled = none
  dp : A.depth + 3 * k + 5 < recursionLimit
  un : A.units + 16 * k + 200 < cLine
theorem Room.mono {j k : Nat} {A : Around} (r : Room k A) (h : j ≤ k) : Room j A := ⟨r.hd, by have := r.dp; omega, by have := r.un; omega⟩
theorem Room.deeper {k : Nat} {A : Around} (r : Room (k + 1) A) (env : Env) : Room k (A.deeper env) :=
  ⟨r.hd, by have := r.dp; show A.depth + 1 + 3 * k + 5 < _; omega, by have := r.un; show A.units + 3 + 16 * k + 200 < _; omega⟩
theorem Room.depth {k : Nat} {A : Around} (r : Room k A) : A.depth < recursionLimit := by have := r.dp; omega
theorem Room.units0 {k : Nat} {A : Around} (r : Room k A) : A.units < cLine := by have := r.un; omega
def tNil : TA := fun _ H Q => Q [] H
def tCons (ta : TE) (tr : TA) : TA := fun σ H Q => ta σ H fun x H1 => tr σ H1 fun xs H2 => Q (x :: xs) H2
section
variable {X : Cx} {e : Expr} {es : List Expr} {te : TE} {t : TA} {pos : Pos}
theorem pa_nil : PA X [] tNil := fun _ _ _ _ H Q I h => Calls.spliced_nil ⟨[], H, I, .nil, h⟩
theorem pa_cons (ha : PE X e te) (hr : PA X es t) (hs : starEach (e :: es) X.env = (false, eval e X.env) :: starEach es X.env := by rfl) : PA X (e :: es) (tCons te t) := by
  intro pos pins s σ H Q I h
  rw [hs]
  show wpAny _ _ (spliced ((false, eval e X.env) :: backTo pos (starEach es X.env))) _ _ s
  refine Calls.spliced_cons (thn (ha pins s σ H _ I h) fun u s1 ⟨x, H1, I1, r1, q1⟩ => ?_)
  exact thn (hr pos pins s1 σ H1 _ I1 q1) fun us s2 ⟨xs, H2, I2, r2, q2⟩ => ⟨x :: xs, H2, I2, .cons r1 r2, q2⟩
def tTup (t : TA) : TE := fun σ H Q => t σ H fun xs H1 => xs.length ≤ sizeLine ∧ ∀ p, H1 p = none → Q (.ref p) (upd H1 p (.tup xs))
def tLst (t : TA) : TE := fun σ H Q => t σ H fun xs H1 => xs.length ≤ sizeLine ∧ ∀ p, H1 p = none → Q (.ref p) (upd H1 p (.lst xs))
theorem pe_tup {x1} (h : PA X es t) : PE X (.Tuple es x1 pos) (tTup t) := by
  intro pins s σ H Q I hq
  refine wpAny_Tuple_spliced (thn (h pos pins s σ H _ I hq) fun us s1 ⟨xs, H1, I1, r, z, q⟩ => ⟨by rw [← r.length]; exact z, ?_⟩)
  have hf : H1 s1.heap.objs.size = none := I1.hok.fresh (Nat.le_refl _)
  refine ⟨.ref s1.heap.objs.size, upd H1 s1.heap.objs.size (.tup xs), I1.laid (t' := s1.toks) (fun b u e => Heap.get?_push_of_some _ e) (Nat.le_refl _) ?_, rfl, q _ hf⟩
  exact ⟨z, us, r, ⟨_, Heap.get?_push_size _ rfl, rfl, _, rfl⟩⟩
theorem pe_lst (h : PA X es t) : PE X (.List es pos) (tLst t) := by
  intro pins s σ H Q I hq
  refine wpAny_List_spliced (thn (h pos pins s σ H _ I hq) fun us s1 ⟨xs, H1, I1, r, z, q⟩ => ⟨by rw [← r.length]; exact z, ?_⟩)
  have hf : H1 s1.heap.objs.size = none := I1.hok.fresh (Nat.le_refl _)
  refine ⟨.ref s1.heap.objs.size, upd H1 s1.heap.objs.size (.lst xs), I1.laid (t' := s1.toks) (fun b u e => Heap.get?_push_of_some _ e) (Nat.le_refl _) ?_, rfl, q _ hf⟩
  exact ⟨z, us, 0, r, Heap.get?_push_size _ rfl⟩
end
abbrev Sp := List V → Hp → VK → XK → Prop
abbrev CXT := List Env → Hp → Shared → XK → Value → Shared → Prop
structure Env0 (P : Program) (w : World) (K : PySem.W.Frag) (mg : Str → Option Value) (base : Heap) (A : Around) (outer : List Env) (s : Shared) (H : Hp) : Prop where
  frames : A.frames = some outer
  mod : Mod K mg base
  bs : ∀ b o, base.get? b = some o → s.heap.get? b = some o ∧ H b = none
  bsz : base.objs.size ≤ s.heap.objs.size
  funs : s.heap.FunFrames base outer
  frf : ∀ b ∈ frs outer, H b = none
  hok : HOk P w H s.heap
  bare : AllBare s.gens
def CE (outer : List Env) (P : Program) (w : World) (H : Hp) (s : Shared) (Q : VK) (u : Value) (s' : Shared) : Prop :=
  ∃ v H', s'.os = s.os ∧ AllBare s'.gens ∧ Un (frs outer) [] H H' s.heap s'.heap ∧ HOk P w H' s'.heap ∧ RelV v u ∧ Q v H'
def CR (CX : CXT) (outer : List Env) (P : Program) (w : World) (H : Hp) (s : Shared) (Q : VK) (E : XK) (r : Result) (s' : Shared) : Prop :=
  match r with
  | .ok (.ret u) => CE outer P w H s Q u s'
  | .ok _ => False
  | .error e => CX outer H s E e s'
structure FnOk (P : Program) (w : World) (K : PySem.W.Frag) (mg : Str → Option Value) (base : Heap) (CX : CXT) (k : Nat) (f : Addr) (fd : FuncData) (ps : List Str) (sp : Sp) : Prop where
  len : ∀ vs H Q E, sp vs H Q E → vs.length = ps.length
  run : ∀ (A : Around) (outer : List Env) (s : Shared) (H : Hp) (args : Args) (us : List Value) (vs : List V) (Q : VK) (E : XK), Room k A → Env0 P w K mg base A outer s H → BindsTo s fd args (ps.zip us) → Vals vs us → sp vs H Q E →
    codeAny (model P w) A (.call (.ref f) args) (CR CX outer P w H s Q E) s
section
variable {X : Cx} {pins : List (Addr × Obj)} {σ : St} {H : Hp} {s s' : Shared}
theorem Inv.env0 (I : Inv X pins σ H s) : Env0 X.prog X.w X.K X.mg X.base X.A X.stack s H :=
  ⟨I.ok.frames, I.ok.mod, I.bs, Nat.le_trans I.ok.bsz I.sz, I.stack, I.stkFree, I.hok, I.bare⟩
theorem Inv.after {Q : VK} {u : Value} (I : Inv X pins σ H s) (h : CE X.stack X.prog X.w H s Q u s') : EP X pins σ Q u s' := by
  obtain ⟨v, H', os, bare, un, hok, r, q⟩ := h
  obtain ⟨hh, g, d, t, os'⟩ := s'
  obtain rfl : os' = s.os := os
  exact ⟨v, H', I.call (h' := hh) (g' := g) (d' := d) (t' := t) (ch := []) un hok bare (fun b z => absurd z (by simp)), r, q⟩
end
def tCall (sp : Sp) (dvs : List V) (E : XK) (t : TA) : TE := fun σ H Q => t σ H fun vs H1 => sp (vs ++ dvs) H1 Q E
def tMeth (C : Addr) (m : Str) (sp : Sp) (dvs : List V) (E : XK) (ta : TE) (t : TA) : TE := fun σ H Q => ta σ H fun x H1 => ∃ a dx fs, x = .ref a ∧ H1 a = some (.ins C dx fs) ∧ fs.lookup m = none ∧
  t σ H1 fun vs H2 => sp (x :: (vs ++ dvs)) H2 Q E
def tMake (C : Addr) (sp : Sp) (dvs : List V) (E : XK) (t : TA) : TE := fun σ H Q => t σ H fun vs H1 => ∀ x dx, H1 x = none → H1 dx = none → dx ≠ x →
  sp (.ref x :: (vs ++ dvs)) (upd (upd H1 dx (.own x)) x (.ins C dx [])) (fun v H2 => v = .non ∧ Q (.ref x) H2) E
def Binds (K : PySem.W.Frag) (fd : FuncData) (ps : List Str) (ds : List Value) : Prop :=
  ∀ (s : Shared) (us : List Value), K.In s.heap → (us ++ ds).length = ps.length → BindsTo s fd ⟨us, []⟩ (ps.zip (us ++ ds))
theorem Binds.all {K : PySem.W.Frag} {fd : FuncData} {ps : List Str} (h : ∀ us : List Value, us.length = ps.length → bindArgs fd ⟨us, []⟩ = pure (ps.zip us)) : Binds K fd ps [] := fun s us _ hl => by
  rw [List.append_nil] at hl ⊢
  exact .of_eq (h us hl)
def Passes (CX : CXT) (X : Cx) (E : XK) : Prop := ∀ (pins : List (Addr × Obj)) (σ : St) (H : Hp) (s : Shared) (e : Value) (s' : Shared), Inv X pins σ H s → CX X.stack H s E e s' → X.xe e s'
section
variable {X : Cx} {CX : CXT} {k : Nat} {f C : Addr} {fd : FuncData} {ps : List Str} {sp : Sp} {dvs : List V} {ds : List Value} {E : XK} {x m : Str} {p pos apos : Pos} {e o : Expr} {es : List Expr} {ta : TE} {t : TA}
theorem run_fn {pins : List (Addr × Obj)} {σ : St} {H : Hp} {s : Shared} {Q : VK} {us : List Value} {vs : List V} (F : FnOk X.prog X.w X.K X.mg X.base CX k f fd ps sp) (hr : Room k X.A) (hb : Binds X.K fd ps ds) (hd : Vals dvs ds) (hx : Passes CX X E)
    (I : Inv X pins σ H s) (r : Vals vs us) (h : sp (vs ++ dvs) H Q E) : wpAny (model X.prog X.w) X.A (call (.ref f) us) (EP X pins σ Q) X.xe s := by
  have r2 : Vals (vs ++ dvs) (us ++ ds) := r.append hd
  have hl : (us ++ ds).length = ps.length := by rw [← r2.length]; exact F.len _ _ _ _ h
  refine wpAny_call (codeAny_mono (F.run X.A X.stack s H ⟨us, []⟩ (us ++ ds) (vs ++ dvs) Q E hr I.env0 (hb s us I.kIn hl) r2 h) fun r s' hq => ?_)
  cases r with
  | error e => exact hx pins σ H s e s' I hq
  | ok fl =>
    cases fl with
    | ret u => exact I.after hq
    | next => exact False.elim hq
    | brk => exact False.elim hq
    | cont => exact False.elim hq
theorem pe_call (F : FnOk X.prog X.w X.K X.mg X.base CX k f fd ps sp) (hr : Room k X.A) (hg : Gl X x) (hm : X.mg x = some (.ref f)) (hk : PySem.W.keepIn X.K (.ref f) = true) (hb : Binds X.K fd ps ds) (hd : Vals dvs ds) (hx : Passes CX X E)
    (ha : PA X (e :: es) t) (hdb : (x == ("__debug__" : Str)) = false := by decide) (he : starEach (e :: es) X.env = (false, eval e X.env) :: starEach es X.env := by rfl) (hpl : (backTo pos (starEach es X.env)).any (·.1) = false := by rfl) :
    PE X (.Call (.Name x p) (e :: es) [] pos) (tCall sp dvs E t) := by
  intro pins s σ H Q I h
  refine wpAny_Call_Name_kw (ld_glob I hg hm ?_ hdb)
  refine PySem.W.callWith_K (h₀ := X.base) I.ok.mod.kin hk (thn (ha pos pins s σ H _ I h) fun us s1 ⟨vs, H1, I1, r, q⟩ => ⟨I1.kIn, ?_⟩) he hpl
  exact run_fn F hr hb hd hx I1 r q
structure Mk (K : PySem.W.Frag) (C f : Addr) : Prop where
  makes : PySem.W.makesIn K C = true
  init : PySem.W.findIn K (.ref C) "__init__" = some (some (.ref f))
  fn : PySem.W.isFn K (.ref f) = true
  kp : PySem.W.keepIn K (.ref C) = true
end
def PK (X : Cx) (kws : List Keyword) (t : TA) : Prop :=
  ∀ (pos : Pos) (pins : List (Addr × Obj)) (s : Shared) (σ : St) (H : Hp) (Q : List V → Hp → Prop), Inv X pins σ H s → t σ H Q → wpAny (model X.prog X.w) X.A (evalAll ((backToKw pos (keywordEach kws X.env)).map (·.2))) (AP X pins σ Q) X.xe s
section
variable {X : Cx} {CX : CXT} {k : Nat} {f C : Addr} {fd : FuncData} {ps ks : List Str} {sp : Sp} {E : XK} {x m : Str} {p pos apos kpos : Pos} {e o : Expr} {es : List Expr} {kws : List Keyword} {te ta : TE} {t tk : TA} {nm : Option Str}
structure KBinds (K : PySem.W.Frag) (fd : FuncData) (ps ks : List Str) (g : List Value → List Value → List Value) (gV : List V → List V → List V) : Prop where
  to : ∀ (s : Shared) (us ws : List Value), K.In s.heap → (g us ws).length = ps.length → BindsTo s fd ⟨us, ks.zip ws⟩ (ps.zip (g us ws))
  rel : ∀ {vs : List V} {us : List Value} {zs : List V} {ws : List Value}, Vals vs us → Vals zs ws → Vals (gV vs zs) (g us ws)
def tCallK (sp : Sp) (gV : List V → List V → List V) (E : XK) (t tk : TA) : TE := fun σ H Q => t σ H fun vs H1 => tk σ H1 fun zs H2 => sp (gV vs zs) H2 Q E
variable {g : List Value → List Value → List Value} {gV : List V → List V → List V}
end
structure FnScope (N P : List Str) (sc : Scope) : Prop where
  kind : sc.kind = .function
  co : sc.isCoroutine = false
  gen : sc.isGenerator = false
  nd : N.Nodup
  pre : N.take P.length = P
  par : ∀ x ∈ P, sc.names.lookup x = some .local ∨ sc.names.lookup x = some .cell
  nofree : ∀ y ∈ sc.names, y.2 ≠ .free
theorem bindL_out {kindOf : Str → Option NameKind} {x : Str} : ∀ {binds : List (Str × Value)} {m : Str → Option Value}, (∀ v, (x, v) ∉ binds) → bindL kindOf binds m x = m x
  | [], _, _ => rfl
  | (n, v) :: r, m, h => by
    unfold bindL
    rw [bindL_out fun w hw => h w (List.mem_cons_of_mem _ hw)]
    split
    · have : x ≠ n := by rintro rfl; exact h v List.mem_cons_self
      simp [this]
    · rfl
theorem bindC_out {kindOf : Str → Option NameKind} {x : Str} : ∀ {binds : List (Str × Value)} {m : Str → Option Value}, (∀ v, (x, v) ∉ binds) → bindC kindOf binds m x = m x
  | [], _, _ => rfl
  | (n, v) :: r, m, h => by
    unfold bindC
    rw [bindC_out fun w hw => h w (List.mem_cons_of_mem _ hw)]
    split
    · rfl
    · have : x ≠ n := by rintro rfl; exact h v List.mem_cons_self
      simp [this]
theorem bindL_get {kindOf : Str → Option NameKind} {x : Str} {v : Value} : ∀ {P : List Str} {vs : List Value} {i : Nat} {m : Str → Option Value}, P.Nodup → P[i]? = some x → vs[i]? = some v → kindOf x = some .local →
    bindL kindOf (P.zip vs) m x = some v
  | [], _, _, _, _, h, _, _ => by simp at h
  | _ :: _, [], _, _, _, _, h, _ => by simp at h
  | p :: P, w :: vs, 0, m, nd, h1, h2, hk => by
    simp at h1 h2; subst h1; subst h2
    show bindL kindOf ((p, w) :: P.zip vs) m p = _
    unfold bindL
    rw [bindL_out fun v hv => (List.nodup_cons.mp nd).1 (List.of_mem_zip hv).1, if_pos hk]
    simp
  | p :: P, w :: vs, i + 1, m, nd, h1, h2, hk => by
    show bindL kindOf ((p, w) :: P.zip vs) m x = _
    unfold bindL
    exact bindL_get (i := i) (List.nodup_cons.mp nd).2 (by simpa using h1) (by simpa using h2) hk
theorem bindC_get {kindOf : Str → Option NameKind} {x : Str} {v : Value} : ∀ {P : List Str} {vs : List Value} {i : Nat} {m : Str → Option Value}, P.Nodup → P[i]? = some x → vs[i]? = some v → kindOf x ≠ some .local →
    bindC kindOf (P.zip vs) m x = some v
  | [], _, _, _, _, h, _, _ => by simp at h
  | _ :: _, [], _, _, _, _, h, _ => by simp at h
  | p :: P, w :: vs, 0, m, nd, h1, h2, hk => by
    simp at h1 h2; subst h1; subst h2
    show bindC kindOf ((p, w) :: P.zip vs) m p = _
    unfold bindC
    rw [bindC_out fun v hv => (List.nodup_cons.mp nd).1 (List.of_mem_zip hv).1, if_neg hk]
    simp
  | p :: P, w :: vs, i + 1, m, nd, h1, h2, hk => by
    show bindC kindOf ((p, w) :: P.zip vs) m x = _
    unfold bindC
    exact bindC_get (i := i) (List.nodup_cons.mp nd).2 (by simpa using h1) (by simpa using h2) hk
def start (N : List Str) (vs : List V) : St := vs.map some ++ List.replicate (N.length - vs.length) none
def cxOf (CX : CXT) (P : Program) (w : World) (K : PySem.W.Frag) (mg : Str → Option Value) (base : Heap) (N : List Str) (qual : Str) (scope : Scope) (f : Addr) (cd : Value) (A : Around) (outer : List Env) (s : Shared) (H : Hp) (E : XK) : Cx where
  prog := P
  w := w
  K := K
  mg := mg
  base := base
  A := A.deeper (envOfC qual scope s.heap.objs.size f cd)
  N := N
  s₀ := s
  H₀ := H
  env := envOfC qual scope s.heap.objs.size f cd
  outer := outer
  stack := envOfC qual scope s.heap.objs.size f cd :: outer
  ex := []
  calm := true
  fn := fun _ => true
  pn := []
  xe := fun e s' => wpAny (model P w) (A.deeper (envOfC qual scope s.heap.objs.size f cd)) (leaving (envOfC qual scope s.heap.objs.size f cd) e) (fun _ s'' => CX outer H s E e s'') (fun e' s'' => CX outer H s E e' s'') s'
theorem cell_has {sc : Scope} {n : Nat} {x : Str} (h : sc.names.lookup x = some .cell) : ∃ c, (cellsFrom n sc.names []).lookup x = some c := by
  have q := PySem.W.cellsFrom_some sc.names n [] (.inl h)
  exact Option.isSome_iff_exists.mp q
theorem inv_start {CX : CXT} {P : Program} {w : World} {K : PySem.W.Frag} {mg : Str → Option Value} {base : Heap} {N ps : List Str} {qual : Str} {scope : Scope} {f : Addr} {cd : Value} {A : Around} {outer : List Env} {s s1 : Shared} {H : Hp} {E : XK} {us : List Value} {vs : List V}
    (S : FnScope N ps scope) (hd : A.handled = none) (e0 : Env0 P w K mg base A outer s H) (hl : vs.length = ps.length) (r : Vals vs us)
    (x : InCallC s s.heap.objs.size (bindL (envOfC qual scope s.heap.objs.size f cd).kindOf (ps.zip us) fun _ => none) (cellsFrom (s.heap.objs.size + 1) scope.names []) (bindC (envOfC qual scope s.heap.objs.size f cd).kindOf (ps.zip us) fun _ => none) s1) :
    Inv (cxOf CX P w K mg base N qual scope f cd A outer s H E) [] (start N vs) H s1 := by
  have hpl : ps.length ≤ N.length := by have := congrArg List.length S.pre; rw [List.length_take] at this; omega
  obtain ⟨h1, tk, rfl, hk⟩ := x.done
  have noA : ∀ b : Addr, b ∉ (cxOf CX P w K mg base N qual scope f cd A outer s H E).ex := fun b z => absurd (show b ∈ ([] : List Addr) from z) (by simp)
  refine ⟨⟨e0.mod, S.kind, rfl, rfl, Nat.le_refl _, fun y z c h1 h2 => ?_, fun y hy => ?_, fun y c _ h => ?_, fun _ => hd, Around.frames_deeper e0.frames, .inr ⟨rfl, rfl⟩, fun b z => absurd z (noA b), e0.bs, e0.bsz, fun b _ _ => noA b, fun b z => absurd z (noA b), e0.funs, e0.frf⟩,
    rfl, e0.bare, Un.kept hk, ⟨_, x.toInCall.ns, fun i y v h1 h2 h3 => ?_⟩, fun y c h => ⟨_, x.cell y c h⟩, e0.hok.fresh (Nat.le_refl _), fun y c h => ?_, fun p hp => absurd (show p ∈ ([] : List (Addr × Obj)) from hp) (by simp), e0.hok.kept hk, ?_⟩
  · exact name_of_addr x.apart (PySem.mem_of_lookup h1) (PySem.mem_of_lookup h2)
  · have hy : scope.names.lookup y = some .cell ∨ scope.names.lookup y = some .free := hy
    rcases hy with hy | hy
    · exact cell_has hy
    · exact absurd rfl (S.nofree _ (PySem.mem_of_lookup hy))
  · exact Nat.le_of_lt (x.above y c (PySem.mem_of_lookup h))
  · have hi : i < vs.length := by
      unfold start at h2
      by_cases hi : i < vs.length
      · exact hi
      · rw [List.getElem?_append_right (by simpa using hi)] at h2
        rw [List.getElem?_replicate] at h2
        split at h2 <;> cases h2
    have ha : vs[i]? = some v := by
      unfold start at h2
      rw [List.getElem?_append_left (by simpa using hi), List.getElem?_map] at h2
      cases e : vs[i]? with
      | none => rw [e] at h2; cases h2
      | some a => rw [e] at h2; cases h2; rfl
    obtain ⟨u, hu, rv⟩ := r.get ha
    have hp : ps[i]? = some y := by
      rw [← S.pre, List.getElem?_take_of_lt (by omega)]; exact h1
    have ndP : ps.Nodup := by rw [← S.pre]; exact S.nd.sublist (List.take_sublist _ _)
    refine ⟨u, rv, ?_⟩
    rcases S.par y (List.mem_of_getElem? hp) with k | k
    · exact .inl ⟨k, bindL_get ndP hp hu k⟩
    · obtain ⟨c, e⟩ := cell_has (n := s.heap.objs.size + 1) k
      refine .inr ⟨.inl k, c, e, ?_⟩
      have q := x.cell y c e
      rw [bindC_get ndP hp hu (by show scope.names.lookup y ≠ _; rw [k]; decide)] at q
      exact q
  · exact e0.hok.fresh (Nat.le_of_lt (x.above y c (PySem.mem_of_lookup h)))
  · unfold start
    show _ = N.length
    rw [List.length_append, List.length_map, List.length_replicate]
    omega
theorem fn_of {CX : CXT} {P : Program} {w : World} {K : PySem.W.Frag} {mg : Str → Option Value} {base : Heap} {k : Nat} {f : Addr} {name qual : Str} {params : Arguments} {body : List Stmt} {scope : Scope} {dV kV doc pm cdv ct oc : Value} {an od : Option Addr}
    {osl : Array (Option Value)} {N ps : List Str} {sp : Sp} (lk : K.lookup f = some ⟨oc, od, .func (PySem.W.fnOf name qual params body scope dV kV doc pm an cdv ct), osl⟩) (hcd : PySem.W.codeIn K cdv qual = true) (S : FnScope N ps scope)
    (len : ∀ vs H Q E, sp vs H Q E → vs.length = ps.length)
    (hbody : ∀ (A : Around) (outer : List Env) (s : Shared) (H : Hp) (vs : List V) (Q : VK) (E : XK), Room k (A.deeper (envOfC qual scope s.heap.objs.size f cdv)) → sp vs H Q E →
      ∃ t, PSs (cxOf CX P w K mg base N qual scope f cdv A outer s H E) body t ∧ t { nx := fun _ H' => Q .non H', rt := Q } (start N vs) H) :
    FnOk P w K mg base CX (k + 1) f (PySem.W.fnOf name qual params body scope dV kV doc pm an cdv ct) ps sp := by
  refine ⟨len, fun A outer s H args us vs Q E hr e0 hb r hsp => ?_⟩
  have hl := len _ _ _ _ hsp
  have KX : K.In s.heap := e0.mod.kin.keeps fun b o e => (e0.bs b o e).1
  have lim : s.heap.NoLimit := e0.mod.nolimit.keeps fun b o e => (e0.bs b o e).1
  have hkind : ∀ y ∈ ps.zip us, scope.names.lookup y.1 = some .local ∨ (scope.names.lookup y.1 = some .cell ∧ ((cellsFrom (s.heap.objs.size + 1) scope.names []).lookup y.1).isSome = true) := fun ⟨n, v⟩ hy => by
    rcases S.par n (List.of_mem_zip hy).1 with q | q
    · exact .inl q
    · exact .inr ⟨q, PySem.W.cellsFrom_some _ _ _ (.inl q)⟩
  refine codeAny_call_function hr.depth (KX _ _ lk) rfl S.co S.gen rfl (PySem.W.codeRec_of KX hcd) (hb _ _ _ _ ?_)
  refine wpAny_newFunctionEnv_cells S.kind hkind fun env he s1 x => ?_
  subst he
  refine ⟨lim.keeps x.toInCall.keep, codeAny_func ?_⟩
  obtain ⟨t, ht, hq⟩ := hbody A outer s H vs Q E (hr.deeper _) hsp
  have I : Inv (cxOf CX P w K mg base N qual scope f cdv A outer s H E) [] (start N vs) H s1 := inv_start S hr.hd e0 hl r x
  refine wpAny_mono (ht [] s1 (start N vs) H _ I hq) (fun fl s' hs => ?_) fun e s' hs => hs
  have fin : ∀ {σ' : St} {H' : Hp} {v : V} {u : Value}, Inv (cxOf CX P w K mg base N qual scope f cdv A outer s H E) [] σ' H' s' → RelV v u → Q v H' → CE outer P w H s Q u s' :=
    fun {σ' H' v u} J rv q => ⟨v, H', J.os, J.bare, J.base, J.hok, rv, q⟩
  cases fl with
  | ret u =>
    obtain ⟨v, σ', H', J, rv, q⟩ := hs
    exact fin J rv q
  | next =>
    obtain ⟨σ', H', J, q⟩ := hs
    exact fin (v := V.non) (u := Value.none) J rfl q
  | brk =>
    obtain ⟨_, _, _, q⟩ := hs
    exact False.elim q
  | cont =>
    obtain ⟨_, _, _, q⟩ := hs
    exact False.elim q
end L2
namespace L2
open PySem PySem.Spec PyProof.Rows
section
variable {X : Cx} {x : Str} {p pos : Pos} {e : Expr} {es : List Expr} {t : TA} {id T : String} {r : List V → Hp → VK → Prop}
def tCB (r : List V → Hp → VK → Prop) (t : TA) : TE := fun σ H Q => t σ H fun vs H1 => r vs H1 Q
theorem pe_callB (hc : CallR X (.builtin id) r) (hg : Gl X x) (hm : X.mg x = none) (hv : bootBuiltins x = some (.builtin id)) (ha : PA X (e :: es) t) (hn : x ≠ "__name__" := by decide) (hdb : (x == ("__debug__" : Str)) = false := by decide)
    (he : starEach (e :: es) X.env = (false, eval e X.env) :: starEach es X.env := by rfl) (hpl : (backTo pos (starEach es X.env)).any (·.1) = false := by rfl) : PE X (.Call (.Name x p) (e :: es) [] pos) (tCB r t) := by
  intro pins s σ H Q I h
  refine wpAny_Call_Name_kw (ld_blt I hg hm hv ?_ hn hdb)
  exact PyProof.Rows.callWith_builtin1 (thn (ha pos pins s σ H _ I h) fun us s1 ⟨vs, H1, I1, r1, q1⟩ => hc pins s1 σ H1 vs us Q I1 r1 q1) he hpl
theorem pe_callTy (hc : CallR X (.type T) r) (hg : Gl X x) (hm : X.mg x = none) (hv : bootBuiltins x = some (.type T)) (ha : PA X (e :: es) t) (hn : x ≠ "__name__" := by decide) (hdb : (x == ("__debug__" : Str)) = false := by decide)
    (he : starEach (e :: es) X.env = (false, eval e X.env) :: starEach es X.env := by rfl) (hpl : (backTo pos (starEach es X.env)).any (·.1) = false := by rfl) : PE X (.Call (.Name x p) (e :: es) [] pos) (tCB r t) := by
  intro pins s σ H Q I h
  refine wpAny_Call_Name_kw (ld_blt I hg hm hv ?_ hn hdb)
  exact PyProof.Rows.callWith_type1 (thn (ha pos pins s σ H _ I h) fun us s1 ⟨vs, H1, I1, r1, q1⟩ => hc pins s1 σ H1 vs us Q I1 r1 q1) he hpl
end
end L2
namespace HT
open PySem PyProof.Rows
def lexLt : List Int → List Int → Bool
  | [], [] => false
  | [], _ :: _ => true
  | _ :: _, [] => false
  | x :: xs, y :: ys => if x = y then lexLt xs ys else decide (x < y)
section
open PySem.SeqAt
open PySem.AutoSeq1 (wpAny_loadPart')
open PySem.MeetsSeq PySem.MeetsSeq2 PySem.MeetsSeq3
end
section
variable {prog : Program} {w : World} {A : Around} {E : Value → Shared → Prop} {s : Shared}
def sIx (n d : Nat) : Option Int → Nat
  | none => d
  | some v => if v < 0 then (v + (n : Int)).toNat else min v.toNat n
theorem sIx_none (n d : Nat) : sIx n d none = d := rfl
theorem sIx_nat (n d k : Nat) : sIx n d (some (k : Int)) = min k n := by
  show (if (k : Int) < 0 then ((k : Int) + (n : Int)).toNat else min (k : Int).toNat n) = min k n
  rw [if_neg (by omega), Int.toNat_natCast]
end
end HT
namespace L2
open PySem PySem.Spec PyProof.Rows
abbrev TO := St → Hp → (Option Int → Hp → Prop) → Prop
def PO (X : Cx) (e : Option Expr) (t : TO) : Prop :=
  ∀ (pins : List (Addr × Obj)) (s : Shared) (σ : St) (H : Hp) (Q : Option Int → Hp → Prop), Inv X pins σ H s → t σ H Q →
    wpAny (model X.prog X.w) X.A (evalPart e X.env) (fun u s' => ∃ o H', Inv X pins σ H' s' ∧ IsPart u o ∧ Q o H') X.xe s
def tNoPart : TO := fun _ H Q => Q none H
def tPart (t : TE) : TO := fun σ H Q => t σ H fun x H1 => ∃ i, x = .int i ∧ Q (some i) H1
theorem intsAre_of {ns : List Int} : ∀ {us : List Value}, Vals (ns.map V.int) us → IntsAre us ns := by
  induction ns with
  | nil => intro us r; rw [List.map_nil] at r; cases r; exact .nil
  | cons n ns ih =>
    intro us r
    rw [List.map_cons] at r
    cases r with
    | cons r1 r2 =>
      obtain ⟨t, e⟩ := r1
      subst e
      exact .cons n t (ih r2)
section
variable {X : Cx} {e : Expr} {te : TE} {lo hi : Option Expr} {tl th : TO} {pos p2 : Pos}
theorem po_none : PO X none tNoPart := by
  intro pins s σ H Q I h
  rw [evalPart_none]
  exact wpAny_pure ⟨none, H, I, .none, h⟩
theorem po_some (h : PE X e te) : PO X (some e) (tPart te) := by
  intro pins s σ H Q I hw
  rw [evalPart_some]
  refine thn (h pins s σ H _ I hw) fun u s1 ⟨x, H1, I1, r1, q1⟩ => ?_
  obtain ⟨i, rfl, q⟩ := q1
  obtain ⟨t, rfl⟩ := r1
  exact ⟨some i, H1, I1, .int i t, q⟩
def SlR (X : Cx) (r : V → Option Int → Option Int → Hp → VK → Prop) : Prop :=
  ∀ (pins : List (Addr × Obj)) (s : Shared) (σ : St) (H : Hp) (x : V) (v vl vu : Value) (lo hi : Option Int) (sl : Addr) (Q : VK), Inv X pins σ H s → RelV x v → s.heap.IsSliceOf sl vl vu .none → IsPart vl lo → IsPart vu hi → r x lo hi H Q →
    ∃ T id, typeLookup (.type T) "__getitem__" = pure (some (.builtin id)) ∧ s.TypeIs v T ∧ wpAny (model X.prog X.w) X.A (getItem v (.ref sl)) (EP X pins σ Q) X.xe s
def tSl (r : V → Option Int → Option Int → Hp → VK → Prop) (te : TE) (tl th : TO) : TE := fun σ H Q => te σ H fun x H1 => tl σ H1 fun l H2 => th σ H2 fun u H3 => r x l u H3 Q
theorem pe_slice {r : V → Option Int → Option Int → Hp → VK → Prop} (hr : SlR X r) (he : PE X e te) (hl : PO X lo tl) (hu : PO X hi th) : PE X (.Subscript e (.Slice lo hi none p2) pos) (tSl r te tl th) := by
  intro pins s σ H Q I h
  refine Subscript_ (thn (he pins s σ H _ I h) fun v s1 ⟨x, H1, I1, r1, q1⟩ => ?_)
  refine wpAny_Slice (thn (hl pins s1 σ H1 _ I1 q1) fun vl s2 ⟨l, H2, I2, pl, q2⟩ => thn (hu pins s2 σ H2 _ I2 q2) fun vu s3 ⟨u, H3, I3, pu, q3⟩ => ?_)
  rw [evalPart_none]
  refine wpAny_pure ?_
  have I4 : Inv X pins σ H3 { s3 with heap := s3.heap.push { cls := .type "slice", data := .fields #[vl, vu, .none] } } := I3.kept (t' := s3.toks) fun b ob q => Heap.get?_push_of_some _ q
  obtain ⟨T, id, hT, ht, hg⟩ := hr pins { s3 with heap := s3.heap.push { cls := .type "slice", data := .fields #[vl, vu, .none] } } σ H3 x v vl vu l u s3.heap.objs.size Q I4 r1 (Heap.IsSliceOf.new ..) pl pu q3
  show wpAny (model X.prog X.w) X.A (subscriptTail e (.Slice lo hi none p2) v (.ref s3.heap.objs.size)) (EP X pins σ Q) X.xe { s3 with heap := s3.heap.push { cls := .type "slice", data := .fields #[vl, vu, .none] } }
  exact tail_any (ops := [.ref s3.heap.objs.size, v]) ht hT hg (by with_unfolding_all rfl)
def cutV (xs : List V) (lo hi : Option Int) : List V := (xs.drop (HT.sIx xs.length 0 lo)).take (HT.sIx xs.length xs.length hi - HT.sIx xs.length 0 lo)
theorem cutV_length (xs : List V) (lo hi : Option Int) : (cutV xs lo hi).length ≤ xs.length := by
  unfold cutV
  rw [List.length_take, List.length_drop]
  omega
def rSlT (K : PySem.W.Frag) : V → Option Int → Option Int → Hp → VK → Prop := fun x lo hi H Q => ∃ a xs, x = .ref a ∧ SqT K H a xs ∧
  ¬ (HT.sIx xs.length 0 lo = 0 ∧ HT.sIx xs.length xs.length hi = xs.length) ∧ ∀ p, H p = none → Q (.ref p) (upd H p (.tup (cutV xs lo hi)))
def rLtT (K : PySem.W.Frag) : R2 := fun x y H Q => ∃ a b ns ms, x = .ref a ∧ y = .ref b ∧ SqT K H a (ns.map V.int) ∧ SqT K H b (ms.map V.int) ∧ Q (.bl (HT.lexLt ns ms)) H
def rCatT (K : PySem.W.Frag) : R2 := fun x y H Q => ∃ a b xs ys, x = .ref a ∧ y = .ref b ∧ SqT K H a xs ∧ SqT K H b ys ∧ xs ≠ [] ∧ xs.length + ys.length ≤ sizeLine ∧
  (ys = [] → Q (.ref a) H) ∧ (ys ≠ [] → ∀ p, H p = none → Q (.ref p) (upd H p (.tup (xs ++ ys))))
end
end L2
namespace L2
open PySem PySem.Spec PyProof.Rows
def ixN (n : Nat) (i : Int) : Option Nat := if 0 ≤ i then (if i < n then some i.toNat else none) else if -(n : Int) ≤ i then some (i + n).toNat else none
def atI {α : Type} (xs : List α) (i : Int) : Option α := (ixN xs.length i).bind fun j => xs[j]?
theorem ixN_seq {n : Nat} {i : Int} {j : Nat} (h : ixN n i = some j) : seqIndex? i n = some j ∧ j < n ∧ -(n : Int) ≤ i ∧ i < n := by
  unfold ixN at h
  by_cases h0 : 0 ≤ i
  · rw [if_pos h0] at h
    by_cases h1 : i < n
    · rw [if_pos h1] at h
      have e : i.toNat = j := Option.some.inj h
      exact ⟨by rw [seqIndex_of h0 h1, e], by omega, by omega, h1⟩
    · rw [if_neg h1] at h; cases h
  · rw [if_neg h0] at h
    by_cases h1 : -(n : Int) ≤ i
    · rw [if_pos h1] at h
      have e : (i + n).toNat = j := Option.some.inj h
      exact ⟨by rw [seqIndex_neg (by omega) h1, e], by omega, h1, by omega⟩
    · rw [if_neg h1] at h; cases h
theorem atI_get {α : Type} {xs : List α} {i : Int} {v : α} (h : atI xs i = some v) : ∃ j, seqIndex? i xs.length = some j ∧ xs[j]? = some v ∧ j < xs.length ∧ -(xs.length : Int) ≤ i ∧ i < xs.length := by
  unfold atI at h
  cases e : ixN xs.length i with
  | none => rw [e] at h; cases h
  | some j =>
    rw [e] at h
    obtain ⟨h1, h2, h3, h4⟩ := ixN_seq e
    exact ⟨j, h1, h, h2, h3, h4⟩
theorem atI_nat {α : Type} {xs : List α} {j : Nat} {v : α} (h : xs[j]? = some v) : atI xs (j : Int) = some v := by
  have hj : j < xs.length := (List.getElem?_eq_some_iff.mp h).1
  have e : ixN xs.length (j : Int) = some j := by
    unfold ixN
    rw [if_pos (by omega), if_pos (by omega)]; simp
  unfold atI; rw [e]; exact h
theorem atI_last {α : Type} (xs : List α) (v : α) : atI (xs ++ [v]) (-1) = some v := by
  have hl : (xs ++ [v]).length = xs.length + 1 := by simp
  have e : ixN (xs ++ [v]).length (-1) = some xs.length := by
    unfold ixN
    rw [hl, if_neg (by decide), if_pos (by omega)]
    congr 1
    omega
  unfold atI
  rw [e]
  show (xs ++ [v])[xs.length]? = some v
  simp
def PlainIx (b : Expr) : Prop := ∀ o i, subscripted b false o i = operate [o, i] (getItem o i)
def IxR (X : Cx) (r : R2) : Prop :=
  ∀ (value slice : Expr) (pins : List (Addr × Obj)) (s : Shared) (σ : St) (H : Hp) (x y : V) (v u : Value) (Q : VK), Inv X pins σ H s → RelV x v → RelV y u → r x y H Q →
    subscripted slice false v u = operate [v, u] (getItem v u) → wpAny (model X.prog X.w) X.A (subscriptTail value slice v u) (EP X pins σ Q) X.xe s
def MtR (X : Cx) (id : String) (r : V → List V → Hp → VK → Prop) : Prop :=
  ∀ (pins : List (Addr × Obj)) (s : Shared) (σ : St) (H : Hp) (x : V) (xs : List V) (v : Value) (us : List Value) (Q : VK), Inv X pins σ H s → RelV x v → Vals xs us → r x xs H Q →
    wpAny (model X.prog X.w) X.A (call (.builtin id) (v :: us)) (EP X pins σ Q) X.xe s
section
variable {X : Cx} {a b : Expr} {ta tb : TE} {pos : Pos}
theorem pe_ix {r : R2} (hr : IxR X r) (ha : PE X a ta) (hb : PE X b tb) (hs : PlainIx b) : PE X (.Subscript a b pos) (tOp r ta tb) := by
  intro pins s σ H Q I h
  exact Subscript_ (binT ha hb I h fun v u s2 x y H2 I2 rx ry q => hr a b pins s2 σ H2 x y v u Q I2 rx ry q (hs _ _))
def rIxL (K : PySem.W.Frag) : R2 := fun x y H Q => ∃ p xs i v, x = .ref p ∧ y = .int i ∧ SqL K H p xs ∧ atI xs i = some v ∧ Q v H
def rIxT (K : PySem.W.Frag) : R2 := fun x y H Q => ∃ p xs i v, x = .ref p ∧ y = .int i ∧ SqT K H p xs ∧ atI xs i = some v ∧ Q v H
def rIxS : R2 := fun x y H Q => ∃ z i c, x = .str z ∧ y = .int i ∧ z.length ≤ sizeLine ∧ atI z.cps.toList i = some c ∧ Q (.str ⟨#[c]⟩) H
theorem ix_list : IxR X (rIxL X.K) := by
  intro value slice pins s σ H x y v u Q I rx ry h hs
  obtain ⟨p, xs, i, z, rfl, rfl, hq, he, q⟩ := h
  cases rx
  obtain ⟨t, rfl⟩ := ry
  obtain ⟨its, r, pl, hz⟩ := I.list hq
  obtain ⟨j, h1, h2, h3, h4, h5⟩ := atI_get he
  obtain ⟨w, ew, rw'⟩ := r.get h2
  have hl := r.length
  have hn := line63
  have fin : EP X pins σ Q w s := ⟨z, H, I, rw', q⟩
  by_cases h0 : 0 ≤ i
  · have hj : i.toNat = j := by
      rw [seqIndex_of h0 h5] at h1
      exact Option.some.inj h1
    exact item_listR pl.isList h0 (by omega) (by rw [hj]; simpa using ew) fin hs
  · have hj : (i + (its.toArray.size : Int)).toNat = j := by
      rw [seqIndex_neg (by omega) h4] at h1
      rw [List.size_toArray, ← hl]
      exact Option.some.inj h1
    exact subscriptTail_builtinR (x := w) pl.isList.typeIs slot_list_getitem.lookup
      (wpAny_getItem_list_neg (Q := fun r s' => r = w ∧ EP X pins σ Q r s') pl.isList (by omega) (by rw [List.size_toArray] <;> omega) (by omega) (by rw [hj]; simpa using ew) ⟨rfl, fin⟩) hs
theorem ix_tup : IxR X (rIxT X.K) := by
  intro value slice pins s σ H x y v u Q I rx ry h hs
  obtain ⟨p, xs, i, z, rfl, rfl, hq, he, q⟩ := h
  cases rx
  obtain ⟨t, rfl⟩ := ry
  obtain ⟨its, r, pl, hz⟩ := I.tuple hq
  obtain ⟨j, h1, h2, h3, h4, h5⟩ := atI_get he
  obtain ⟨w, ew, rw'⟩ := r.get h2
  have hl := r.length
  have hn := line63
  have fin : EP X pins σ Q w s := ⟨z, H, I, rw', q⟩
  exact subscriptTail_builtinR (x := w) pl.typeIs slot_tuple_getitem.lookup
    (getItem_tuple (j := j) (Q := fun r s' => r = w ∧ EP X pins σ Q r s') pl (by omega) (by omega) (by rw [List.size_toArray, ← hl]; exact h1) (by simpa using ew) ⟨rfl, fin⟩) hs
def rIx (K : PySem.W.Frag) : R2 := fun x y H Q => rIxL K x y H Q ∨ rIxT K x y H Q ∨ rIxS x y H Q
theorem mapSeq_set (its : List Value) (n j : Nat) (u : Value) : Obj.mapSeq (·.setIfInBounds j u) { cls := .type "list", data := .seq its.toArray n } = { cls := .type "list", data := .seq (its.set j u).toArray n } := by
  simp [Obj.mapSeq]
theorem Inv.lst {pins : List (Addr × Obj)} {σ : St} {H : Hp} {s : Shared} {p : Addr} {xs : List V} (I : Inv X pins σ H s) (h : H p = some (.lst xs)) :
    ∃ (its : List Value) (n : Nat), Vals xs its ∧ s.heap.get? p = some { cls := .type "list", data := .seq its.toArray n } ∧ xs.length ≤ sizeLine := by
  obtain ⟨z, its, n, r, e⟩ := I.hok p _ h
  exact ⟨its, n, r, e, z⟩
theorem Inv.lstUpd {pins : List (Addr × Obj)} {σ : St} {H : Hp} {s : Shared} {p : Addr} {xs ys : List V} {its its' : List Value} {n n' : Nat} {f : Obj → Obj} (I : Inv X pins σ H s) (h : H p = some (.lst xs))
    (ho : s.heap.get? p = some { cls := .type "list", data := .seq its.toArray n }) (hf : f { cls := .type "list", data := .seq its.toArray n } = { cls := .type "list", data := .seq its'.toArray n' }) (r : Vals ys its') (hz : ys.length ≤ sizeLine) (t : Nat) :
    Inv X pins σ (upd H p (.lst ys)) { s with heap := s.heap.update p f, toks := t } := by
  have e : (s.heap.update p f).get? p = some { cls := .type "list", data := .seq its'.toArray n' } := by
    rw [Heap.get?_update_self f ho (by rw [hf] <;> rfl), hf]
  refine I.write (x := p) (e := p) (by rw [h]; trivial) (.inl rfl) (fun b u hb q => (Heap.get?_update_other _ _ (Ne.symm hb)).trans q) ⟨_, e⟩ ?_
  exact ⟨hz, its', n', r, e⟩
def rSetL : V → V → V → Hp → (Hp → Prop) → Prop := fun o i v H Q => ∃ p xs k j, o = .ref p ∧ i = .int k ∧ H p = some (.lst xs) ∧ ixN xs.length k = some j ∧ Q (upd H p (.lst (xs.set j v)))
theorem set_list : PSet X rSetL := by
  intro pins s σ H o i v ov iv u Q I ro ri rv h
  obtain ⟨p, xs, k, j, rfl, rfl, hp, hj, q⟩ := h
  cases ro
  obtain ⟨t, rfl⟩ := ri
  obtain ⟨its, n, r, ho, hz⟩ := I.lst hp
  obtain ⟨h1, h2, h3, h4⟩ := ixN_seq hj
  have hl := r.length
  have hn := line63
  have I' : Inv X pins σ (upd H p (.lst (xs.set j v))) { s with heap := s.heap.update p (Obj.mapSeq (·.setIfInBounds j u)) } :=
    I.lstUpd hp ho (mapSeq_set its n j u) (r.set rv j) (by rw [List.length_set]; exact hz) s.toks
  by_cases h0 : 0 ≤ k
  · have hk : k.toNat = j := by
      rw [seqIndex_of h0 h4] at h1
      exact Option.some.inj h1
    exact PySem.W.ki_setAt ho h0 (by omega) (by rw [List.size_toArray, ← hl]; exact h4) (by rw [hk]; exact ⟨_, I', q⟩)
  · have hk : (k + (its.toArray.size : Int)).toNat = j := by
      rw [seqIndex_neg (by omega) h3] at h1
      rw [List.size_toArray, ← hl]
      exact Option.some.inj h1
    exact PySem.W.ki_setBack ho (by omega) (by rw [List.size_toArray, ← hl]; exact h3) (by omega) (by rw [hk]; exact ⟨_, I', q⟩)
theorem slice_bounds (lo hi : Option Int) (n : Nat) : (sliceBounds lo hi none n).1 = ((HT.sIx n 0 lo : Nat) : Int) ∧ (sliceBounds lo hi none n).2.1 = ((HT.sIx n n hi : Nat) : Int) ∧ (sliceBounds lo hi none n).2.2 = 1 := by
  refine ⟨?_, ?_, rfl⟩
  · cases lo with
    | none => simp [sliceBounds, HT.sIx]
    | some i =>
      simp only [sliceBounds, HT.sIx, Option.getD_none, show (1 : Int) > 0 by decide, if_true]
      by_cases h : i < 0
      · simp only [h, if_true] <;> omega
      · simp only [h, if_false] <;> omega
  · cases hi with
    | none => simp [sliceBounds, HT.sIx]
    | some i =>
      simp only [sliceBounds, HT.sIx, Option.getD_none, show (1 : Int) > 0 by decide, if_true]
      by_cases h : i < 0
      · simp only [h, if_true] <;> omega
      · simp only [h, if_false] <;> omega
theorem slicePick_cut (its : List Value) (lo hi : Option Int) : slicePick its.toArray lo hi none = ((its.drop (HT.sIx its.length 0 lo)).take (HT.sIx its.length its.length hi - HT.sIx its.length 0 lo)).toArray := by
  obtain ⟨h1, h2, h3⟩ := slice_bounds lo hi its.toArray.size
  unfold slicePick
  rw [h1, h2, h3]
  simp only [sliceRange_one, pick_run, List.size_toArray] <;> rfl
def rSlL (K : PySem.W.Frag) : V → Option Int → Option Int → Hp → VK → Prop := fun x lo hi H Q => ∃ a xs, x = .ref a ∧ SqL K H a xs ∧ ∀ p, H p = none → Q (.ref p) (upd H p (.lst (cutV xs lo hi)))
theorem sl_list : SlR X (rSlL X.K) := by
  intro pins s σ H x v vl vu lo hi sl Q I rx hs pl pu h
  obtain ⟨a, xs, rfl, hx, q⟩ := h
  cases rx
  obtain ⟨its, r, ht, hz⟩ := I.list hx
  have hlen := r.length
  refine ⟨"list", _, slot_list_getitem.lookup, ht.isList.typeIs, ?_⟩
  refine wpAny_getItem_list_slice ht.isList hs pl pu .none (by simp) ?_ (by rw [List.size_toArray] <;> omega)
  rw [slicePick_cut, ← hlen]
  refine ⟨.ref s.heap.objs.size, _, I.laid (t' := s.toks) (o := .lst (cutV xs lo hi)) (fun b ob q => Heap.get?_push_of_some _ q) (Nat.le_refl _) ?_, rfl, q _ (I.hok.fresh (Nat.le_refl _))⟩
  exact ⟨Nat.le_trans (cutV_length xs lo hi) hz, _, 0, (r.drop (HT.sIx xs.length 0 lo)).take (HT.sIx xs.length xs.length hi - HT.sIx xs.length 0 lo), Heap.get?_push_size _ rfl⟩
def flatV : V → Bool
  | .non => true
  | .bl _ => true
  | .int _ => true
  | .str _ => true
  | _ => false
def eqV : V → V → Bool
  | .non, .non => true
  | .bl a, .bl b => a == b
  | .bl a, .int b => (if a then 1 else 0) == b
  | .int a, .bl b => a == (if b then 1 else 0)
  | .int a, .int b => a == b
  | .str a, .str b => a == b
  | _, _ => false
theorem eqAt_V {A : Around} {s : Shared} {y x : V} {u v : Value} (ry : RelV y u) (rx : RelV x v) (fy : flatV y = true) (fx : flatV x = true) : SeqAt.EqAt A s u v (eqV y x) := by
  cases y with
  | non =>
    cases ry
    cases x with
    | non => cases rx; exact SeqAt.EqAt.same _
    | bl b => cases rx; exact SeqAt.EqAt.none_bool b
    | int b => obtain ⟨t, rfl⟩ := rx; exact SeqAt.EqAt.none_int b t
    | str b => obtain ⟨t, rfl⟩ := rx; exact SeqAt.EqAt.none_str b t
    | _ => exact absurd (show false = true from fx) Bool.false_ne_true
  | bl a =>
    cases ry
    cases x with
    | non => cases rx; exact SeqAt.EqAt.bool_none a
    | bl b => cases rx; exact SeqAt.EqAt.bool_bool a b
    | int b => obtain ⟨t, rfl⟩ := rx; exact SeqAt.EqAt.bool_int a b t
    | str b => obtain ⟨t, rfl⟩ := rx; exact SeqAt.EqAt.bool_str a b t
    | _ => exact absurd (show false = true from fx) Bool.false_ne_true
  | int a =>
    obtain ⟨t', rfl⟩ := ry
    cases x with
    | non => cases rx; exact SeqAt.EqAt.int_none a t'
    | bl b => cases rx; exact SeqAt.EqAt.int_bool a t' b
    | int b => obtain ⟨t, rfl⟩ := rx; exact SeqAt.EqAt.int_int a t' b t
    | str b => obtain ⟨t, rfl⟩ := rx; exact SeqAt.EqAt.int_str a t' b t
    | _ => exact absurd (show false = true from fx) Bool.false_ne_true
  | str a =>
    obtain ⟨t', rfl⟩ := ry
    cases x with
    | non => cases rx; exact SeqAt.EqAt.str_none a t'
    | bl b => cases rx; exact SeqAt.EqAt.str_bool a t' b
    | int b => obtain ⟨t, rfl⟩ := rx; exact SeqAt.EqAt.str_int a t' b t
    | str b => obtain ⟨t, rfl⟩ := rx; exact SeqAt.EqAt.str_str a t' b t
    | _ => exact absurd (show false = true from fx) Bool.false_ne_true
  | _ => exact absurd (show false = true from fy) Bool.false_ne_true
def eqU (x : V) (u : Value) : Bool := match u with
  | .none => eqV .non x
  | .bool b => eqV (.bl b) x
  | .int i _ => eqV (.int i) x
  | .str z _ => eqV (.str z) x
  | _ => false
theorem eqU_of {x y : V} {u : Value} (r : RelV y u) (f : flatV y = true) : eqU x u = eqV y x := by
  cases y with
  | non => cases r; rfl
  | bl b => cases r; rfl
  | int i => obtain ⟨t, rfl⟩ := r; rfl
  | str z => obtain ⟨t, rfl⟩ := r; rfl
  | _ => exact absurd (show false = true from f) Bool.false_ne_true
theorem any_eqU {x : V} : ∀ {xs : List V} {us : List Value}, Vals xs us → xs.all flatV = true → us.any (eqU x) = xs.any fun y => eqV y x
  | _, _, .nil, _ => rfl
  | y :: xs, u :: us, .cons r t, f => by
    rw [List.all_cons, Bool.and_eq_true] at f
    rw [List.any_cons, List.any_cons, eqU_of r f.1, any_eqU t f.2]
theorem mem_eqAt {A : Around} {s : Shared} {x : V} {v : Value} (rx : RelV x v) (fx : flatV x = true) : ∀ {xs : List V} {us : List Value}, Vals xs us → xs.all flatV = true → ∀ u ∈ us, SeqAt.EqAt A s u v (eqU x u)
  | _, _, .nil, _ => fun u hu => by cases hu
  | y :: xs, u :: us, .cons r t, f => fun u' hu => by
    rw [List.all_cons, Bool.and_eq_true] at f
    rcases List.mem_cons.mp hu with rfl | hu
    · rw [eqU_of r f.1]; exact eqAt_V r rx f.1 fx
    · exact mem_eqAt rx fx t f.2 u' hu
def inV (x : V) (xs : List V) : Bool := xs.any fun y => eqV y x
def rIn (K : PySem.W.Frag) (neg : Bool) : R2 := fun x y H Q => ∃ p xs, y = .ref p ∧ (SqL K H p xs ∨ SqT K H p xs) ∧ flatV x = true ∧ xs.all flatV = true ∧ Q (.bl (if neg then !inV x xs else inV x xs)) H
theorem op_in_seq : OpR X (compareOp .In) (rIn X.K false) := by
  intro pins s σ H x y v u Q I rx ry h
  obtain ⟨p, xs, rfl, hq, fx, fs, q⟩ := h
  cases ry
  rcases hq with hq | hq
  · obtain ⟨its, r, pl, hz⟩ := I.list hq
    refine SeqAt.in_listAt (eqU x) pl.isList (fun w hw => mem_eqAt rx fx r fs w (by simpa using hw)) ⟨.bl _, H, I, rfl, ?_⟩
    rw [show its.toArray.any (eqU x) = its.any (eqU x) by simp, any_eqU r fs]
    exact q
  · obtain ⟨its, r, pl, hz⟩ := I.tuple hq
    refine SeqAt.in_tupleAt (eqU x) pl (fun w hw => mem_eqAt rx fx r fs w (by simpa using hw)) ⟨.bl _, H, I, rfl, ?_⟩
    rw [show its.toArray.any (eqU x) = its.any (eqU x) by simp, any_eqU r fs]
    exact q
theorem op_notIn_seq : OpR X (compareOp .NotIn) (rIn X.K true) := by
  intro pins s σ H x y v u Q I rx ry h
  obtain ⟨p, xs, rfl, hq, fx, fs, q⟩ := h
  cases ry
  rcases hq with hq | hq
  · obtain ⟨its, r, pl, hz⟩ := I.list hq
    refine SeqAt.notIn_listAt (eqU x) pl.isList (fun w hw => mem_eqAt rx fx r fs w (by simpa using hw)) ⟨.bl _, H, I, rfl, ?_⟩
    rw [show its.toArray.any (eqU x) = its.any (eqU x) by simp, any_eqU r fs]
    exact q
  · obtain ⟨its, r, pl, hz⟩ := I.tuple hq
    refine SeqAt.notIn_tupleAt (eqU x) pl (fun w hw => mem_eqAt rx fx r fs w (by simpa using hw)) ⟨.bl _, H, I, rfl, ?_⟩
    rw [show its.toArray.any (eqU x) = its.any (eqU x) by simp, any_eqU r fs]
    exact q
theorem call_len_seq : CallR X (.builtin "len") (fun xs H Q => ∃ p ys, xs = [.ref p] ∧ (SqL X.K H p ys ∨ SqT X.K H p ys) ∧ Q (.int ys.length) H) := by
  intro pins s σ H xs us Q I r h
  obtain ⟨p, ys, rfl, hq, q⟩ := h
  obtain ⟨u, rfl, rx⟩ := vals1 r
  cases rx
  have hn := line63
  rcases hq with hq | hq
  · obtain ⟨its, r', pl, hz⟩ := I.list hq
    have hlen := r'.length
    exact Calls.call_len_list pl.isList (by simp only [List.size_toArray] <;> omega) ⟨.int ys.length, H, I.tok _, ⟨s.toks + 1, by rw [List.size_toArray, hlen]⟩, q⟩
  · obtain ⟨its, r', pl, hz⟩ := I.tuple hq
    have hlen := r'.length
    exact len_tuple pl (by simp only [List.size_toArray] <;> omega) ⟨.int ys.length, H, I.tok _, ⟨s.toks + 1, by rw [List.size_toArray, hlen]⟩, q⟩
theorem call_list_of : CallR X (.type "list") (fun xs H Q => ∃ p ys, xs = [.ref p] ∧ (SqL X.K H p ys ∨ SqT X.K H p ys) ∧ ∀ l, H l = none → Q (.ref l) (upd H l (.lst ys))) := by
  intro pins s σ H xs us Q I r h
  obtain ⟨p, ys, rfl, hq, q⟩ := h
  obtain ⟨u, rfl, rx⟩ := vals1 r
  cases rx
  have fin : ∀ (its : List Value), Vals ys its → ys.length ≤ sizeLine → ∀ (h' : Heap) (c' : Nat), (∀ b o', s.heap.get? b = some o' → h'.get? b = some o') →
      h'.get? s.heap.objs.size = some { cls := .type "list", dict := none, data := .seq its.toArray c', slots := #[] } → EP X pins σ Q (.ref s.heap.objs.size) { s with heap := h' } := fun its r' hz h' c' kp e =>
    ⟨.ref s.heap.objs.size, _, I.laid (t' := s.toks) kp (Nat.le_refl _) (show ObjOk X.prog X.w _ h' _ (.lst ys) from ⟨hz, its, c', r', e⟩), rfl, q _ (I.hok.fresh (Nat.le_refl _))⟩
  rcases hq with hq | hq
  · obtain ⟨its, r', pl, hz⟩ := I.list hq
    have hlen := r'.length
    obtain ⟨o, ho, hc, n, hd⟩ := pl.isList
    exact call_list_seq p (.inl rfl) ho hc hd (fun h' c' kp e => fin its r' hz h' c' kp e) (by simp only [List.size_toArray] <;> omega)
  · obtain ⟨its, r', pl, hz⟩ := I.tuple hq
    have hlen := r'.length
    obtain ⟨o, ho, hc, n, hd⟩ := pl
    exact call_list_seq p (.inr rfl) ho hc hd (fun h' c' kp e => fin its r' hz h' c' kp e) (by simp only [List.size_toArray] <;> omega)
theorem call_tuple_of : CallR X (.type "tuple") (fun xs H Q => ∃ p ys, xs = [.ref p] ∧ ((SqL X.K H p ys ∧ ∀ l, H l = none → Q (.ref l) (upd H l (.tup ys))) ∨ (SqT X.K H p ys ∧ Q (.ref p) H))) := by
  intro pins s σ H xs us Q I r h
  obtain ⟨p, ys, rfl, h⟩ := h
  obtain ⟨u, rfl, rx⟩ := vals1 r
  cases rx
  rcases h with ⟨hq, q⟩ | ⟨hq, q⟩
  · obtain ⟨its, r', pl, hz⟩ := I.list hq
    have hlen := r'.length
    refine call_tuple_list pl.isList (fun h' kp => ?_) (by simp only [List.size_toArray] <;> omega)
    have I1 : Inv X pins σ H { s with heap := h' } := I.kept (t' := s.toks) kp
    have I2 : Inv X pins σ (upd H h'.objs.size (.tup ys)) { s with heap := h'.push { cls := .type "tuple", data := .seq its.toArray } } :=
      I1.laid (t' := s.toks) (fun b o e => Heap.get?_push_of_some _ e) (Nat.le_refl _) (show ObjOk X.prog X.w _ _ _ (.tup ys) from ⟨hz, its, r', IsTup.new _ _⟩)
    exact ⟨.ref h'.objs.size, _, I2, rfl, q _ (I1.hok.fresh (Nat.le_refl _))⟩
  · obtain ⟨its, r', pl, hz⟩ := I.tuple hq
    exact call_tuple_same pl ⟨.ref p, H, I, rfl, q⟩
def tyV (K : PySem.W.Frag) (T : String) (x : V) (H : Hp) : Prop := match x with
  | .str _ => T = "str"
  | .int _ => T = "int"
  | .ref p => (T = "list" ∧ ∃ xs, SqL K H p xs) ∨ (T = "tuple" ∧ ∃ o, K.lookup p = some o ∧ o.cls = .type "tuple" ∧ o.dict = none) ∨
      (T = "dict" ∧ ((∃ kvs, H p = some (.dK kvs)) ∨ ∃ kvs, H p = some (.dT kvs))) ∨ (T = "set" ∧ ∃ S n, H p = some (.set S n))
  | _ => False
theorem tyV_is {pins : List (Addr × Obj)} {σ : St} {H : Hp} {s : Shared} {T : String} {x : V} {v : Value} (I : Inv X pins σ H s) (r : RelV x v) (ty : tyV X.K T x H) :
    s.TypeIs v T ∧ ∀ a, v = .ref a → ∃ ob, s.heap.get? a = some ob ∧ ob.dict = none := by
  cases x with
  | str z =>
    obtain ⟨t, rfl⟩ := r
    cases (show T = "str" from ty)
    exact ⟨typeIs_str s z t, fun _ e => nomatch e⟩
  | int i =>
    obtain ⟨t, rfl⟩ := r
    cases (show T = "int" from ty)
    exact ⟨typeIs_int s i t, fun _ e => nomatch e⟩
  | ref p =>
    cases r
    rcases ty with ⟨rfl, xs, hq⟩ | ⟨rfl, o, hk, hc, hd⟩ | ⟨rfl, hk⟩ | ⟨rfl, S, n, hk⟩
    · obtain ⟨its, _, pl, _⟩ := I.list hq
      refine ⟨pl.isList.typeIs, fun a e => ?_⟩
      cases e
      obtain ⟨o, n, e, c, hd, _⟩ := pl
      exact ⟨o, e, hd⟩
    · refine ⟨⟨o, I.kIn p o hk, hc⟩, fun a e => ?_⟩
      cases e
      exact ⟨o, I.kIn _ o hk, hd⟩
    · have z : ∃ o, s.heap.get? p = some o ∧ o.ExactDict := by
        rcases hk with ⟨kvs, hk⟩ | ⟨kvs, hk⟩
        · obtain ⟨_, _, _, _, o, _, _, e, ex, _⟩ := I.hok p _ hk
          exact ⟨o, e, ex⟩
        · obtain ⟨_, _, _, _, o, _, _, e, ex, _⟩ := I.hok p _ hk
          exact ⟨o, e, ex⟩
      obtain ⟨o, e, ex⟩ := z
      refine ⟨⟨o, e, ex.1⟩, fun a e2 => ?_⟩
      cases e2
      exact ⟨o, e, ex.2.1⟩
    · obtain ⟨o, _, _, _, e, ex, _⟩ := I.hok p _ hk
      refine ⟨⟨o, e, ex.1⟩, fun a e2 => ?_⟩
      cases e2
      exact ⟨o, e, ex.2.1⟩
  | _ => exact False.elim ty
def tBM0 (K : PySem.W.Frag) (T : String) (r : V → List V → Hp → VK → Prop) (to : TE) : TE := fun σ H Q => to σ H fun x H1 => tyV K T x H1 ∧ r x [] H1 Q
def tBM (K : PySem.W.Frag) (T : String) (r : V → List V → Hp → VK → Prop) (to : TE) (t : TA) : TE := fun σ H Q => to σ H fun x H1 => tyV K T x H1 ∧ t σ H1 fun xs H2 => r x xs H2 Q
variable {o e : Expr} {es : List Expr} {to : TE} {t : TA} {name : Str} {apos cpos : Pos} {T id : String} {r : V → List V → Hp → VK → Prop}
theorem pe_bm (pa : PlainAttrs T) (slot : Slot T name id) (hty : typeOf (.builtin id) = pure (.type "method_descriptor")) (hm : MtR X id r) (ho : PE X o to) (ha : PA X (e :: es) t)
    (hbase : attributeBase o name X.env (eval o X.env) = eval o X.env := by rfl)
    (hfew : ((backTo cpos (starEach (e :: es) X.env)).all (fun x => !x.1) && (backToKw cpos (keywordEach [] X.env)).all (fun x => x.1.isSome)
      && decide ((e :: es).length + ([] : List Keyword).length + (if ([] : List Keyword).isEmpty then 0 else 1) < 30)) = true := by rfl)
    (hline : (apos.endLine == cpos.line) = true := by rfl) (hs : starEach (e :: es) X.env = (false, eval e X.env) :: starEach es X.env := by rfl) (hplain : (backTo cpos (starEach es X.env)).any (·.1) = false := by rfl) :
    PE X (.Call (.Attribute o name apos) (e :: es) [] cpos) (tBM X.K T r to t) := by
  intro pins s σ H Q I h
  refine wpAny_Call_method_late hbase hfew hline rfl (thn (ho pins s σ H _ I h) fun v s1 ⟨x, H1, I1, r1, ty, q1⟩ => ?_)
  obtain ⟨h1, h2⟩ := tyV_is I1 r1 ty
  refine ⟨T, id, pa, slot, hty, h1, h2, ?_⟩
  have hA := ha cpos pins s1 σ H1 _ I1 q1
  rw [hs] at hA ⊢
  refine Calls.callWith_builtin (by show (false || (backTo cpos (starEach es X.env)).any (·.1)) = false; rw [hplain] <;> rfl) (Calls.evalArgs_plain ?_)
  exact thn hA fun us s2 ⟨vs, H2, I2, r2, q2⟩ => hm pins s2 σ H2 x vs v us Q I2 r1 r2 q2
/- xs.append(e), list.index on a module's tuple .. are MtR facts of 06m -/
end
end L2
namespace L2
open PySem PySem.Spec PyProof.Rows
def MtM (X : Cx) (id : String) (r : V → List V → Hp → VK → Prop) : Prop :=
  ∀ (pins : List (Addr × Obj)) (s : Shared) (σ : St) (H : Hp) (x : V) (xs : List V) (v : Value) (us : List Value) (Q : VK), Inv X pins σ H s → RelV x v → Vals xs us → r x xs H Q →
    wpAny (model X.prog X.w) X.A (call (.builtin id) (v :: us)) (EP X pins σ Q) X.xe s
theorem Vals.one : ∀ {x : V} {us : List Value}, Vals [x] us → ∃ u, us = [u] ∧ RelV x u
  | _, _, .cons r .nil => ⟨_, rfl, r⟩
section
variable {X : Cx} {pins : List (Addr × Obj)} {σ : St} {H : Hp} {s : Shared} {l b : Addr} {xs ys zs : List V}
theorem Inv.lset {its its' : List Value} {n : Nat} {f : Array Value → Array Value} {t' : Nat} (I : Inv X pins σ H s) (hH : H l = some (.lst xs))
    (e : s.heap.get? l = some { cls := .type "list", data := .seq its.toArray n }) (hf : f its.toArray = its'.toArray) (hv : Vals ys its') (hz : ys.length ≤ sizeLine) :
    Inv X pins σ (upd H l (.lst ys)) { s with heap := s.heap.update l (Obj.mapSeq f), toks := t' } := by
  have q := PySem.IsL.update e f
  rw [hf] at q
  refine I.write (x := l) (e := l) (by rw [hH]; exact trivial) (.inl rfl) (fun b' u hb hu => (Heap.get?_update_other s.heap (Obj.mapSeq f) (Ne.symm hb)).trans hu) ⟨_, q⟩ ?_
  exact ⟨hz, its', _, hv, q⟩
theorem Inv.lnew {its : List Value} {t' : Nat} (I : Inv X pins σ H s) (hv : Vals ys its) (hz : ys.length ≤ sizeLine) :
    Inv X pins σ (upd H s.heap.objs.size (.lst ys)) { s with heap := s.heap.push { cls := .type "list", data := .seq its.toArray }, toks := t' } :=
  I.laid (fun _ _ q => Heap.get?_push_of_some _ q) (Nat.le_refl _) ⟨hz, its, 0, hv, Heap.get?_push_size _ rfl⟩
theorem Inv.fresh (I : Inv X pins σ H s) : H s.heap.objs.size = none := I.hok.fresh (Nat.le_refl _)
theorem Inv.lstM (I : Inv X pins σ H s) (hH : H l = some (.lst xs)) : xs.length ≤ sizeLine ∧ ∃ (its : List Value) (n : Nat), Vals xs its ∧ xs.length = its.length ∧ s.heap.get? l = some { cls := .type "list", data := .seq its.toArray n } := by
  obtain ⟨z, its, n, r, e⟩ := I.hok l _ hH
  exact ⟨z, its, n, r, r.length, e⟩
theorem notLongL {n : Nat} (h : n ≤ sizeLine) : Builtin.List.listTooLong n = false := by
  unfold Builtin.List.listTooLong
  exact decide_eq_false (by omega)
end
section
variable {X : Cx}
def rAppend : V → List V → Hp → VK → Prop := fun x vs H Q => ∃ l xs y, x = .ref l ∧ vs = [y] ∧ H l = some (.lst xs) ∧ xs.length < sizeLine ∧ Q .non (upd H l (.lst (xs ++ [y])))
theorem mt_append : MtM X "list.append" rAppend := by
  intro pins s σ H x vs v us Q I rx rv h
  obtain ⟨l, xs, y, rfl, rfl, hH, hz, q⟩ := h
  cases rx
  obtain ⟨u, rfl, ru⟩ := rv.one
  obtain ⟨z, its, n, r, hl, e⟩ := I.lstM hH
  refine call_meets F.slot_list_append ⟨_, e, rfl⟩ F.entry_list_append (F.args_list_append_2 _ _) (PySem.list_append l its.toArray n u (by rw [List.size_toArray]; omega)) ⟨e, ?_⟩
  refine ⟨.non, _, I.lset (its' := its ++ [u]) hH e (by simp) (r.append (.cons ru .nil)) ?_, rfl, q⟩
  rw [List.length_append, List.length_singleton]
  omega
def rExtend : V → List V → Hp → VK → Prop := fun x vs H Q => ∃ l b xs zs, x = .ref l ∧ vs = [.ref b] ∧ H l = some (.lst xs) ∧ H b = some (.lst zs) ∧ xs.length + zs.length ≤ sizeLine ∧ Q .non (upd H l (.lst (xs ++ zs)))
theorem mt_extend : MtM X "list.extend" rExtend := by
  intro pins s σ H x vs v us Q I rx rv h
  obtain ⟨l, b, xs, zs, rfl, rfl, hH, hB, hz, q⟩ := h
  cases rx
  obtain ⟨u, rfl, ru⟩ := rv.one
  cases ru
  obtain ⟨z, its, n, r, hl, e⟩ := I.lstM hH
  obtain ⟨z2, its2, n2, r2, hl2, e2⟩ := I.lstM hB
  have hsz : its.toArray.size + its2.toArray.size ≤ sizeLine := by rw [List.size_toArray, List.size_toArray]; omega
  have hlong : ¬ (!its.toArray.isEmpty && Builtin.List.listTooLong (its.toArray.size + its2.toArray.size)) = true := by
    rw [notLongL hsz, Bool.and_false]
    exact Bool.false_ne_true
  refine call_meets F.slot_list_extend ⟨_, e, rfl⟩ F.entry_list_extend (F.args_list_extend_2 _ _)
    (AutoSeq1.list_extend_list_list_0 l its.toArray n b its2.toArray n2 hlong (by rw [List.size_toArray]; omega) (by omega)) ⟨e, e2, ?_⟩
  refine ⟨.non, _, I.lset (its' := its ++ its2) hH e (by simp) (r.append r2) ?_, rfl, q⟩
  rw [List.length_append]
  omega
def rPop : V → List V → Hp → VK → Prop := fun x vs H Q => ∃ l xs y, x = .ref l ∧ vs = [] ∧ H l = some (.lst xs) ∧ xs[xs.length - 1]? = some y ∧ Q y (upd H l (.lst xs.dropLast))
def rPopAt : V → List V → Hp → VK → Prop := fun x vs H Q => ∃ l xs i k y, x = .ref l ∧ vs = [.int i] ∧ H l = some (.lst xs) ∧ -(2 ^ 63) ≤ i ∧ i < 2 ^ 63 ∧ seqIndex? i xs.length = some k ∧ xs[k]? = some y ∧ Q y (upd H l (.lst (xs.eraseIdx k)))
def rReverse : V → List V → Hp → VK → Prop := fun x vs H Q => ∃ l xs, x = .ref l ∧ vs = [] ∧ H l = some (.lst xs) ∧ Q .non (upd H l (.lst xs.reverse))
def rClear : V → List V → Hp → VK → Prop := fun x vs H Q => ∃ l xs, x = .ref l ∧ vs = [] ∧ H l = some (.lst xs) ∧ Q .non (upd H l (.lst []))
def rCat : R2 := fun x y H Q => ∃ l b xs zs, x = .ref l ∧ y = .ref b ∧ H l = some (.lst xs) ∧ H b = some (.lst zs) ∧ xs.length + zs.length ≤ sizeLine ∧ ∀ p, H p = none → Q (.ref p) (upd H p (.lst (xs ++ zs)))
theorem op_cat : OpR X (binaryOp .Add) rCat := by
  intro pins s σ H x y v u Q I rx ry h
  obtain ⟨l, b, xs, zs, rfl, rfl, hH, hB, hz, q⟩ := h
  cases rx
  cases ry
  obtain ⟨z, its, n, r, hl, e⟩ := I.lstM hH
  obtain ⟨z2, its2, n2, r2, hl2, e2⟩ := I.lstM hB
  refine PySem.P.add_list e e2 ?_ (by rw [List.size_toArray, List.size_toArray]; omega)
  have ea : its.toArray ++ its2.toArray = (its ++ its2).toArray := by simp
  rw [ea]
  exact ⟨.ref _, _, I.lnew (t' := s.toks) (r.append r2) (by rw [List.length_append]; omega), rfl, q _ I.fresh⟩
def rRep : R2 := fun x y H Q => ∃ l k xs, x = .ref l ∧ y = .int k ∧ H l = some (.lst xs) ∧ -(2 ^ 63) ≤ k ∧ k < 2 ^ 63 ∧ xs.length * k.toNat ≤ sizeLine ∧
  ∀ p, H p = none → Q (.ref p) (upd H p (.lst (List.replicate k.toNat xs).flatten))
end
section
variable {prog : Program} {w : World} {A : Around} {E : Value → Shared → Prop} {s : Shared}
set_option maxRecDepth 100000 in
end
section
variable {X : Cx}
end
end L2
namespace Att
open PySem PySem.W PySem.Calls PyProof.Rows
theorem ints_of_wellAll {P : Params} {h : Heap} : ∀ (ns : List Int) (vs : List Value), WellAll P h vs (ns.map WData.int) → IntsAre vs ns := by
  intro ns
  induction ns with
  | nil =>
    intro vs w
    rw [List.map_nil] at w
    cases w
    exact .nil
  | cons n ns ih =>
    intro vs w
    rw [List.map_cons] at w
    cases w with
    | cons a b =>
      cases a
      exact .cons _ _ (ih _ b)
theorem script_of {l : OpenLaw} {n : Nat} (hn : l.most = some n) {P : Params} {h : Heap} {args : List WData} {vals : List Value}
    (hpre : l.row.toRowW.claim.pre args = true) (hwl : WellAll P h vals args) :
    ∃ a vs ns, vals = [Value.ref a] ∧ args = [WData.list (ns.map WData.int)] ∧ h.get? a = some { cls := .type "list", data := .seq vs.toArray } ∧ IntsAre vs ns ∧ ns.length ≤ n := by
  have hsh : WShape.hasAll [] args [.list .int] = true := (pre_splitW hpre).1
  have hc : l.pre.holds [] { args := args } = true := (pre_splitW hpre).2
  obtain ⟨d, r, rfl, h1, h2⟩ := hasAllW_cons hsh
  obtain rfl := hasAllW_nil h2
  obtain ⟨xs, rfl, h3⟩ := hasW_list h1
  obtain ⟨ns, rfl⟩ := items_int h3
  have hlen : ns.length ≤ n := by
    unfold OpenLaw.pre at hc
    have h4 : (WTm.not (.lt (.lit (.int (n : Int))) (.len (.arg 0)))).holds [] { args := [.list (ns.map .int)] } = true := by
      have h4 := (holds_andW hc).1
      rw [hn] at h4
      exact h4
    have h5 := condW_of h4 (w_not (w_lt w_lit (w_len_list (w_arg rfl))))
    rw [List.length_map] at h5
    refine Nat.le_of_not_lt fun q => ?_
    have q' : (n : Int) < ((ns.length : Nat) : Int) := by omega
    first
      | (rw [decide_eq_true q'] at h5; exact absurd h5 (by decide))
      | (simp at h5; omega)
  cases hwl with
  | cons w1 w2 =>
    cases w2
    cases w1 with
    | list ho hall => exact ⟨_, _, ns, rfl, rfl, ho, ints_of_wellAll ns _ hall, hlen⟩
theorem post_true (l : OpenLaw) (args : List WData) : l.row.toRowW.claim.post args (.bool true) args = true :=
  postW_of (r := l.row.toRowW) (X := (true == true))
    (show WShape.has [] (.bool true) .bool = true by first | rfl | decide | simp [WShape.has, WShape.arms, WShape.armsAll])
    (show (WTm.eq .res (.lit (.bool true))).value [] { args := args, res := some (.bool true), after := args } = some (.bool (true == true)) from w_eq_bool (w_res rfl) w_lit) rfl
theorem attach_call {l : OpenLaw} {n : Nat} {q : Program} {loose : List Str} {XP : (Str → Option Value) → Heap → Prop} {YP : World → Heap → Prop} {d : DefRec}
    (hn : l.most = some n) (hdf : d.params.defaults = [])
    (call : ∀ (w : World) (s₀ s₁ : Shared) (mg mb : Str → Option Value) (fa : Addr) (o : Obj) (pm cd doc : Value) (a : Addr) (vs : List Value) (ns : List Int),
      Ground q loose [] XP w s₀ mg mb s₁.heap → YP w s₁.heap →
      s₁.heap.get? fa = some o → o.data = .func (docDef d.name d.params d.body d.scope pm cd doc) → s₁.heap.CodeRec cd d.name → mg d.name = some (.ref fa) →
      s₁.heap.get? a = some { cls := .type "list", data := .seq vs.toArray } → IntsAre vs ns → ns.length ≤ n → s₁.gens = #[] →
      codeAny (model l.prog w) callerA (.call (.ref fa) ⟨[.ref a], []⟩) (fun r s' => r = .ok (.ret (.bool true)) ∧ OldK s₁.heap s'.heap ∧ s'.os = s₁.os ∧ AllBare s'.gens) s₁) :
    WalkO q loose XP YP l.row.toRowW d [] (fun f vs => PySem.call f vs) := by
  intro w s₀ s₁ mg mb G Y fa o pm cd doc dV kV ho hd hcd hD hmg hg args vals as hpre hlay hrd hwl hlo
  obtain rfl : dV = .none := Dflts.none hD hdf
  obtain rfl : kV = .none := Dflts.noKw hD
  obtain ⟨a, vs, ns, rfl, rfl, hobj, hints, hlen⟩ := script_of hn hpre hwl
  refine enter_call (codeAny_mono (call w s₀ s₁ mg mb fa o pm cd doc a vs ns G Y ho (fd_plain hd) hcd hmg hobj hints hlen hg) fun r s' hq => ?_)
  obtain ⟨rfl, h2, h3, h4⟩ := hq
  exact ⟨.inl ⟨.bool true, .bool true, [], rfl, fun _ => rfl, .bool true, post_true l _, fun _ => ⟨List.Pairwise.nil, fun _ hm => (nomatch hm)⟩⟩, h2, h3, h4⟩
section
variable {prog : Program} {w : World} {A : Around} {E : Value → Shared → Prop} {s : Shared} {K : Frag}
def noObjs (h : Heap) : Heap := { h with objs := #[] }
def ledger (h : Heap) (L d : Addr) : List (Addr × Obj) := (List.range h.objs.size).filterMap fun a => if a = L ∨ a = d then none else (h.get? a).map fun o => (a, o)
end
end Att
namespace L2
open PySem PySem.Spec PyProof.Rows
theorem vals_ints : ∀ {vs : List Value} {ns : List Int}, IntsAre vs ns → Vals (ns.map V.int) vs
  | _, _, .nil => .nil
  | _, _, .cons n t h => .cons ⟨t, rfl⟩ (vals_ints h)
def Only (H : Hp) : Prop := ∀ b, H b = none ∨ ∃ o xs, H b = some (.frz o (.lst xs))
theorem law_call {P : Program} {w : World} {K : PySem.W.Frag} {mg mb : Str → Option Value} {CX : CXT} {k : Nat} {fa a : Addr} {fd : FuncData} {x : Str} {sp : Sp} {s₁ : Shared} {vs : List Value} {ns : List Int}
    (KX : K.In s₁.heap) (hns : s₁.heap.Ns mainGlobals mg) (hb : s₁.heap.Ns builtinsNs mb) (hbb : ∀ x : Str, x ≠ "__name__" → mb x = bootBuiltins x) (hlim : s₁.heap.NoLimit) (hg : s₁.gens = #[])
    (ha : s₁.heap.get? a = some { cls := .type "list", data := .seq vs.toArray }) (hi : IntsAre vs ns) (hl : ns.length ≤ sizeLine) (hr : Room k callerA)
    (F : ∀ base : Heap, K.In base → base.Ns mainGlobals mg → FnOk P w K mg base CX k fa fd [x] sp) (hbind : ∀ (s : Shared) (u : Value), BindsTo s fd ⟨[u], []⟩ [(x, u)])
    (hsp : ∀ H : Hp, Only H → SqL K H a (ns.map V.int) → sp [.ref a] H (fun v _ => v = .bl true) fun _ _ _ => False)
    (hCX : ∀ H e s', CX [] H s₁ (fun _ _ _ => False) e s' → False) :
    codeAny (model P w) callerA (.call (.ref fa) ⟨[.ref a], []⟩) (fun r s' => r = .ok (.ret (.bool true)) ∧ OldK s₁.heap s'.heap ∧ s'.os = s₁.os ∧ AllBare s'.gens) s₁ := by
  have rv := vals_ints hi
  have lenV := hi.length
  have core : ∀ H : Hp, Only H → SqL K H a (ns.map V.int) → HOk P w H s₁.heap → (∀ b, H b ≠ none → b = a) → (H a ≠ none → K.lookup a = none) →
      codeAny (model P w) callerA (.call (.ref fa) ⟨[.ref a], []⟩) (fun r s' => r = .ok (.ret (.bool true)) ∧ OldK s₁.heap s'.heap ∧ s'.os = s₁.os ∧ AllBare s'.gens) s₁ := by
    intro H hO hS hok hA hK
    have base_of : ∀ {b : Addr} {o : Obj}, s₁.heap.get? b = some o → H b = none → (hidT s₁.heap H).get? b = some o := fun e n => hidT_get e n
    have noA : ∀ {b : Addr} {o : Obj} {es : Array DictEntry} {ep : Nat}, s₁.heap.get? b = some o → o.data = .dict es ep → H b = none := fun {b o es ep} e d => by
      cases q : H b with
      | none => rfl
      | some u =>
        have e' : b = a := hA b (by rw [q]; simp)
        subst e'
        rw [ha] at e; cases e
        have d' : Data.seq vs.toArray _ = Data.dict es ep := d
        cases d'
    have nsK : ∀ {b : Addr} {m : Str → Option Value}, s₁.heap.Ns b m → (hidT s₁.heap H).Ns b m := fun {b m} ⟨o, es, ep, e, d, r⟩ => ⟨o, es, ep, base_of e (noA e d), d, r⟩
    have hKb : K.In (hidT s₁.heap H) := fun b o e => base_of (KX b o e) (by
      cases q : H b with
      | none => rfl
      | some u =>
        have e' : b = a := hA b (by rw [q]; simp)
        subst e'
        rw [hK (by rw [q]; simp)] at e; cases e)
    have hM : Mod K mg (hidT s₁.heap H) := ⟨hKb, nsK hns, ⟨mb, nsK hb, hbb⟩, let ⟨mc, h1, h2⟩ := hlim; ⟨mc, nsK h1, h2⟩⟩
    have e0 : Env0 P w K mg (hidT s₁.heap H) callerA [] s₁ H := ⟨rfl, hM, fun b o e => of_hidT e, Nat.le_of_eq (hidT_size _ _), trivial, fun b hb => absurd (show b ∈ ([] : List Addr) from hb) (by simp), hok, .of_eq hg⟩
    refine codeAny_mono ((F _ hKb (nsK hns)).run callerA [] s₁ H ⟨[.ref a], []⟩ [.ref a] [.ref a] _ _ hr e0 (hbind s₁ (.ref a)) (.cons rfl .nil) (hsp H hO hS)) fun r s' h => ?_
    cases r with
    | error e => exact (hCX H e s' h).elim
    | ok fl =>
      cases fl with
      | next => exact False.elim h
      | brk => exact False.elim h
      | cont => exact False.elim h
      | ret u =>
        obtain ⟨v, H', os, bare, un, hok', r', q⟩ := h
        have q' : v = .bl true := q
        subst q'
        obtain rfl : u = Value.bool true := r'
        refine ⟨rfl, OldK.of_keep fun b o e => ?_, os, bare⟩
        cases q : H b with
        | none => exact un.keep b o e q (by intro z; exact absurd (show b ∈ ([] : List Addr) from z) (by simp)) (by simp)
        | some u =>
          rcases hO b with z | ⟨ob, xs, z⟩
          · rw [q] at z; cases z
          · have z2 := un.frzs b ob _ z
            obtain ⟨e1, _⟩ := hok b _ z
            obtain ⟨e2, _⟩ := hok' b _ z2
            rw [e] at e1; cases e1
            exact e2
  cases hk : K.lookup a with
  | some o =>
    have e := KX a o hk
    rw [ha] at e
    cases e
    refine core (fun _ => none) (fun _ => .inl rfl) (.inr ⟨_, vs.toArray, _, hk, rfl, rfl, rfl, by rw [List.size_toArray, lenV]; exact hl, by simpa using rv⟩) (fun b u z => by have z' : (none : Option HO) = some u := z; cases z') (fun b z => absurd rfl z) fun z => absurd rfl z
  | none =>
    refine core (fun b => if b = a then some (.frz { cls := .type "list", data := .seq vs.toArray } (.lst (ns.map V.int))) else none) (fun b => ?_) (.inl (.inr ⟨{ cls := .type "list", data := .seq vs.toArray }, if_pos rfl⟩)) (fun b u z => ?_) (fun b z => ?_) fun _ => hk
    · by_cases hb : b = a
      · exact .inr ⟨_, _, if_pos hb⟩
      · exact .inl (if_neg hb)
    · by_cases hb : b = a
      · have z' := (if_pos hb).symm.trans z
        cases z'
        subst hb
        exact ⟨ha, by rw [List.length_map]; exact hl, vs, _, rv, ha⟩
      · have z' := (if_neg hb).symm.trans z
        cases z'
    · by_cases hb : b = a
      · exact hb
      · exact absurd (if_neg hb) z
end L2
namespace L2
open PySem PySem.Spec PyProof.Rows
abbrev KOf {K : PySem.W.Frag} {h : Heap} (_ : K.In h) : PySem.W.Frag := K
end L2
/- THE LAST THEOREM (shape; LID, My.* are yours):
   My.Adr: a structure of the addresses that your layer names (classes, functions); My.Txt K t: a structure (Prop) of the equations over K;
   My.txt_mk : {K} {implicit addresses ..} (e1 : nsIn K mainGlobals "law" = some (some (.ref f))) (e2 : K.lookup f = some ⟨oc, od, .func (fnOf "law" "law" params body scope dV kV doc pm an cdv ct), sl⟩) (e3 : codeIn K cdv "law" = true) .. : ∃ t, My.Txt K t
set_option maxRecDepth 100000 in
set_option maxHeartbeats 0 in
theorem PySem.Challenge.cw_LID_holds : PySem.Challenge.rw_LID.Holds := by
  w_on; o_law; k_head; (case hw => w_witness2)
  k_fill
  refine L2.walk_of (l := PySem.Challenge.rw_LID) (n := 63) (k := 40) (x := "script") (CX := fun w => ..) (sp := fun _ => My.sp_law) rfl (by decide) rfl ⟨rfl, by decide, by decide⟩ (fun w h Y => PySem.W.kIn_of Y) ?F ?S ?C
  case F =>
    intro w mg fa h KX G hmg
    have T : ∃ t, My.Txt (L2.KOf KX) t := by
      dsimp only [L2.KOf]                          -- K must stand as «<heap const> w.params» for k_is
      refine' My.txt_mk ?e1 ?e2 ?e3 ..
      (case e1 => PySem.W.k_is)                    -- in the order: a name -> its address -> its object -> its parts
      (case e2 => PySem.W.k_is)
      ..
    obtain ⟨t, T⟩ := T
    have e0 := hmg.symm.trans (PySem.W.mg_of KX G T.law)
    cases e0                                       -- fa is the law's own address
    exact ⟨_, fun s u => .of_eq rfl, fun base kb nb => My.law_fn T kb nb⟩     -- if «.of_eq rfl» comes too early: refine' ⟨_, ?b, fun base kb nb => My.law_fn T kb nb⟩; exact fun s u => .of_eq rfl
  case S => exact fun w H a ns hl hO hS => ..
  case C => exact ..
(the tactic k_is has no namespace: write k_is) -/
namespace L2
open PySem PySem.Spec PyProof.Rows
def inClass (s : Stmt) (j : Nat) : Stmt := match s with
  | .ClassDef _ _ _ body _ _ _ _ _ _ _ => body.getD j (.Pass ⟨0, 0, 0, 0⟩)
  | _ => .Pass ⟨0, 0, 0, 0⟩
def defArgs (s : Stmt) : Arguments := match s with
  | .FunctionDef _ a _ _ _ _ _ _ _ _ => a
  | _ => { posonlyargs := [], args := [], vararg := none, kwonlyargs := [], kw_defaults := [], kwarg := none, defaults := [] }
def defBody (s : Stmt) : List Stmt := match s with
  | .FunctionDef _ _ b _ _ _ _ _ _ _ => b
  | _ => []
def defScope (s : Stmt) : Scope := match s with
  | .FunctionDef _ _ _ _ _ _ sc _ _ _ => sc
  | _ => { kind := .function, names := [], isGenerator := false, isCoroutine := false }
abbrev CX0 : CXT := fun _ _ _ _ _ _ => False
abbrev E0 : XK := fun _ _ _ => False
theorem pass0 {X : Cx} : Passes CX0 X E0 := fun _ _ _ _ _ _ _ h => h.elim
structure Fun (K : PySem.W.Frag) (x qual : Str) (st : Stmt) (f : Addr) (fd : FuncData) : Prop where
  ex : ∃ (oc : Value) (od : Option Addr) (kV doc pm : Value) (an : Option Addr) (cdv ct : Value) (osl : Array (Option Value)),
    fd = PySem.W.fnOf x qual (defArgs st) (defBody st) (defScope st) .none kV doc pm an cdv ct ∧ K.lookup f = some ⟨oc, od, .func fd, osl⟩ ∧ PySem.W.codeIn K cdv qual = true
  kp : PySem.W.keepIn K (.ref f) = true
section
variable {P : Program} {w : World} {K : PySem.W.Frag} {mg : Str → Option Value} {base : Heap}
theorem Fun.ok {x qual : Str} {st : Stmt} {f : Addr} {fd : FuncData} {N ps : List Str} {k : Nat} {sp : Sp} (F : Fun K x qual st f fd) (S : FnScope N ps (defScope st)) (len : ∀ vs H Q E, sp vs H Q E → vs.length = ps.length)
    (hbody : ∀ (cdv : Value) (A : Around) (outer : List Env) (s : Shared) (H : Hp) (vs : List V) (Q : VK) (E : XK), Room k (A.deeper (envOfC qual (defScope st) s.heap.objs.size f cdv)) → sp vs H Q E →
      ∃ t, PSs (cxOf CX0 P w K mg base N qual (defScope st) f cdv A outer s H E).nox (defBody st) t ∧ t { nx := fun _ H' => Q .non H', rt := Q } (start N vs) H) : FnOk P w K mg base CX0 (k + 1) f fd ps sp := by
  obtain ⟨oc, od, kV, doc, pm, an, cdv, ct, osl, rfl, lk, hcd⟩ := F.ex
  refine fn_of lk hcd S len fun A outer s H vs Q E hr hsp => ?_
  obtain ⟨t, h, q⟩ := hbody cdv A outer s H vs Q E hr hsp
  exact ⟨t, h.nox, q⟩
theorem Fun.binds {x qual : Str} {st : Stmt} {f : Addr} {fd : FuncData} {ps : List Str} (F : Fun K x qual st f fd)
    (h : ∀ (kV doc pm : Value) (an : Option Addr) (cdv ct : Value) (us : List Value), us.length = ps.length → bindArgs (PySem.W.fnOf x qual (defArgs st) (defBody st) (defScope st) .none kV doc pm an cdv ct) ⟨us, []⟩ = pure (ps.zip us)) : Binds K fd ps [] := by
  obtain ⟨oc, od, kV, doc, pm, an, cdv, ct, osl, rfl, lk, hcd⟩ := F.ex
  exact .all (h kV doc pm an cdv ct)
theorem fun_mk {x qual : Str} {st : Stmt} {f : Addr} {oc : Value} {od an : Option Addr} {osl : Array (Option Value)} {kV doc pm cdv ct : Value} (l : K.lookup f = some ⟨oc, od, .func (PySem.W.fnOf x qual (defArgs st) (defBody st) (defScope st) .none kV doc pm an cdv ct), osl⟩)
    (c : PySem.W.codeIn K cdv qual = true) (k : PySem.W.keepIn K (.ref f) = true) : Fun K x qual st f (PySem.W.fnOf x qual (defArgs st) (defBody st) (defScope st) .none kV doc pm an cdv ct) := ⟨⟨oc, od, kV, doc, pm, an, cdv, ct, osl, rfl, l, c⟩, k⟩
end
section
variable {X : Cx}
theorem pv (i : Nat) {x : Str} {pos : Pos} (hN : X.N[i]? = some x := by rfl) (hv : Vis X.env.scope x := by first | exact Or.inl rfl | exact Or.inr (Or.inl rfl) | exact Or.inr (Or.inr rfl)) (hd : (x == ("__debug__" : Str)) = false := by decide)
    (hcd : (x == ("__classdict__" : Str)) = false := by decide) : PE X (.Name x pos) (tVar i) := pe_var hN hv hd hcd
end
theorem iteF {A B : Prop} (h : B) : if false = true then A else B := by
  rw [if_neg Bool.false_ne_true]
  exact h
theorem iteT {A B : Prop} (h : A) : if true = true then A else B := by
  rw [if_pos rfl]
  exact h
theorem ite2 {c A B : Prop} [Decidable c] (h1 : c → A) (h2 : ¬ c → B) : if c then A else B := by
  by_cases h : c
  · rw [if_pos h]
    exact h1 h
  · rw [if_neg h]
    exact h2 h
def Same (H H' : Hp) : Prop := ∀ b o, H b = some o → H' b = some o
theorem Same.trans {H H1 H2 : Hp} (a : Same H H1) (b : Same H1 H2) : Same H H2 := fun c o h => b c o (a c o h)
theorem Same.free {H H' : Hp} (e : Same H H') {l : Addr} (h : H' l = Option.none) : H l = Option.none := by
  cases q : H l with
  | none => rfl
  | some o =>
    rw [e l o q] at h
    cases h
theorem Same.seq {K : PySem.W.Frag} {H H' : Hp} {a : Addr} {xs : List V} (e : Same H H') (h : SqL K H a xs) : SqL K H' a xs := by
  rcases h with (h | ⟨o, h⟩) | h
  · exact .inl (.inl (e _ _ h))
  · exact .inl (.inr ⟨o, e _ _ h⟩)
  · exact .inr h
end L2
end
section
set_option Elab.async false
set_option linter.all false
set_option maxRecDepth 100000
namespace L2
open PySem PySem.Spec PyProof.Rows
theorem forIn_all {α β : Type} (Iv : List α → β → Prop) {f : α → β → Sem (ForInStep β)} (h : ∀ x r c, Iv (x :: r) c → ∃ c', f x c = pure (.yield c') ∧ Iv r c') :
    ∀ (l : List α) (c : β), Iv l c → ∃ c', forIn l c f = pure c' ∧ Iv [] c'
  | [], c, i => ⟨c, rfl, i⟩
  | x :: l, c, i => by
    obtain ⟨c1, e, i1⟩ := h x l c i
    obtain ⟨c2, e2, i2⟩ := forIn_all Iv h l c1 i1
    exact ⟨c2, by rw [List.forIn_cons, e, pure_bind]; exact e2, i2⟩
theorem closureFor_of {scope : Scope} {env : Env} (h : ∀ y ∈ scope.names, y.2 = .free → ∃ c, env.cells.lookup y.1 = some c) :
    ∃ cl, closureFor scope env = pure cl ∧ (∀ y c, cl.lookup y = some c → env.cells.lookup y = some c) ∧ ∀ y, (y, NameKind.free) ∈ scope.names → ∃ c, cl.lookup y = some c := by
  have key := forIn_all (f := fun (x : Str × NameKind) (cs : List (Str × Addr)) => (match x with
      | (name, kind) => if kind == .free then (do let a ← cellOf env name; pure (ForInStep.yield ((name, a) :: cs))) else pure (ForInStep.yield cs) : Sem (ForInStep (List (Str × Addr)))))
    (fun rest cs => ∃ done, scope.names = done ++ rest ∧ (∀ y c, cs.lookup y = some c → env.cells.lookup y = some c) ∧ ∀ y, (y, NameKind.free) ∈ done → ∃ c, cs.lookup y = some c)
    (fun x r cs ⟨done, e, h1, h2⟩ => ?_) scope.names [] ⟨[], rfl, fun y c z => by simp at z, fun y z => by simp at z⟩
  · obtain ⟨cl, e, done, ed, h1, h2⟩ := key
    refine ⟨cl, ?_, h1, fun y hy => h2 y (by rw [ed, List.append_nil] at hy; exact hy)⟩
    unfold closureFor
    have : ∀ m : Sem (List (Str × Addr)), m = pure cl → (m >>= fun cs => pure cs) = (pure cl : Sem (List (Str × Addr))) := fun m q => by rw [q]; rfl
    exact this _ e
  · obtain ⟨name, kind⟩ := x
    by_cases hk : kind = .free
    · subst hk
      obtain ⟨c, hc⟩ := h (name, .free) (by rw [e]; simp) rfl
      refine ⟨(name, c) :: cs, ?_, done ++ [(name, .free)], by rw [e]; simp, fun y c' z => ?_, fun y hy => ?_⟩
      · show (if (NameKind.free == NameKind.free) = true then _ else _) = _
        rw [if_pos (show (NameKind.free == NameKind.free) = true from rfl)]
        unfold cellOf
        rw [show env.cells.lookup name = some c from hc]
        rfl
      · by_cases q : y = name
        · subst q
          rw [List.lookup_cons, show (y == y) = true from beq_self_eq_true y] at z
          cases z
          exact hc
        · rw [List.lookup_cons, show (y == name) = false from beq_eq_false_iff_ne.mpr q] at z
          exact h1 y c' z
      · by_cases q : y = name
        · subst q
          exact ⟨c, by rw [List.lookup_cons, show (y == y) = true from beq_self_eq_true y]⟩
        · rcases List.mem_append.mp hy with m | m
          · obtain ⟨c', e'⟩ := h2 y m
            exact ⟨c', by rw [List.lookup_cons, show (y == name) = false from beq_eq_false_iff_ne.mpr q]; exact e'⟩
          · have : (y, NameKind.free) = (name, NameKind.free) := by simpa using m
            exact absurd (congrArg Prod.fst this) q
    · refine ⟨cs, ?_, done ++ [(name, kind)], by rw [e]; simp, h1, fun y hy => ?_⟩
      · show (if (kind == NameKind.free) = true then _ else _) = _
        rw [if_neg (by simpa using hk)]
      · rcases List.mem_append.mp hy with m | m
        · exact h2 y m
        · have : (y, NameKind.free) = (name, kind) := by simpa using m
          exact absurd (congrArg Prod.snd this).symm hk
def cxComp (X : Cx) (scope : Scope) (cl : List (Str × Addr)) (C : Addr) (N : List Str) (s : Shared) (H : Hp) (fp : List Addr) : Cx :=
  { X with N := N, s₀ := s, H₀ := H, env := compEnvC scope cl C X.env, outer := X.stack, stack := X.stack, ex := fp, fn := fun _ => false, pn := [], xe := fun _ _ => False }
def capOk (NX : List Str) (sn names : List (Str × NameKind)) (fr : List Str) (js : List Nat) : Bool :=
  (fr.length == js.length) && (fr.zip js).all fun p => decide (NX[p.2]? = some p.1) && decide (names.lookup p.1 = some .free) && decide (sn.lookup p.1 = some .cell)
def scOk (sn names : List (Str × NameKind)) : Bool :=
  names.all fun y => (decide (y.2 = .local) && decide (names.lookup y.1 = some .local)) || (decide (y.2 = .free) && decide (sn.lookup y.1 = some .cell)) || decide (y.2 = .globalImplicit)
def cap (js : List Nat) (σ : St) : St := js.map fun j => (σ[j]?).join
def tComp (wi : TI) (g : TG) (tc : TT) (te : TE) (k : Nat) (js : List Nat) : TE := fun σ H Q => wi σ H fun J H1 => ∀ D, H1 D = none →
  ∃ W : Nat → Nat → List V → Hp → Prop, (∃ m, W 0 m [] (upd H1 D (.lst []))) ∧ ∀ i m ys H, W i m ys H → H D = some (.lst ys) →
    (J.stop i H ∧ Q (.ref D) H) ∨ (J.go i H ∧ ∀ x H', J.yld i H x H' → g x (List.replicate k none ++ cap js σ) H' fun σ2 H2 => σ2.drop k = cap js σ ∧ tc σ2 H2 fun b H3 =>
      if b = true then te σ2 H3 fun y H4 => H4 D = some (.lst ys) ∧ ys.length < sizeLine ∧ ∃ m', m' < m ∧ W (i + 1) m' (ys ++ [y]) (upd H4 D (.lst (ys ++ [y])))
      else H3 D = some (.lst ys) ∧ ∃ m', m' < m ∧ W (i + 1) m' ys H3)
section
variable {prog : Program} {w : World} {A : Around} {R : Result → Shared → Prop} {s : Shared}
theorem compLoop_any {elt target iter : Expr} {ifs : List Expr} {scope : Scope} {pos : Pos} {it acc : Value} {env : Env} (I : Nat → Shared → Prop)
    (turn : ∀ n s, I n s → wpAny (model prog w) A (pyNext it) (fun r s₁ => match r with
      | none => R (.ok .next) s₁
      | some v => wpAny (model prog w) A (letOwnedTupleGo target it v) (fun _ s₁' => wpAny (model prog w) A (assign target env v) (fun _ s₂ =>
          wpAny (model prog w) A (forIn ifs true fun c r => if r = true then do let ok ← isTrue c env (eval c env); pure (ForInStep.yield ok) else pure (ForInStep.yield r)) (fun ok s₃ =>
            if ok = true then wpAny (model prog w) A (eval elt env) (fun x s₄ =>
              wpAny (model prog w) A (call (.builtin "list.append") [acc, x]) (fun _ s₅ => ∃ m, m < n ∧ I m s₅) (fun _ _ => False) s₄) (fun _ _ => False) s₃
            else ∃ m, m < n ∧ I m s₃) (fun _ _ => False) s₂) (fun _ _ => False) s₁') (fun _ _ => False) s₁) (fun _ _ => False) s)
    (n : Nat) (h : I n s) :
    codeAny (model prog w) A (.compLoop (.ListComp elt [⟨target, iter, ifs, 0⟩] scope pos) 0 it acc env) R s := by
  refine codeAny_loop rfl I (fun n s hI => ?_) n h
  show wpAny _ A ((compTurn (.ListComp elt [⟨target, iter, ifs, 0⟩] scope pos) 0 it acc env).onRaise (fun x => do noteFrame x env; theTreesLotGoes x)) _ _ s
  refine wpAny_noted ?_
  rw [compTurn_list]
  refine wpAny_bind (wpAny_standAt (wpAny_bind (wpAny_mono (turn n s hI) (fun r s₁ h₁ => ?_) fun _ _ h' => h'.elim)))
  cases r with
  | none => exact wpAny_pure h₁
  | some v =>
    refine wpAny_bind (wpAny_mono h₁ (fun _ s₁' h₁' => ?_) fun _ _ h' => h'.elim)
    refine wpAny_bind (wpAny_mono h₁' (fun _ s₂ h₂ => wpAny_bind (wpAny_mono h₂ (fun ok s₃ h₃ => ?_) fun _ _ h' => h'.elim)) fun _ _ h' => h'.elim)
    cases ok with
    | false => exact wpAny_pure ⟨rfl, h₃⟩
    | true =>
      exact wpAny_bind (wpAny_bind (wpAny_mono h₃ (fun x s₄ h₄ => wpAny_bind (wpAny_mono h₄ (fun _ s₅ h₅ => wpAny_pure (wpAny_pure ⟨rfl, h₅⟩)) fun _ _ h' => h'.elim)) fun _ _ h' => h'.elim))
end
def PTs (X : Cx) (ifs : List Expr) (t : TT) : Prop :=
  ∀ (pins : List (Addr × Obj)) (s : Shared) (σ : St) (H : Hp) (Q : Bool → Hp → Prop), Inv X pins σ H s → t σ H Q →
    wpAny (model X.prog X.w) X.A (forIn ifs true fun c r => if r = true then do let ok ← isTrue c X.env (eval c X.env); pure (ForInStep.yield ok) else pure (ForInStep.yield r)) (TP X pins σ Q) X.xe s
def tAlways : TT := fun _ H Q => Q true H
theorem pts_nil {X : Cx} : PTs X [] tAlways := fun _ _ _ H _ I h => wpAny_tests_nil ⟨H, I, h⟩
theorem pts_one {X : Cx} {c : Expr} {t : TT} (h : PT X c t) : PTs X [c] t := fun pins s σ H Q I hw => wpAny_tests_one (h pins s σ H Q I hw)
theorem relabel_mem {scope : Scope} {env : Env} {y : Str} {k : NameKind} (h : (relabel scope env).names.lookup y = some k) : ∃ k0, (y, k0) ∈ scope.names ∧ (k = k0 ∨ (k0 = .free ∧ k = .cell)) := by
  have m := PySem.mem_of_lookup h
  obtain ⟨⟨n, k0⟩, hm, e⟩ := List.mem_map.mp (show (y, k) ∈ scope.names.map _ from m)
  by_cases c : (k0 == NameKind.free && env.scope.kind == .function && env.kindOf n == some .cell) = true
  · have e : (if (k0 == NameKind.free && env.scope.kind == .function && env.kindOf n == some .cell) = true then (n, NameKind.cell) else (n, k0)) = (y, k) := e
    rw [if_pos c] at e
    have e1 := congrArg Prod.fst e
    have e2 := congrArg Prod.snd e
    subst e1 e2
    refine ⟨k0, hm, .inr ⟨?_, rfl⟩⟩
    rw [Bool.and_eq_true, Bool.and_eq_true] at c
    simpa using c.1.1
  · have e : (if (k0 == NameKind.free && env.scope.kind == .function && env.kindOf n == some .cell) = true then (n, NameKind.cell) else (n, k0)) = (y, k) := e
    rw [if_neg c] at e
    have e1 := congrArg Prod.fst e
    have e2 := congrArg Prod.snd e
    subst e1 e2
    exact ⟨_, hm, .inl rfl⟩
section
variable {X : Cx}
structure CFree (X : Cx) (pins : List (Addr × Obj)) (H : Hp) (C : Addr) : Prop where
  fr : H C = none
  ne : C ≠ X.env.locals
  ab : X.s₀.heap.objs.size ≤ C
  ce : ∀ x c, X.env.cells.lookup x = some c → c ≠ C
  pn : ∀ p ∈ X.pn ++ pins, p.1 ≠ C
theorem CFree.turn {pins : List (Addr × Obj)} {σ : St} {H : Hp} {C : Addr} {s : Shared} {h' : Heap} (F : CFree X pins H C) (I : Inv X pins σ H s) (hs : Heap.SameBut C s.heap h') : Inv X pins σ H { s with heap := h' } :=
  I.turned (t' := s.toks) (it := C) (fun b o nb e => hs.extBut b o nb e) F.fr F.ne (.inr F.ab) F.ce F.pn
theorem comp_core {elt tg iter : Expr} {ifs : List Expr} {scope : Scope} {pos pos' : Pos} {wi : TI} {g : TG} {tc : TT} {te : TE} (own fr : List Str) (js : List Nat) (NX : List Str) (sn : List (Str × NameKind)) (hcalm : X.calm = true)
    (hi : PI X tg iter wi)
    (hg : ∀ cl C s H fp, PG (cxComp X scope cl C (own ++ fr) s H fp) tg g) (ht : ∀ cl C s H fp, PTs (cxComp X scope cl C (own ++ fr) s H fp) ifs tc) (he : ∀ cl C s H fp, PE (cxComp X scope cl C (own ++ fr) s H fp) elt te)
    (hN : X.N = NX) (hsn : X.env.scope.names = sn) (hkind : scope.kind = .function)
    (hcap : capOk NX sn scope.names fr js = true) (hsc : scOk sn scope.names = true)
    (hs : ∀ x, foldedSetIterable iter X.env x = pure x) {use : Option (Value → Sem Unit)} {QQ : Value → Shared → Prop}
    {pins : List (Addr × Obj)} {s : Shared} {σ : St} {H : Hp} {Q : VK} (I : Inv X pins σ H s) (h : tComp wi g tc te own.length js σ H Q)
    (fin : ∀ (D C : Addr) (H' : Hp) (s' : Shared) (m : Str → Option Value), Inv X pins σ H' s' → s'.heap.Ns C m → CFree X pins H' C → Q (.ref D) H' → compPost (model X.prog X.w) X.A X.xe use QQ (.ref D) C (.ok .next) s') :
    wpAny (model X.prog X.w) X.A (comprehension (.ListComp elt [⟨tg, iter, ifs, 0⟩] scope pos) scope X.env pos' (newList []) false (eval iter X.env) use) QQ X.xe s := by
  subst hN hsn
  unfold capOk at hcap
  rw [Bool.and_eq_true, List.all_eq_true] at hcap
  obtain ⟨hlen, hcap⟩ := hcap
  have hlen : fr.length = js.length := by simpa using hlen
  unfold scOk at hsc
  rw [List.all_eq_true] at hsc
  have names : ∀ y ∈ scope.names, (y.2 = .local ∧ scope.names.lookup y.1 = some .local) ∨ (y.2 = .free ∧ X.env.scope.names.lookup y.1 = some .cell) ∨ y.2 = .globalImplicit := fun y hy => by
    have := hsc y hy
    simpa [or_assoc] using this
  have hcell : ∀ y ∈ scope.names, y.2 ≠ .cell := fun y hy z => by
    rcases names y hy with ⟨q, _⟩ | ⟨q, _⟩ | q <;> rw [z] at q <;> cases q
  have hnames : ∀ y ∈ scope.names, y.2 = .local → scope.names.lookup y.1 = some .local := fun y hy z => by
    rcases names y hy with ⟨_, q⟩ | ⟨q, _⟩ | q
    · exact q
    · rw [z] at q; cases q
    · rw [z] at q; cases q
  have hfree : ∀ y ∈ scope.names, y.2 = .free → X.env.scope.names.lookup y.1 = some .cell := fun y hy z => by
    rcases names y hy with ⟨q, _⟩ | ⟨_, q⟩ | q
    · rw [z] at q; cases q
    · exact q
    · rw [z] at q; cases q
  obtain ⟨cl, hclos, hcl, hclh⟩ := closureFor_of (scope := scope) (env := X.env) fun y hy z => I.ok.has y.1 (.inl (hfree y hy z))
  refine wpAny_comprehension_free (use := use) rfl hs hclos hkind hnames (thn (hi pins s σ H _ I h) fun v s1 h1 => thn h1 fun itv s2 h2 => ?_)
  obtain ⟨it, fp, tn, J, H2, e, I2, T, st2, f2, h2⟩ := h2
  subst e
  have hD : H2 s2.heap.objs.size = none := I2.fresh
  obtain ⟨W, ⟨m0, w0⟩, turn⟩ := h2 s2.heap.objs.size hD
  refine wpAny_newObj_type (wpAny_newFunctionEnv hcell (by intro y hy; simp at hy) (fun h₁ hns₁ hsb₁ => ?_) hkind)
  dsimp only at hns₁ hsb₁ ⊢
  generalize hH2 : s2.heap.push { cls := .type "list", dict := none, data := .seq ([] : List Value).toArray } = G2 at hns₁ hsb₁ ⊢
  have hC : G2.objs.size = s2.heap.objs.size + 1 := by rw [← hH2, Heap.size_push]
  have hDC : s2.heap.objs.size ≠ G2.objs.size := by rw [hC]; exact Nat.ne_of_lt (Nat.lt_succ_self _)
  have ltC : ∀ b o, s2.heap.get? b = some o → b ≠ G2.objs.size := fun b o q => by
    have := Heap.lt_size q
    rw [hC]
    exact Nat.ne_of_lt (Nat.lt_succ_of_lt this)
  have old : ∀ b o, s2.heap.get? b = some o → h₁.get? b = some o := fun b o e =>
    hsb₁.extBut b o (ltC b o e) (Heap.get?_push_of_some _ (hH2 ▸ Heap.get?_push_of_some _ e))
  have hacc : h₁.get? s2.heap.objs.size = some { cls := .type "list", data := .seq ([] : List Value).toArray } := hsb₁.extBut _ _ hDC (Heap.get?_push_of_some _ (hH2 ▸ Heap.get?_push_size _ rfl))
  let Y : Cx := cxComp X scope cl G2.objs.size (own ++ fr) s2 H2 fp
  let σ0 : St := List.replicate own.length none ++ cap js σ
  have bfs : ∀ b ∈ fp, b ∉ frs X.stack := fun b hb z => (List.mem_cons.mp (I2.stkSub b z)).elim (f2 b hb).2.1 (f2 b hb).2.2.1
  have okY : Y.Ok := by
    refine ⟨I2.ok.mod, hkind, I2.ok.glob, I2.ok.blt, ?_, fun x y c h1 h2 => I2.ok.inj x y c (hcl x c h1) (hcl y c h2), fun y hy => ?_, fun x c q => ?_, I2.ok.hd, I2.ok.frames, .inl rfl, fun b hb => ⟨?_, fun x c q => (f2 b hb).2.2.2.2.1 x c (hcl x c q)⟩, I2.bs, Nat.le_trans I2.ok.bsz I2.sz, fun b o q hb => ?_, bfs, I2.stack, I2.stkFree⟩
    · show s2.heap.objs.size ≤ G2.objs.size
      rw [hC]; exact Nat.le_succ _
    · have hy : (relabel scope X.env).names.lookup y = some .cell ∨ (relabel scope X.env).names.lookup y = some .free := hy
      rcases hy with hy | hy
      · obtain ⟨k0, hm, q | ⟨q, _⟩⟩ := relabel_mem hy
        · exact absurd q.symm (hcell _ hm)
        · exact hclh y (q ▸ hm)
      · obtain ⟨k0, hm, q | ⟨q, _⟩⟩ := relabel_mem hy
        · exact hclh y (q ▸ hm)
        · exact hclh y (q ▸ hm)
    · exact absurd (show false = true from q) Bool.false_ne_true
    · obtain ⟨o, q, _⟩ := T.obj 0 s2.heap st2 b hb
      exact ltC b o q
    · have hb' := f2 b hb
      rcases hb'.2.2.2.1 with z | z
      · exact I2.ok.noex b o q z
      · exact absurd (Nat.lt_of_lt_of_le (Heap.lt_size q) (Nat.le_trans I2.ok.bsz z)) (Nat.lt_irrefl _)
  have pinX : ∀ p ∈ X.pn ++ pins, p.1 ≠ G2.objs.size ∧ p.1 ∉ frs X.stack := fun p hp => by
    obtain ⟨e, n, ne, nf, d⟩ := I2.pin p hp
    exact ⟨ltC _ _ e, fun z => (List.mem_cons.mp (I2.stkSub _ z)).elim ne nf⟩
  have lenY : σ0.length = (own ++ fr).length := by
    show (List.replicate own.length none ++ cap js σ).length = _
    rw [List.length_append, List.length_replicate, List.length_append, cap, List.length_map, hlen]
  have IY : ∀ tk, Inv Y (X.pn ++ pins) σ0 (upd H2 s2.heap.objs.size (.lst [])) { s2 with heap := h₁, toks := tk } := fun tk => by
    refine ⟨okY, rfl, I2.bare, Un.laid old (Nat.le_refl _) hD, ⟨_, hns₁, fun i y v e1 e2 e3 => ?_⟩, fun y c q => ?_, ?_, fun y c q => ?_, fun p hp => ?_, I2.hok.laid old (Nat.le_refl _) ⟨Nat.zero_le _, [], 0, .nil, hacc⟩, lenY⟩
    · -- a captured name
      have e2 : (List.replicate own.length none ++ cap js σ)[i]? = some (some v) := e2
      have e1 : (own ++ fr)[i]? = some y := e1
      have hi : own.length ≤ i := by
        refine Nat.le_of_not_lt fun z => ?_
        rw [List.getElem?_append_left (by simpa using z), List.getElem?_replicate] at e2
        split at e2 <;> cases e2
      rw [List.getElem?_append_right (by simpa using hi), List.length_replicate, cap, List.getElem?_map] at e2
      rw [List.getElem?_append_right hi] at e1
      cases ej : js[i - own.length]? with
      | none => rw [ej] at e2; cases e2
      | some j =>
        rw [ej] at e2
        have e2 : (σ[j]?).join = some v := Option.some.inj e2
        have eσ : σ[j]? = some (some v) := by
          cases q : σ[j]? with
          | none => rw [q] at e2; cases e2
          | some o => rw [q] at e2; rw [show o = some v from e2]
        have hm : (y, j) ∈ fr.zip js := List.mem_of_getElem? (i := i - own.length) (by rw [List.getElem?_zip_eq_some]; exact ⟨e1, ej⟩)
        have hc := hcap _ hm
        simp only [Bool.and_eq_true, decide_eq_true_eq] at hc
        obtain ⟨⟨c1, c2⟩, c3⟩ := hc
        obtain ⟨m, hn, hl⟩ := I2.loc
        obtain ⟨u, r, l⟩ := hl j y v c1 eσ (.inr (.inl c3))
        rcases l with ⟨hk, _⟩ | ⟨_, c, hcc, hv⟩
        · exact absurd (c3.symm.trans hk) (by intro z; cases z)
        · obtain ⟨c', ec'⟩ := hclh y (PySem.mem_of_lookup c2)
          have : c' = c := Option.some.inj ((hcl y c' ec').symm.trans hcc)
          subst this
          refine ⟨u, r, .inr ⟨?_, c', ec', ?_⟩⟩
          · have e3 : Vis (relabel scope X.env) y := e3
            rcases e3 with q | q | q
            · obtain ⟨k0, hm, z | ⟨_, z⟩⟩ := relabel_mem q
              · have := hnames _ hm z.symm
                rw [c2] at this; cases this
              · cases z
            · exact .inl q
            · exact .inr q
          · obtain ⟨o, ho, hd⟩ := hv
            exact ⟨o, old _ _ ho, hd⟩
    · obtain ⟨v, o, ho, hd⟩ := I2.cell y c (hcl y c q)
      exact ⟨v, o, old _ _ ho, hd⟩
    · show upd H2 s2.heap.objs.size (.lst []) G2.objs.size = none
      rw [upd_ne (Ne.symm hDC)]
      exact I2.hok.fresh (by rw [hC]; exact Nat.le_succ _)
    · obtain ⟨v, o, ho, hd⟩ := I2.cell y c (hcl y c q)
      rw [upd_ne (Nat.ne_of_lt (Heap.lt_size ho))]
      exact I2.freeC y c (hcl y c q)
    · have hp : p ∈ X.pn ++ pins := by simpa [Y, cxComp] using hp
      obtain ⟨e, n, ne, nf, d⟩ := I2.pin p hp
      exact ⟨old _ _ e, by rw [upd_ne (Nat.ne_of_lt (Heap.lt_size e))]; exact n, (pinX p hp).1, (pinX p hp).2, d⟩
  have fpY : ∀ {H' : Hp}, (∀ b ∈ fp, H' b = none) → ∀ b ∈ fp, FpOk Y (X.pn ++ pins) H' b := fun {H'} hn b hb => by
    refine ⟨hn b hb, (okY.exf b hb).1, bfs b hb, .inl hb, (okY.exf b hb).2, fun p hp => ?_⟩
    have hp : p ∈ X.pn ++ pins := by simpa [Y, cxComp] using hp
    exact (f2 b hb).2.2.2.2.2 p hp
  have fin' : ∀ (H' : Hp) (s' : Shared), Inv Y (X.pn ++ pins) σ0 H' s' → Q (.ref s2.heap.objs.size) H' → compPost (model X.prog X.w) X.A X.xe use QQ (.ref s2.heap.objs.size) G2.objs.size (.ok .next) s' := fun H' s' J q => by
    obtain ⟨m, hn, _⟩ := J.loc
    have un : Un (frs X.stack) fp H2 H' s2.heap s'.heap := J.base
    refine fin _ _ H' s' m (I2.call' (s' := s') (ch := fp) J.os un J.hok J.bare fun b hb => ⟨(f2 b hb).2.2.2.1, (f2 b hb).2.1, (f2 b hb).2.2.2.2.1, (f2 b hb).2.2.2.2.2⟩) hn ⟨J.free, ?_, ?_, fun x c e z => ?_, fun p hp => (pinX p hp).1⟩ q
    · intro z
      obtain ⟨m2, ⟨o, _, _, ho, _⟩, _⟩ := I2.loc
      exact ltC _ o ho z.symm
    · exact Nat.le_trans I2.sz (by rw [hC]; exact Nat.le_succ _)
    · obtain ⟨v, o, ho, _⟩ := I2.cell x c e
      exact ltC c o ho z
  have frs0 : ∀ b ∈ fp, upd H2 s2.heap.objs.size (.lst []) b = none := fun b hb => by
    obtain ⟨o, q, _⟩ := T.obj 0 s2.heap st2 b hb
    rw [upd_ne (Nat.ne_of_lt (Heap.lt_size q))]
    exact (f2 b hb).1
  have loop : ∀ tk, codeAny (model X.prog X.w) X.A (.compLoop (.ListComp elt [⟨tg, iter, ifs, 0⟩] scope pos) 0 (.ref it) (.ref s2.heap.objs.size) (compEnvC scope cl G2.objs.size X.env))
      (compPost (model X.prog X.w) X.A X.xe use QQ (.ref s2.heap.objs.size) G2.objs.size) { s2 with heap := h₁, toks := tk } := fun tk => by
    refine compLoop_any (fun n s' => ∃ i ys H', Inv Y (X.pn ++ pins) σ0 H' s' ∧ tn i s'.heap ∧ (∀ b ∈ fp, H' b = none) ∧ H' s2.heap.objs.size = some (.lst ys) ∧ W i n ys H') ?_ m0
      ⟨0, [], _, IY tk, T.keep _ _ _ st2 (fun b hb o q => old b o q), frs0, upd_same, w0⟩
    rintro n s3 ⟨i, ys, H3, I3, st3, fr3, hD3, w3⟩
    rcases turn i n ys H3 w3 hD3 with ⟨stop, qn⟩ | ⟨go, step⟩
    · refine thn (T.done Y rfl rfl rfl hcalm i _ s3 σ0 H3 _ I3 (fpY fr3) st3 stop) fun r s4 ⟨hr, I4⟩ => ?_
      subst hr
      exact fin' H3 s4 I4 qn
    · refine thn (T.item Y rfl rfl rfl hcalm i _ s3 σ0 H3 _ I3 (fpY fr3) st3 go) fun r s4 ⟨u, hr, h4⟩ => ?_
      subst hr
      refine thn h4 fun _ s5 ⟨x, H5, I5, r5, y5, st5, fr5⟩ => ?_
      have I5' := I5.pinned (fpY fr5) (T.obj _ _ st5)
      refine thn (hg cl _ s2 H2 fp _ s5 σ0 H5 x u _ I5' r5 (step x H5 y5)) fun _ s6 ⟨σ6, H6, I6, d6, q6⟩ => ?_
      refine thn (ht cl _ s2 H2 fp _ s6 σ6 H6 _ I6 q6) fun b s7 ⟨H7, I7, q7⟩ => ?_
      have back : ∀ {σ8 : St} {H8 : Hp} {s8 : Shared} {zs : List V} {m' : Nat}, Inv Y (X.pn ++ pins ++ pinsAt fp s5.heap) σ8 H8 s8 → σ8.drop own.length = cap js σ → m' < n → H8 s2.heap.objs.size = some (.lst zs) → W (i + 1) m' zs H8 →
          ∃ m, m < n ∧ ∃ i ys H', Inv Y (X.pn ++ pins) σ0 H' s8 ∧ tn i s8.heap ∧ (∀ b ∈ fp, H' b = none) ∧ H' s2.heap.objs.size = some (.lst ys) ∧ W i m ys H' := fun {σ8 H8 s8 zs m'} I8 d8 hm hd w8 => by
        have pin8 : ∀ b o, b ∈ fp → s5.heap.get? b = some o → s8.heap.get? b = some o ∧ H8 b = none := fun b o hb e =>
          let z := I8.pin (b, o) (List.mem_append_right _ (List.mem_append_right _ (mem_pinsAt hb e)))
          ⟨z.1, z.2.1⟩
        have I8' := I8.unpinned
        refine ⟨m', hm, i + 1, zs, H8, ?_, T.keep _ _ _ st5 fun b hb o e => (pin8 b o hb e).1, fun b hb => ?_, hd, w8⟩
        · refine I8'.weak (lenY.trans I8'.len.symm) fun j v ej => ?_
          have ej : (List.replicate own.length none ++ cap js σ)[j]? = some (some v) := ej
          have hj : own.length ≤ j := by
            refine Nat.le_of_not_lt fun z => ?_
            rw [List.getElem?_append_left (by simpa using z), List.getElem?_replicate] at ej
            split at ej <;> cases ej
          rw [List.getElem?_append_right (by simpa using hj), List.length_replicate, ← d8, List.getElem?_drop] at ej
          rw [show j = own.length + (j - own.length) by omega]
          exact ej
        · obtain ⟨o, e, d⟩ := T.obj _ _ st5 b hb
          exact (pin8 b o hb e).2
      cases b with
      | false =>
        obtain ⟨hd, m', hm, w8⟩ := q7
        exact back I7 d6 hm hd w8
      | true =>
        refine thn (he cl _ s2 H2 fp _ s7 σ6 H7 _ I7 q7) fun v s8 ⟨y, H8, I8, r8, hd8, hz, m', hm, w8⟩ => ?_
        refine thn (mt_append (X := Y) _ s8 σ6 H8 (.ref s2.heap.objs.size) [y] (.ref s2.heap.objs.size) [v] (fun _ H9 => H9 = upd H8 s2.heap.objs.size (.lst (ys ++ [y]))) I8 rfl (.cons r8 .nil) ⟨_, ys, y, rfl, rfl, hd8, hz, rfl⟩) fun _ s9 ⟨_, H9, I9, _, e9⟩ => ?_
        subst e9
        exact back I9 d6 hm upd_same w8
  exact codeAny_compStart_list (loop _) (T.self _ 0 _ _ _ (T.keep _ _ _ st2 (fun b hb o q => old b o q)) (loop _))
theorem pe_comp {elt tg iter : Expr} {ifs : List Expr} {scope : Scope} {pos : Pos} {wi : TI} {g : TG} {tc : TT} {te : TE} (own fr : List Str) (js : List Nat) (NX : List Str) (sn : List (Str × NameKind)) (hcalm : X.calm = true)
    (hi : PI X tg iter wi)
    (hg : ∀ cl C s H fp, PG (cxComp X scope cl C (own ++ fr) s H fp) tg g) (ht : ∀ cl C s H fp, PTs (cxComp X scope cl C (own ++ fr) s H fp) ifs tc) (he : ∀ cl C s H fp, PE (cxComp X scope cl C (own ++ fr) s H fp) elt te)
    (hN : X.N = NX := by rfl) (hsn : X.env.scope.names = sn := by rfl) (hkind : scope.kind = .function := by rfl)
    (hcap : capOk NX sn scope.names fr js = true := by decide +kernel) (hsc : scOk sn scope.names = true := by decide +kernel)
    (hs : ∀ x, foldedSetIterable iter X.env x = pure x := by intro _; rfl) :
    PE X (.ListComp elt [⟨tg, iter, ifs, 0⟩] scope pos) (tComp wi g tc te own.length js) := by
  intro pins s σ H Q I h
  rw [eval_ListComp]
  refine comp_core own fr js NX sn hcalm hi hg ht he hN hsn hkind hcap hsc hs I h fun D C H' s' m I' hn F q => ?_
  exact ⟨m, hn, fun h' hsb => ⟨.ref D, H', F.turn I' hsb, rfl, q⟩⟩
theorem ps_comp {i : Nat} {y : Str} {py spos : Pos} {elt tg iter : Expr} {ifs : List Expr} {scope : Scope} {pos : Pos} {wi : TI} {g : TG} {tc : TT} {te : TE} (own fr : List Str) (js : List Nat) (NX : List Str) (sn : List (Str × NameKind)) (hcalm : X.calm = true)
    (hnd : X.N.Nodup) (hyi : X.N[i]? = some y) (hy : Loc X.env.scope y)
    (hi : PI X tg iter wi)
    (hg : ∀ cl C s H fp, PG (cxComp X scope cl C (own ++ fr) s H fp) tg g) (ht : ∀ cl C s H fp, PTs (cxComp X scope cl C (own ++ fr) s H fp) ifs tc) (he : ∀ cl C s H fp, PE (cxComp X scope cl C (own ++ fr) s H fp) elt te)
    (hsw : swapsWith (.ListComp elt [⟨tg, iter, ifs, 0⟩] scope pos) (some (.Name y py)) spos.line X.env = pure true := by rfl)
    (hN : X.N = NX := by rfl) (hsn : X.env.scope.names = sn := by rfl) (hkind : scope.kind = .function := by rfl)
    (hcap : capOk NX sn scope.names fr js = true := by decide +kernel) (hsc : scOk sn scope.names = true := by decide +kernel)
    (hs : ∀ x, foldedSetIterable iter X.env x = pure x := by intro _; rfl) (hf : X.fn y = true ∨ X.env.scope.names.lookup y = some .local := by first | exact .inl rfl | exact .inr rfl) :
    PS X (.Assign [.Name y py] (.ListComp elt [⟨tg, iter, ifs, 0⟩] scope pos) spos) (tAsg (tComp wi g tc te own.length js) (gName i)) := by
  intro pins s σ H D I h
  rw [exec_Assign_Name_used _ _ _ _ hsw]
  refine wpAny_bind (wpAny_standAt (wpAny_bind ?_))
  show wpAny _ X.A (do let _ ← comprehension (.ListComp elt [⟨tg, iter, ifs, 0⟩] scope pos) scope X.env _ (newList []) false (eval iter X.env) (some (assign (.Name y py) X.env))) _ _ s
  refine wpAny_bind (thn (comp_core own fr js NX sn hcalm hi hg ht he hN hsn hkind hcap hsc hs (use := some (assign (.Name y py) X.env)) (QQ := fun _ s' => SP X pins D .next s') I h fun A C H' s' m I' hn F q => ?_) fun _ s' hq => wpAny_pure (wpAny_pure hq))
  show wpAny _ X.A (assign (.Name y py) X.env (.ref A)) _ _ s'
  refine wpAny_assign_Name (store_ok2 (v := .ref A) I' hnd hyi hy rfl (fun s2 I2 ⟨a, hsb, ha⟩ => ?_) hf)
  have nC : a ≠ C := by
    rcases ha with z | z
    · rw [z]; exact Ne.symm F.ne
    · exact F.ce y a z
  exact ⟨m, hn.sameBut hsb nC.symm, fun h' hsb' => ⟨_, H', F.turn I2 hsb', q⟩⟩
end
end L2
end
section
set_option Elab.async false
set_option linter.all false
set_option maxRecDepth 100000
namespace L2
open PySem PySem.Spec PyProof.Rows
section
variable {κ : Type} [DecidableEq κ]
def valV (kvs : List (κ × V)) (k : κ) : Option V := (kvs.find? fun kv => decide (kv.1 = k)).map (·.2)
def putK (kvs : List (κ × V)) (k : κ) (v : V) : List (κ × V) :=
  if (kvs.any fun kv => decide (kv.1 = k)) = true then kvs.map (fun kv => if kv.1 = k then (kv.1, v) else kv) else kvs ++ [(k, v)]
def dropK (kvs : List (κ × V)) (k : κ) : List (κ × V) := kvs.filter fun kv => decide (kv.1 ≠ k)
end
abbrev KT (H : Hp) : List (List Key × V) → List (List Key × Addr × Value) → Prop := Paired fun p q => p.1 = q.1 ∧ H q.2.1 = some (.tup (p.1.map kV)) ∧ RelV p.2 q.2.2
section
variable {P : Program} {w : World} {H : Hp} {h : Heap} {a : Addr}
end
def DGet (H : Hp) (a : Addr) (y : V) (r : Option V) : Prop :=
  (∃ kvs k, Rd H a (.dK kvs) ∧ y = kV k ∧ r = valV kvs k) ∨ ∃ kvs k b, Rd H a (.dT kvs) ∧ y = .ref b ∧ H b = some (.tup (k.map kV)) ∧ r = valV kvs k
def DPut (H : Hp) (a : Addr) (y v : V) (H' : Hp) : Prop :=
  (∃ kvs k, H a = some (.dK kvs) ∧ y = kV k ∧ kvs.length < sizeLine ∧ H' = upd H a (.dK (putK kvs k v))) ∨
  ∃ kvs k b, H a = some (.dT kvs) ∧ y = .ref b ∧ H b = some (.tup (k.map kV)) ∧ kvs.length < sizeLine ∧ H' = upd H a (.dT (putK kvs k v))
section
variable {X : Cx} {pins : List (Addr × Obj)} {σ : St} {H : Hp} {s : Shared} {a : Addr} {y v : V} {u r : Value} {o : Option V} {A : Around} {E : Value → Shared → Prop}
end
section
variable {X : Cx} {pins : List (Addr × Obj)} {σ : St} {H : Hp} {s : Shared} {a : Addr} {kvs : List (Key × V)} {k : Key} {u : Value} {A : Around} {E : Value → Shared → Prop}
end
def NoSl (i : Expr) : Prop := ∀ ov iv, subscripted i false ov iv = operate [ov, iv] (getItem ov iv)
def tDGet (td ty : TE) : TE := fun σ H Q => td σ H fun x H1 => ty σ H1 fun y H2 => ∃ a v, x = .ref a ∧ DGet H2 a y (some v) ∧ Q v H2
def tDIn (ty td : TE) : TE := fun σ H Q => ty σ H fun y H1 => td σ H1 fun x H2 => ∃ a o, x = .ref a ∧ DGet H2 a y o ∧ Q (.bl o.isSome) H2
def tDNotIn (ty td : TE) : TE := fun σ H Q => ty σ H fun y H1 => td σ H1 fun x H2 => ∃ a o, x = .ref a ∧ DGet H2 a y o ∧ Q (.bl (!o.isSome)) H2
def sDPut (td ty tv : TE) : TS := fun D σ H => tv σ H fun v H1 => td σ H1 fun x H2 => ty σ H2 fun y H3 => ∃ a H4, x = .ref a ∧ DPut H3 a y v H4 ∧ D.nx σ H4
def sDAug (td ty tv : TE) (rd : V → V → Hp → VK → Prop) : TS := fun D σ H => td σ H fun x H1 => ty σ H1 fun y H2 => ∃ a v, x = .ref a ∧ DGet H2 a y (some v) ∧
  tv σ H2 fun y2 H3 => rd v y2 H3 fun z H4 => ∃ H5, DPut H4 a y z H5 ∧ D.nx σ H5
def sDDel (td ty : TE) : TS := fun D σ H => td σ H fun x H1 => ty σ H1 fun y H2 => ∃ a kvs k, x = .ref a ∧ H2 a = some (.dK kvs) ∧ y = kV k ∧ (valV kvs k).isSome = true ∧ D.nx σ (upd H2 a (.dK (dropK kvs k)))
section
variable {X : Cx} {o i e value : Expr} {pos pos' tpos : Pos} {td ty tv : TE}
end
def tDNewK : TE := fun _ H Q => ∀ p, H p = none → Q (.ref p) (upd H p (.dK []))
def tDNewT : TE := fun _ H Q => ∀ p, H p = none → Q (.ref p) (upd H p (.dT []))
section
variable {X : Cx} {pos : Pos}
end
def tPairs : List (TE × TE) → St → Hp → (List (V × V) → Hp → Prop) → Prop
  | [], _, H, Q => Q [] H
  | (tk, tv) :: r, σ, H, Q => tk σ H fun x H1 => tv σ H1 fun y H2 => tPairs r σ H2 fun ps H3 => Q ((x, y) :: ps) H3
abbrev VV : List (V × V) → List (Value × Value) → Prop := Paired fun p q => RelV p.1 q.1 ∧ RelV p.2 q.2
def PPs (X : Cx) (pos : Pos) (keys : List (Option Expr)) (values : List Expr) (trs : List (TE × TE)) : Prop :=
  ∀ (pins : List (Addr × Obj)) (s : Shared) (σ : St) (H : Hp) (Q : List (V × V) → Hp → Prop), Inv X pins σ H s → tPairs trs σ H Q →
    wpAny (model X.prog X.w) X.A (evalPairs (pairTrees keys values X.env pos)) (fun vs s' => ∃ ps H', Inv X pins σ H' s' ∧ VV ps vs ∧ Q ps H') X.xe s
def mergeK (kvs more : List (Key × V)) : List (Key × V) := more.foldl (fun acc kv => putK acc kv.1 kv.2) kvs
def tDisp (trs : List (TE × TE)) : TE := fun σ H Q => ∀ p, H p = none → tPairs trs σ (upd H p (.dK [])) fun ps H2 => H2 p = some (.dK []) ∧ ∃ kvs : List (Key × V), ps = kvs.map (fun kv => (kV kv.1, kv.2)) ∧ kvs.length ≤ 15 ∧ Q (.ref p) (upd H2 p (.dK (mergeK [] kvs)))
structure M1 (X : Cx) (o : Expr) (m : Str) (apos : Pos) (e : Expr) (cpos : Pos) : Prop where
  base : attributeBase o m X.env (eval o X.env) = eval o X.env
  few : ((backTo cpos (starEach [e] X.env)).all (fun x => !x.1) && (backToKw cpos (keywordEach [] X.env)).all (fun x => x.1.isSome)
    && decide (([e] : List Expr).length + ([] : List Keyword).length + (if ([] : List Keyword).isEmpty then 0 else 1) < 30)) = true
  line : (apos.endLine == cpos.line) = true
  trees : backTo cpos (starEach [e] X.env) = [(false, eval e X.env)]
structure M2 (X : Cx) (o : Expr) (m : Str) (apos : Pos) (e f : Expr) (cpos : Pos) : Prop where
  base : attributeBase o m X.env (eval o X.env) = eval o X.env
  few : ((backTo cpos (starEach [e, f] X.env)).all (fun x => !x.1) && (backToKw cpos (keywordEach [] X.env)).all (fun x => x.1.isSome)
    && decide (([e, f] : List Expr).length + ([] : List Keyword).length + (if ([] : List Keyword).isEmpty then 0 else 1) < 30)) = true
  line : (apos.endLine == cpos.line) = true
  trees : backTo cpos (starEach [e, f] X.env) = [(false, eval e X.env), (false, eval f X.env)]
def IsD (H : Hp) (a : Addr) : Prop := (∃ kvs, Rd H a (.dK kvs)) ∨ ∃ kvs, Rd H a (.dT kvs)
section
variable {X : Cx} {pins : List (Addr × Obj)} {σ : St} {H : Hp} {s : Shared} {a : Addr} {y d : V} {u r : Value} {o : Option V} {A : Around} {E : Value → Shared → Prop}
end
def tDGet1 (td ty : TE) : TE := fun σ H Q => td σ H fun x H1 => ∃ a, x = .ref a ∧ IsD H1 a ∧ ty σ H1 fun y H2 => ∃ o, DGet H2 a y o ∧ Q (o.getD .non) H2
def tDGet2 (td ty tx : TE) : TE := fun σ H Q => td σ H fun x H1 => ∃ a, x = .ref a ∧ IsD H1 a ∧ ty σ H1 fun y H2 => tx σ H2 fun z H3 => ∃ o, DGet H3 a y o ∧ Q (o.getD z) H3
def tDPop1 (td ty : TE) : TE := fun σ H Q => td σ H fun x H1 => ∃ a, x = .ref a ∧ IsD H1 a ∧ ty σ H1 fun y H2 => ∃ kvs k v, H2 a = some (.dK kvs) ∧ y = kV k ∧ valV kvs k = some v ∧ Q v (upd H2 a (.dK (dropK kvs k)))
def tDPop2 (td ty tx : TE) : TE := fun σ H Q => td σ H fun x H1 => ∃ a, x = .ref a ∧ IsD H1 a ∧ ty σ H1 fun y H2 => tx σ H2 fun z H3 => ∃ kvs k, H3 a = some (.dK kvs) ∧ y = kV k ∧
  (∀ v, valV kvs k = some v → Q v (upd H3 a (.dK (dropK kvs k)))) ∧ (valV kvs k = none → Q z H3)
section
variable {X : Cx} {o e f : Expr} {apos cpos : Pos} {td ty tx : TE}
end
section
variable {X : Cx} {pins : List (Addr × Obj)} {σ : St} {H : Hp} {s : Shared} {a : Addr} {kvs : List (Key × V)} {A : Around} {E : Value → Shared → Prop}
end
section
variable {X : Cx} {pins : List (Addr × Obj)} {σ : St} {H : Hp} {s : Shared} {a : Addr} {y : V} {u : Value} {A : Around} {E : Value → Shared → Prop}
end
end L2
end
section
set_option Elab.async false
set_option linter.all false
set_option maxRecDepth 100000
namespace L2
open PySem PySem.Spec PyProof.Rows
def isStar : Expr → Bool
  | .Starred .. => true
  | _ => false
theorem starEach_plain {e : Expr} {es : List Expr} {env : Env} (h : isStar e = false) : starEach (e :: es) env = (false, eval e env) :: starEach es env := by
  cases e <;> first | rfl | exact absurd h (by intro z; cases z)
theorem pa_cn {X : Cx} {e : Expr} {es : List Expr} {te : TE} {t : TA} (ha : PE X e te) (hr : PA X es t) (hs : isStar e = false := by rfl) : PA X (e :: es) (tCons te t) := pa_cons ha hr (starEach_plain hs)
section
variable {X : Cx}
end
section
variable {X : Cx} {pos : Pos}
theorem call_isinst : CallR X (.builtin "isinstance") (fun xs H Q => ∃ x n t b, xs = [x, .ty n] ∧ TyOf X.K H x t ∧ PySem.W.kitOne X.K t (.type n) = some b ∧ Q (.bl b) H) := by
  intro pins s σ H xs us Q I r h
  obtain ⟨x, n, t, b, rfl, ty, e, q⟩ := h
  obtain ⟨u, w', rfl, ru, rw'⟩ := vals2 r
  cases (show w' = Value.type n from rw')
  exact isinst_ok I ru ty e fun tk => ⟨.bl b, H, I.tok tk, rfl, q⟩
theorem vals_bools : ∀ {bs : List Bool} {us : List Value}, Vals (bs.map V.bl) us → us = bs.map Value.bool
  | [], _, .nil => rfl
  | b :: bs, _, .cons r t => by
    rw [show _ = Value.bool b from r, vals_bools t]
    rfl
theorem range_all_map (bs : List Bool) : (List.range bs.length).all (fun i => bs.getD i true) = bs.all id := by
  induction bs with
  | nil => rfl
  | cons b bs ih =>
    rw [List.length_cons, List.range_succ_eq_map, List.all_cons, List.all_map, List.all_cons, ← ih]
    rfl
theorem call_all_list (hc : X.A.handled = none) : CallR X (.builtin "all") (fun xs H Q => ∃ (p : Addr) (bs : List Bool), xs = [.ref p] ∧ SqL X.K H p (bs.map V.bl) ∧ Q (.bl (bs.all id)) H) := by
  intro pins s σ H xs us Q I r h
  obtain ⟨p, bs, rfl, hq, q⟩ := h
  obtain ⟨u, rfl, ru⟩ := vals1 r
  cases ru
  obtain ⟨its, rv, pl, hz⟩ := I.list hq
  have ei := vals_bools rv
  subst ei
  have hl : s.heap.IsList p (bs.map Value.bool).toArray := pl.isList
  have hne : p ≠ s.heap.objs.size := by
    obtain ⟨o, ho, _⟩ := hl
    exact Nat.ne_of_lt (Heap.lt_size ho)
  refine call_all_walk (wpAny_pyIter_list hl ?_)
  refine ⟨s.heap.objs.size, _, _, _, _, _, fun i => bs.getD i true, rfl, Walks.list (A := X.A.in1) hc _ p hne (bs.map Value.bool).toArray, ⟨⟨_, Heap.get?_push_size _ rfl, rfl, rfl⟩, ?_⟩, ?_, fun h' tk hk => ?_⟩
  · obtain ⟨o, ho, hr⟩ := hl
    exact ⟨o, Heap.get?_push_of_some _ ho, hr⟩
  · intro i v s' Q' E' hv hQ'
    have hv : (bs.map Value.bool).toArray[i]? = some v := hv
    rw [List.getElem?_toArray, List.getElem?_map] at hv
    cases eb : bs[i]? with
    | none => rw [eb] at hv; cases hv
    | some b =>
      rw [eb] at hv
      have : Value.bool b = v := Option.some.inj hv
      subst this
      have eg : bs.getD i true = b := by rw [List.getD_eq_getElem?_getD, eb]; rfl
      have hQ' : Q' (bs.getD i true) s' := hQ'
      rw [eg] at hQ'
      exact wpAny_truthy_bool hQ'
  · refine ⟨.bl (bs.all id), H, I.kept (t' := tk) fun b o e => hk b o (fun z => ?_) (Heap.get?_push_of_some _ e), ?_, q⟩
    · have z : b = s.heap.objs.size := by simpa using z
      exact absurd (Heap.lt_size e) (by rw [z]; exact Nat.lt_irrefl _)
    · show Value.bool _ = Value.bool _
      rw [← range_all_map bs]
      simp
theorem call_sum_list (hc : X.A.handled = none) : CallR X (.builtin "sum") (fun xs H Q => ∃ (p : Addr) (ns : List Int), xs = [.ref p] ∧ SqL X.K H p (ns.map V.int) ∧ Q (.int ns.sum) H) := by
  intro pins s σ H xs us Q I r h
  obtain ⟨p, ns, rfl, hq, q⟩ := h
  obtain ⟨u, rfl, ru⟩ := vals1 r
  cases ru
  obtain ⟨its, rv, pl, hz⟩ := I.list hq
  have hi : IntsAre its ns := intsAre_of rv
  obtain ⟨xs, ex⟩ := hi.allInts.items
  have hl : s.heap.IsList p its.toArray := pl.isList
  have hs : ns.sum = preSum (numAt xs) xs.size := by
    rw [preSum_eq, List.take_of_length_le (by simp), ← nums_intItems, ← ex, hi.numsOf]
  rw [ex] at hl
  refine sum_intListG hc hl fun h' tk t' hk => ?_
  exact ⟨.int ns.sum, H, I.kept hk, ⟨t', by rw [hs]⟩, q⟩
theorem call_min_list (hc : X.A.handled = none) : CallR X (.builtin "min") (fun xs H Q => ∃ (p : Addr) (ns : List Int), xs = [.ref p] ∧ SqL X.K H p (ns.map V.int) ∧ ns ≠ [] ∧ ∀ M, M ∈ ns → (∀ a ∈ ns, M ≤ a) → Q (.int M) H) := by
  intro pins s σ H xs us Q I r h
  obtain ⟨p, ns, rfl, hq, hn, q⟩ := h
  obtain ⟨u, rfl, ru⟩ := vals1 r
  cases ru
  obtain ⟨its, rv, pl, hz⟩ := I.list hq
  have hi : IntsAre its ns := intsAre_of rv
  obtain ⟨xs, ex⟩ := hi.allInts.items
  have hl : s.heap.IsList p its.toArray := pl.isList
  have hns : ns = xs.toList.map (·.1) := by rw [← hi.numsOf, ← nums_intItems, ← ex]
  have hsz : 0 < xs.size := by
    have h3 := List.length_pos_iff.mpr hn
    rw [hns, List.length_map, Array.length_toList] at h3
    exact h3
  rw [ex] at hl
  refine min_intList hc hl hsz fun v h' tk hv hk => ?_
  obtain ⟨t, rfl⟩ := intItems_at hv
  obtain ⟨h1, h2⟩ := argBest_lt (numAt xs) (xs.size - 1)
  refine ⟨.int _, H, I.kept hk, ⟨t, rfl⟩, q _ ?_ fun a ha => ?_⟩
  · rw [hns, numAt_eq]
    exact getD_mem (by rw [List.length_map, Array.length_toList]; omega)
  · rw [hns] at ha
    obtain ⟨j, hj, rfl⟩ := mem_getD ha
    rw [List.length_map, Array.length_toList] at hj
    rw [← numAt_eq]
    exact h2 j (by omega)
theorem call_max_list (hc : X.A.handled = none) : CallR X (.builtin "max") (fun xs H Q => ∃ (p : Addr) (ns : List Int), xs = [.ref p] ∧ SqL X.K H p (ns.map V.int) ∧ ns ≠ [] ∧ ∀ M, M ∈ ns → (∀ a ∈ ns, a ≤ M) → Q (.int M) H) := by
  intro pins s σ H xs us Q I r h
  obtain ⟨p, ns, rfl, hq, hn, q⟩ := h
  obtain ⟨u, rfl, ru⟩ := vals1 r
  cases ru
  obtain ⟨its, rv, pl, hz⟩ := I.list hq
  have hi : IntsAre its ns := intsAre_of rv
  obtain ⟨xs, ex⟩ := hi.allInts.items
  have hl : s.heap.IsList p its.toArray := pl.isList
  have hns : ns = xs.toList.map (·.1) := by rw [← hi.numsOf, ← nums_intItems, ← ex]
  have hsz : 0 < xs.size := by
    have h3 := List.length_pos_iff.mpr hn
    rw [hns, List.length_map, Array.length_toList] at h3
    exact h3
  rw [ex] at hl
  refine max_intList hc hl hsz fun v h' tk hv hk => ?_
  obtain ⟨t, rfl⟩ := intItems_at hv
  obtain ⟨h1, h2⟩ := argBest_gt (numAt xs) (xs.size - 1)
  refine ⟨.int _, H, I.kept hk, ⟨t, rfl⟩, q _ ?_ fun a ha => ?_⟩
  · rw [hns, numAt_eq]
    exact getD_mem (by rw [List.length_map, Array.length_toList]; omega)
  · rw [hns] at ha
    obtain ⟨j, hj, rfl⟩ := mem_getD ha
    rw [List.length_map, Array.length_toList] at hj
    rw [← numAt_eq]
    exact h2 j (by omega)
def rJoin (K : PySem.W.Frag) : V → List V → Hp → VK → Prop := fun x vs H Q => ∃ (z : Str) (p : Addr) (ys : List Str), x = .str z ∧ vs = [.ref p] ∧ SqL K H p (ys.map V.str) ∧ (ys.map (·.length)).sum + ys.length * z.length ≤ 16777216 ∧ Q (.str (Txt.join z ys)) H
def rSlS : V → Option Int → Option Int → Hp → VK → Prop := fun x lo hi H Q => ∃ z : Str, x = .str z ∧ z.length ≤ sizeLine ∧ Q (.str (Txt.slice z lo hi)) H
def rGetL (K : PySem.W.Frag) : V → V → Hp → VK → Prop := fun o i H Q => ∃ (p : Addr) (xs : List V) (j : Nat) (v : V), o = .ref p ∧ i = .int j ∧ SqL K H p xs ∧ xs[j]? = some v ∧ Q v H
theorem get_list : PGet X (rGetL X.K) := by
  intro pins s σ H o i ov iv Q I ro ri h
  obtain ⟨p, xs, j, v, rfl, rfl, hq, he, q⟩ := h
  cases ro
  obtain ⟨t, rfl⟩ := ri
  obtain ⟨its, r, pl, hz⟩ := I.list hq
  obtain ⟨w', ew, rw'⟩ := r.get he
  have hj : j < xs.length := (List.getElem?_eq_some_iff.mp he).1
  have hn := line63
  exact wpAny_getItem_list pl.isList (by omega) (by omega) (by simpa using ew) ⟨v, H, I, rw', q⟩
def eqL : List V → List V → Bool
  | [], [] => true
  | x :: xs, y :: ys => eqV x y && eqL xs ys
  | _, _ => false
theorem eqL_len : ∀ {xs ys : List V}, xs.length ≠ ys.length → eqL xs ys = false
  | [], [], h => absurd rfl h
  | [], _ :: _, _ => rfl
  | _ :: _, [], _ => rfl
  | x :: xs, y :: ys, h => by
    show (eqV x y && eqL xs ys) = false
    rw [eqL_len (by simpa using h), Bool.and_false]
theorem eqL_range : ∀ {xs ys : List V}, xs.length = ys.length → (List.range xs.length).all (fun i => eqV (xs.getD i .non) (ys.getD i .non)) = eqL xs ys
  | [], [], _ => rfl
  | [], _ :: _, h => by simp at h
  | _ :: _, [], h => by simp at h
  | x :: xs, y :: ys, h => by
    rw [List.length_cons, List.range_succ_eq_map, List.all_cons, List.all_map]
    show (eqV x y && (List.range xs.length).all (fun i => eqV (xs.getD i .non) (ys.getD i .non))) = (eqV x y && eqL xs ys)
    rw [eqL_range (by simpa using h)]
theorem eqL_ints : ∀ ns ms : List Int, eqL (ns.map V.int) (ms.map V.int) = decide (ns = ms)
  | [], [] => rfl
  | [], _ :: _ => by simp [eqL]
  | _ :: _, [] => by simp [eqL]
  | n :: ns, m :: ms => by
    show ((n == m) && eqL (ns.map V.int) (ms.map V.int)) = _
    rw [eqL_ints ns ms]
    rw [Bool.eq_iff_iff]
    simp
def rEqL (K : PySem.W.Frag) (neg : Bool) : R2 := fun x y H Q => ∃ (a b : Addr) (xs ys : List V), x = .ref a ∧ y = .ref b ∧ SqL K H a xs ∧ SqL K H b ys ∧ xs.all flatV = true ∧ ys.all flatV = true ∧ Q (.bl (if neg then !eqL xs ys else eqL xs ys)) H
theorem flat_get {xs : List V} (h : xs.all flatV = true) {i : Nat} {x : V} (e : xs[i]? = some x) : flatV x = true := List.all_eq_true.mp h x (List.mem_of_getElem? e)
theorem getD_of {α : Type} {xs : List α} {i : Nat} {x d : α} (e : xs[i]? = some x) : xs.getD i d = x := by rw [List.getD_eq_getElem?_getD, e]; rfl
theorem items_eqAt {A : Around} {s : Shared} {xs ys : List V} {us ws : List Value} (r : Vals xs us) (r' : Vals ys ws) (fx : xs.all flatV = true) (fy : ys.all flatV = true) :
    ∀ j (h1 : j < us.toArray.size) (h2 : j < ws.toArray.size), SeqAt.EqAt A s us.toArray[j] ws.toArray[j] (eqV (xs.getD j .non) (ys.getD j .non)) := fun j h1 h2 => by
  have l1 := r.length
  have l2 := r'.length
  have h1' : j < us.length := by simpa using h1
  have h2' : j < ws.length := by simpa using h2
  have e1 : xs[j]? = some (xs[j]'(by omega)) := List.getElem?_eq_getElem _
  have e2 : ys[j]? = some (ys[j]'(by omega)) := List.getElem?_eq_getElem _
  obtain ⟨u, eu, ru⟩ := r.get e1
  obtain ⟨w', ew, rw'⟩ := r'.get e2
  rw [getD_of e1, getD_of e2]
  have q1 : us.toArray[j] = u := by
    rw [List.getElem?_eq_getElem h1'] at eu
    simpa using Option.some.inj eu
  have q2 : ws.toArray[j] = w' := by
    rw [List.getElem?_eq_getElem h2'] at ew
    simpa using Option.some.inj ew
  rw [q1, q2]
  exact eqAt_V ru rw' (flat_get fx e1) (flat_get fy e2)
theorem op_eqL (hu : X.A.units < cLine) : OpR X (compareOp .Eq) (rEqL X.K false) := by
  intro pins s σ H x y v u Q I rx ry h
  obtain ⟨a, b, xs, ys, rfl, rfl, ha, hb, fx, fy, q⟩ := h
  cases rx
  cases ry
  obtain ⟨its, r1, p1, _⟩ := I.list ha
  obtain ⟨its2, r2, p2, _⟩ := I.list hb
  have l1 := r1.length
  have l2 := r2.length
  by_cases e : xs.length = ys.length
  · refine SeqAt.eq_listAt p1.isList p2.isList (by simp; omega) hu (items_eqAt r1 r2 fx fy) (fin_bl I q ?_)
    rw [← eqL_range e]
    simp [l1]
  · refine SeqAt.eq_list_lengthsAt p1.isList p2.isList (by simp; omega) hu (fin_bl I q ?_)
    simp [eqL_len e]
theorem op_neL (hu : X.A.units < cLine) : OpR X (compareOp .NotEq) (rEqL X.K true) := by
  intro pins s σ H x y v u Q I rx ry h
  obtain ⟨a, b, xs, ys, rfl, rfl, ha, hb, fx, fy, q⟩ := h
  cases rx
  cases ry
  obtain ⟨its, r1, p1, _⟩ := I.list ha
  obtain ⟨its2, r2, p2, _⟩ := I.list hb
  have l1 := r1.length
  have l2 := r2.length
  by_cases e : xs.length = ys.length
  · refine PySem.EqBoolInt.of_rcne (SeqAt.RcNeAt.lists p1.isList p2.isList (by simp; omega) hu (items_eqAt r1 r2 fx fy)) (fin_bl I q ?_)
    rw [← eqL_range e]
    simp [l1]
  · refine PySem.EqBoolInt.of_rcne (SeqAt.RcNeAt.lists_lengths p1.isList p2.isList (by simp; omega) hu) (fin_bl I q ?_)
    simp [eqL_len e]
end
def Nx (n i : Nat) (P : Prop) : Prop := ∃ m', m' < n - i ∧ m' = n - (i + 1) ∧ i + 1 ≤ n ∧ P
theorem nx {n i : Nat} {P : Prop} (h : i < n) (p : P) : Nx n i P := ⟨_, by omega, rfl, h, p⟩
theorem comp_list {K : PySem.W.Frag} {a : Addr} {xs : List V} {g : TG} {tc : TT} {te : TE} {k : Nat} {js : List Nat} {σ : St} {H : Hp} {Fin : Hp → Prop} {D : Addr} (Pv : Nat → List V → Hp → Prop) (h0 : Pv 0 [] (upd H D (.lst [])))
    (hl : ∀ i ys H, i ≤ xs.length → Pv i ys H → SqL K H a xs) (hd : ∀ ys H, Pv xs.length ys H → H D = some (.lst ys) → Fin H)
    (hs : ∀ i x ys H, xs[i]? = some x → Pv i ys H → H D = some (.lst ys) → g x (List.replicate k none ++ cap js σ) H fun σ2 H2 => σ2.drop k = cap js σ ∧ tc σ2 H2 fun b H3 =>
      if b = true then te σ2 H3 fun y H4 => H4 D = some (.lst ys) ∧ ys.length < sizeLine ∧ Nx xs.length i (Pv (i + 1) (ys ++ [y]) (upd H4 D (.lst (ys ++ [y])))) else H3 D = some (.lst ys) ∧ Nx xs.length i (Pv (i + 1) ys H3)) :
    ∃ W : Nat → Nat → List V → Hp → Prop, (∃ m, W 0 m [] (upd H D (.lst []))) ∧ ∀ i m ys H, W i m ys H → H D = some (.lst ys) →
    ((Itl K a).stop i H ∧ Fin H) ∨ ((Itl K a).go i H ∧ ∀ x H', (Itl K a).yld i H x H' → g x (List.replicate k none ++ cap js σ) H' fun σ2 H2 => σ2.drop k = cap js σ ∧ tc σ2 H2 fun b H3 =>
      if b = true then te σ2 H3 fun y H4 => H4 D = some (.lst ys) ∧ ys.length < sizeLine ∧ ∃ m', m' < m ∧ W (i + 1) m' (ys ++ [y]) (upd H4 D (.lst (ys ++ [y])))
      else H3 D = some (.lst ys) ∧ ∃ m', m' < m ∧ W (i + 1) m' ys H3) := by
  refine ⟨fun i m ys H => m = xs.length - i ∧ i ≤ xs.length ∧ Pv i ys H, ⟨xs.length, by simp, Nat.zero_le _, h0⟩, ?_⟩
  rintro i m ys H ⟨rfl, hi, p⟩ hD
  have q := hl i ys H hi p
  by_cases hlt : i < xs.length
  · refine .inr ⟨⟨xs, xs[i], q, by simp [hlt]⟩, fun x H' y => ?_⟩
    obtain ⟨e, y⟩ := y
    subst e
    exact hs i x ys _ (y xs q) p hD
  · have e : i = xs.length := by omega
    subst e
    exact .inl ⟨⟨xs, q, Nat.le_refl _⟩, hd ys H p hD⟩
theorem comp_tup {K : PySem.W.Frag} {a : Addr} {xs : List V} {g : TG} {tc : TT} {te : TE} {k : Nat} {js : List Nat} {σ : St} {H : Hp} {Fin : Hp → Prop} {D : Addr} (Pv : Nat → List V → Hp → Prop) (h0 : Pv 0 [] (upd H D (.lst [])))
    (hl : ∀ i ys H, i ≤ xs.length → Pv i ys H → SqT K H a xs) (hd : ∀ ys H, Pv xs.length ys H → H D = some (.lst ys) → Fin H)
    (hs : ∀ i x ys H, xs[i]? = some x → Pv i ys H → H D = some (.lst ys) → g x (List.replicate k none ++ cap js σ) H fun σ2 H2 => σ2.drop k = cap js σ ∧ tc σ2 H2 fun b H3 =>
      if b = true then te σ2 H3 fun y H4 => H4 D = some (.lst ys) ∧ ys.length < sizeLine ∧ Nx xs.length i (Pv (i + 1) (ys ++ [y]) (upd H4 D (.lst (ys ++ [y])))) else H3 D = some (.lst ys) ∧ Nx xs.length i (Pv (i + 1) ys H3)) :
    ∃ W : Nat → Nat → List V → Hp → Prop, (∃ m, W 0 m [] (upd H D (.lst []))) ∧ ∀ i m ys H, W i m ys H → H D = some (.lst ys) →
    ((Itt K a).stop i H ∧ Fin H) ∨ ((Itt K a).go i H ∧ ∀ x H', (Itt K a).yld i H x H' → g x (List.replicate k none ++ cap js σ) H' fun σ2 H2 => σ2.drop k = cap js σ ∧ tc σ2 H2 fun b H3 =>
      if b = true then te σ2 H3 fun y H4 => H4 D = some (.lst ys) ∧ ys.length < sizeLine ∧ ∃ m', m' < m ∧ W (i + 1) m' (ys ++ [y]) (upd H4 D (.lst (ys ++ [y])))
      else H3 D = some (.lst ys) ∧ ∃ m', m' < m ∧ W (i + 1) m' ys H3) := by
  refine ⟨fun i m ys H => m = xs.length - i ∧ i ≤ xs.length ∧ Pv i ys H, ⟨xs.length, by simp, Nat.zero_le _, h0⟩, ?_⟩
  rintro i m ys H ⟨rfl, hi, p⟩ hD
  have q := hl i ys H hi p
  by_cases hlt : i < xs.length
  · refine .inr ⟨⟨xs, xs[i], q, by simp [hlt]⟩, fun x H' y => ?_⟩
    obtain ⟨e, y⟩ := y
    subst e
    exact hs i x ys _ (y xs q) p hD
  · have e : i = xs.length := by omega
    subst e
    exact .inl ⟨⟨xs, q, Nat.le_refl _⟩, hd ys H p hD⟩
theorem comp_range {lo : Int} {n : Nat} {g : TG} {tc : TT} {te : TE} {k : Nat} {js : List Nat} {σ : St} {H : Hp} {Fin : Hp → Prop} {D : Addr} (Pv : Nat → List V → Hp → Prop) (h0 : Pv 0 [] (upd H D (.lst [])))
    (hd : ∀ ys H, Pv n ys H → H D = some (.lst ys) → Fin H)
    (hs : ∀ i ys H, i < n → Pv i ys H → H D = some (.lst ys) → g (.int (lo + i)) (List.replicate k none ++ cap js σ) H fun σ2 H2 => σ2.drop k = cap js σ ∧ tc σ2 H2 fun b H3 =>
      if b = true then te σ2 H3 fun y H4 => H4 D = some (.lst ys) ∧ ys.length < sizeLine ∧ Nx n i (Pv (i + 1) (ys ++ [y]) (upd H4 D (.lst (ys ++ [y])))) else H3 D = some (.lst ys) ∧ Nx n i (Pv (i + 1) ys H3)) :
    ∃ W : Nat → Nat → List V → Hp → Prop, (∃ m, W 0 m [] (upd H D (.lst []))) ∧ ∀ i m ys H, W i m ys H → H D = some (.lst ys) →
    ((Itr lo n).stop i H ∧ Fin H) ∨ ((Itr lo n).go i H ∧ ∀ x H', (Itr lo n).yld i H x H' → g x (List.replicate k none ++ cap js σ) H' fun σ2 H2 => σ2.drop k = cap js σ ∧ tc σ2 H2 fun b H3 =>
      if b = true then te σ2 H3 fun y H4 => H4 D = some (.lst ys) ∧ ys.length < sizeLine ∧ ∃ m', m' < m ∧ W (i + 1) m' (ys ++ [y]) (upd H4 D (.lst (ys ++ [y])))
      else H3 D = some (.lst ys) ∧ ∃ m', m' < m ∧ W (i + 1) m' ys H3) := by
  refine ⟨fun i m ys H => m = n - i ∧ i ≤ n ∧ Pv i ys H, ⟨n, by simp, Nat.zero_le _, h0⟩, ?_⟩
  rintro i m ys H ⟨rfl, hi, p⟩ hD
  by_cases hlt : i < n
  · refine .inr ⟨hlt, fun x H' y => ?_⟩
    obtain ⟨e, y⟩ := y
    subst e y
    exact hs i ys _ hlt p hD
  · have e : i = n := by omega
    subst e
    exact .inl ⟨Nat.le_refl _, hd ys H p hD⟩
def Its (x : Str) : It := ⟨fun i _ => i < x.cps.size, fun i H v H' => H' = H ∧ ∃ c, x.cps[i]? = some c ∧ v = .str ⟨#[c]⟩, fun i _ => x.cps.size ≤ i⟩
def iStr (tl : TE) : TI := fun σ H R => tl σ H fun x H1 => ∃ z, x = .str z ∧ R (Its z) H1
structure Lk (K : PySem.W.Frag) (mg : Str → Option Value) (x : Str) (st : Stmt) (ps : List Str) (f : Addr) (fd : FuncData) : Prop where
  F : Fun K x x st f fd
  m : mg x = some (.ref f)
  b : Binds K fd ps []
structure Callee (P : Program) (w : World) (K : PySem.W.Frag) (mg : Str → Option Value) (base : Heap) (x : Str) (ps : List Str) (k : Nat) (sp : Sp) : Prop where
  ex : ∃ (f : Addr) (fd : FuncData), FnOk P w K mg base CX0 k f fd ps sp ∧ mg x = some (.ref f) ∧ PySem.W.keepIn K (.ref f) = true ∧ Binds K fd ps []
theorem Lk.callee {P : Program} {w : World} {K : PySem.W.Frag} {mg : Str → Option Value} {base : Heap} {x : Str} {st : Stmt} {ps : List Str} {f : Addr} {fd : FuncData} {k : Nat} {sp : Sp} (L : Lk K mg x st ps f fd) (h : FnOk P w K mg base CX0 k f fd ps sp) : Callee P w K mg base x ps k sp :=
  ⟨f, fd, h, L.m, L.F.kp, L.b⟩
theorem pe_callee {X : Cx} {k : Nat} {ps : List Str} {sp : Sp} {x : Str} {p pos : Pos} {e : Expr} {es : List Expr} {t : TA} (C : Callee X.prog X.w X.K X.mg X.base x ps k sp) (hr : Room k X.A) (hg : Gl X x)
    (ha : PA X (e :: es) t) (hdb : (x == ("__debug__" : Str)) = false := by decide) (he : starEach (e :: es) X.env = (false, eval e X.env) :: starEach es X.env := by rfl) (hpl : (backTo pos (starEach es X.env)).any (·.1) = false := by rfl) :
    PE X (.Call (.Name x p) (e :: es) [] pos) (tCall sp [] E0 t) := by
  obtain ⟨f, fd, F, hm, hk, hb⟩ := C.ex
  exact pe_call F hr hg hm hk hb .nil pass0 ha hdb he hpl
theorem hu0 {A : Around} {k : Nat} (hr : Room k A) : A.units < cLine := hr.units0
theorem lk_mk {K : PySem.W.Frag} {h : Heap} {mg : Str → Option Value} {x : Str} {st : Stmt} {ps : List Str} {f : Addr} {oc : Value} {od an : Option Addr} {osl : Array (Option Value)} {kV doc pm cdv ct : Value} (X : K.In h) (G : h.Ns mainGlobals mg)
    (a : PySem.W.nsIn K mainGlobals x = some (some (.ref f))) (l : K.lookup f = some ⟨oc, od, .func (PySem.W.fnOf x x (defArgs st) (defBody st) (defScope st) .none kV doc pm an cdv ct), osl⟩)
    (c : PySem.W.codeIn K cdv x = true) (k : PySem.W.keepIn K (.ref f) = true)
    (hb : ∀ (kV doc pm : Value) (an : Option Addr) (cdv ct : Value) (us : List Value), us.length = ps.length → bindArgs (PySem.W.fnOf x x (defArgs st) (defBody st) (defScope st) .none kV doc pm an cdv ct) ⟨us, []⟩ = pure (ps.zip us)) : ∃ f fd, Lk K mg x st ps f fd :=
  ⟨f, _, fun_mk l c k, PySem.W.mg_of X G a, (fun_mk l c k).binds hb⟩
end L2
end
section
set_option Elab.async false
set_option linter.all false
set_option maxRecDepth 100000
namespace L2
open PySem PySem.Spec PyProof.Rows
def Itr3 (lo c : Int) (n : Nat) : It := ⟨fun i _ => i < n, fun i H x H' => H' = H ∧ x = .int (lo + i * c), fun i _ => n ≤ i⟩
section
variable {X : Cx} {tg : Expr}
def Rng3 (i j c : Int) (n : Nat) : Prop := c ≠ 0 ∧ c.natAbs < 1073741824 ∧ Builtin.Range.small i j c = true ∧ Builtin.Range.rangeSize i j c = (n : Int)
def iRng3 (ta : TA) : TI := fun σ H R => ta σ H fun vs H1 => ∃ (i j c : Int) (n : Nat), vs = [.int i, .int j, .int c] ∧ Rng3 i j c n ∧ R (Itr3 i c n) H1
def rngV (i c : Int) (n : Nat) : List V := (List.range n).map fun (k : Nat) => V.int (i + (k : Int) * c)
def tLR (ta : TA) : TE := fun σ H Q => ta σ H fun vs H1 => ∃ (i j c : Int) (n : Nat), vs = [.int i, .int j, .int c] ∧ Rng3 i j c n ∧ n ≤ sizeLine ∧ n ≤ 2 ^ 24 ∧ ∀ l, H1 l = none → Q (.ref l) (upd H1 l (.lst (rngV i c n)))
end
structure QE (X : Cx) (e : Expr) (t : TE) : Prop where
  p : PE X e t
structure QA (X : Cx) (es : List Expr) (t : TA) : Prop where
  p : PA X es t
structure QS (X : Cx) (s : Stmt) (t : TS) : Prop where
  p : PS X s t
structure QB (X : Cx) (b : List Stmt) (t : TS) : Prop where
  p : PSs X b t
section
variable {X : Cx}
theorem qa_nil : QA X [] tNil := ⟨pa_nil⟩
theorem qa_cn {e : Expr} {es : List Expr} {te : TE} {t : TA} (ha : QE X e te) (hr : QA X es t) (hs : isStar e = false := by rfl) : QA X (e :: es) (tCons te t) := ⟨pa_cn ha.p hr.p hs⟩
theorem qb_nil : QB X [] tNext := ⟨pss_nil⟩
theorem qb_one {s : Stmt} {t : TS} (h : QS X s t) : QB X [s] t := ⟨pss_one h.p⟩
theorem qb_cn {s : Stmt} {b : List Stmt} {t u : TS} (h : QS X s t) (r : QB X b u) : QB X (s :: b) (tSeq t u) := ⟨pss_cons h.p r.p⟩
end
end L2
end
section
set_option Elab.async false
set_option linter.all false
set_option maxRecDepth 100000
namespace L2
open PySem PyProof.Rows
structure QT (X : Cx) (e : Expr) (t : TT) : Prop where
  p : PT X e t
structure QW (X : Cx) (e : Expr) (t : TT) : Prop where
  p : PW X e t
structure QI (X : Cx) (g i : Expr) (t : TI) : Prop where
  p : PI X g i t
structure QG (X : Cx) (e : Expr) (t : TG) : Prop where
  p : PG X e t
structure QGs (X : Cx) (es : List Expr) (t : TGs) : Prop where
  p : PGs X es t
structure QTs (X : Cx) (es : List Expr) (t : TT) : Prop where
  p : PTs X es t
structure QO (X : Cx) (e : Option Expr) (t : TO) : Prop where
  p : PO X e t
structure QPs (X : Cx) (pos : Pos) (ks : List (Option Expr)) (vs : List Expr) (t : List (TE × TE)) : Prop where
  p : PPs X pos ks vs t
theorem qv : ∀ {X : Cx} (i : Nat) {x : Str} {pos : Pos},
  autoParam (X.N[i]? = some x) pv._auto_1 →
    autoParam (Vis X.env.scope x) pv._auto_2 →
      autoParam ((x == Str.ofString "__debug__") = false) pv._auto_3 →
        autoParam ((x == Str.ofString "__classdict__") = false) pv._auto_4 → QE X (Expr.Name x pos) (tVar i) := by
  intro X i x pos h0 h1 h2 h3
  exact ⟨pv i h0 h1 h2 h3⟩
theorem qe_int : ∀ {X : Cx} {i : Int} {j : Nat} {pos : Pos}, QE X (Expr.Constant (Const.int i) j pos) (tC (V.int i)) :=
  ⟨pe_int ⟩
theorem qe_bl : ∀ {X : Cx} {b : Bool} {j : Nat} {pos : Pos}, QE X (Expr.Constant (Const.bool b) j pos) (tC (V.bl b)) :=
  ⟨pe_bl ⟩
theorem qe_str : ∀ {X : Cx} {x : Str} {j : Nat} {pos : Pos}, QE X (Expr.Constant (Const.str x) j pos) (tC (V.str x)) :=
  ⟨pe_str ⟩
theorem qe_non : ∀ {X : Cx} {j : Nat} {pos : Pos}, QE X (Expr.Constant Const.none j pos) (tC V.non) :=
  ⟨pe_non ⟩
theorem qe_bltn : ∀ {X : Cx} {x : Str} {v : V} {u : Value} {pos : Pos},
  Gl X x →
    X.mg x = none →
      bootBuiltins x = some u →
        RelV v u →
          autoParam (x ≠ Str.ofString "__name__") pe_bltn._auto_1 →
            autoParam ((x == Str.ofString "__debug__") = false) pe_bltn._auto_2 → QE X (Expr.Name x pos) (tC v) :=
  fun h0 h1 h2 h3 h4 h5 => ⟨pe_bltn h0 h1 h2 h3 h4 h5⟩
theorem qe_op : ∀ {X : Cx} {a b : Expr} {ta tb : TE} {pos : Pos} {op : Operator} {r : R2},
  OpR X (binaryOp op) r → QE X a ta → QE X b tb → QE X (a.BinOp op b pos) (tOp r ta tb) :=
  fun h0 h1 h2 => ⟨pe_op h0 h1.p h2.p⟩
theorem qe_un : ∀ {X : Cx} {a : Expr} {ta : TE} {pos : Pos} {op : UnaryOp} {r : V → Hp → VK → Prop},
  UnR X (unaryOp op) r → QE X a ta → QE X (Expr.UnaryOp op a pos) (tUn r ta) :=
  fun h0 h1 => ⟨pe_un h0 h1.p⟩
theorem qe_not : ∀ {X : Cx} {a : Expr} {ta : TE} {pos : Pos}, QE X a ta → QE X (Expr.UnaryOp UnaryOp.Not a pos) (tNotV ta) :=
  fun h0 => ⟨pe_not h0.p⟩
theorem qe_and : ∀ {X : Cx} {a b : Expr} {ta tb : TE} {pos : Pos} {rest : List Expr},
  QE X a ta →
    QE X (Expr.BoolOp BoolOp.And (b :: rest) pos) tb → QE X (Expr.BoolOp BoolOp.And (a :: b :: rest) pos) (tAndV ta tb) :=
  fun h0 h1 => ⟨pe_and h0.p h1.p⟩
theorem qe_or : ∀ {X : Cx} {a b : Expr} {ta tb : TE} {pos : Pos} {rest : List Expr},
  QE X a ta →
    QE X (Expr.BoolOp BoolOp.Or (b :: rest) pos) tb → QE X (Expr.BoolOp BoolOp.Or (a :: b :: rest) pos) (tOrV ta tb) :=
  fun h0 h1 => ⟨pe_or h0.p h1.p⟩
theorem qe_one : ∀ {X : Cx} {a : Expr} {pos : Pos} {op : BoolOp} {t : TE}, QE X a t → QE X (Expr.BoolOp op [a] pos) t :=
  fun h0 => ⟨pe_one h0.p⟩
theorem qe_ifExp : ∀ {X : Cx} {a b : Expr} {ta tb : TE} {pos : Pos} {tA : TT} {c : Expr},
  QT X c tA → QE X a ta → QE X b tb → QE X (c.IfExp a b pos) (tIf tA ta tb) :=
  fun h0 h1 h2 => ⟨pe_ifExp h0.p h1.p h2.p⟩
theorem qe_slice : ∀ {X : Cx} {e : Expr} {te : TE} {lo hi : Option Expr} {tl th : TO} {pos p2 : Pos}
  {r : V → Option Int → Option Int → Hp → VK → Prop},
  SlR X r → QE X e te → QO X lo tl → QO X hi th → QE X (e.Subscript (Expr.Slice lo hi none p2) pos) (tSl r te tl th) :=
  fun h0 h1 h2 h3 => ⟨pe_slice h0 h1.p h2.p h3.p⟩
theorem qo_none : ∀ {X : Cx}, QO X none tNoPart :=
  ⟨po_none ⟩
theorem qo_some : ∀ {X : Cx} {e : Expr} {te : TE}, QE X e te → QO X (some e) (tPart te) :=
  fun h0 => ⟨po_some h0.p⟩
theorem qe_ix : ∀ {X : Cx} {a b : Expr} {ta tb : TE} {pos : Pos} {r : R2},
  IxR X r → QE X a ta → QE X b tb → PlainIx b → QE X (a.Subscript b pos) (tOp r ta tb) :=
  fun h0 h1 h2 h3 => ⟨pe_ix h0 h1.p h2.p h3⟩
theorem qe_lst : ∀ {X : Cx} {es : List Expr} {t : TA} {pos : Pos}, QA X es t → QE X (Expr.List es pos) (tLst t) :=
  fun h0 => ⟨pe_lst h0.p⟩
theorem qe_tup : ∀ {X : Cx} {es : List Expr} {t : TA} {pos : Pos} {x1 : Nat}, QA X es t → QE X (Expr.Tuple es x1 pos) (tTup t) :=
  fun h0 => ⟨pe_tup h0.p⟩
theorem qe_callee : ∀ {X : Cx} {k : Nat} {ps : List Str} {sp : Sp} {x : Str} {p pos : Pos} {e : Expr} {es : List Expr}
  {t : TA},
  Callee X.prog X.w X.K X.mg X.base x ps k sp →
    Room k X.A →
      Gl X x →
        QA X (e :: es) t →
          autoParam ((x == Str.ofString "__debug__") = false) pe_callee._auto_1 →
            autoParam (starEach (e :: es) X.env = (false, eval e X.env) :: starEach es X.env) pe_callee._auto_2 →
              autoParam (((backTo pos (starEach es X.env)).any fun (x : Bool × Sem Value) => x.fst) = false)
                  pe_callee._auto_3 →
                QE X ((Expr.Name x p).Call (e :: es) [] pos) (tCall sp [] E0 t) :=
  fun h0 h1 h2 h3 h4 h5 h6 => ⟨pe_callee h0 h1 h2 h3.p h4 h5 h6⟩
theorem qe_callTy : ∀ {X : Cx} {x : Str} {p pos : Pos} {e : Expr} {es : List Expr} {t : TA} {T : String}
  {r : List V → Hp → VK → Prop},
  CallR X (Value.type T) r →
    Gl X x →
      X.mg x = none →
        bootBuiltins x = some (Value.type T) →
          QA X (e :: es) t →
            autoParam (x ≠ Str.ofString "__name__") pe_callTy._auto_1 →
              autoParam ((x == Str.ofString "__debug__") = false) pe_callTy._auto_2 →
                autoParam (starEach (e :: es) X.env = (false, eval e X.env) :: starEach es X.env) pe_callTy._auto_3 →
                  autoParam (((backTo pos (starEach es X.env)).any fun (x : Bool × Sem Value) => x.fst) = false)
                      pe_callTy._auto_4 →
                    QE X ((Expr.Name x p).Call (e :: es) [] pos) (tCB r t) :=
  fun h0 h1 h2 h3 h4 h5 h6 h7 h8 => ⟨pe_callTy h0 h1 h2 h3 h4.p h5 h6 h7 h8⟩
theorem qe_callB : ∀ {X : Cx} {x : Str} {p pos : Pos} {e : Expr} {es : List Expr} {t : TA} {id : String}
  {r : List V → Hp → VK → Prop},
  CallR X (Value.builtin id) r →
    Gl X x →
      X.mg x = none →
        bootBuiltins x = some (Value.builtin id) →
          QA X (e :: es) t →
            autoParam (x ≠ Str.ofString "__name__") pe_callB._auto_1 →
              autoParam ((x == Str.ofString "__debug__") = false) pe_callB._auto_2 →
                autoParam (starEach (e :: es) X.env = (false, eval e X.env) :: starEach es X.env) pe_callB._auto_3 →
                  autoParam (((backTo pos (starEach es X.env)).any fun (x : Bool × Sem Value) => x.fst) = false)
                      pe_callB._auto_4 →
                    QE X ((Expr.Name x p).Call (e :: es) [] pos) (tCB r t) :=
  fun h0 h1 h2 h3 h4 h5 h6 h7 h8 => ⟨pe_callB h0 h1 h2 h3 h4.p h5 h6 h7 h8⟩
theorem qe_bm : ∀ {X : Cx} {o e : Expr} {es : List Expr} {to : TE} {t : TA} {name : Str} {apos cpos : Pos} {T id : String}
  {r : V → List V → Hp → VK → Prop},
  PlainAttrs T →
    Slot T name id →
      typeOf (Value.builtin id) = pure (Value.type "method_descriptor") →
        MtR X id r →
          QE X o to →
            QA X (e :: es) t →
              autoParam (attributeBase o name X.env (eval o X.env) = eval o X.env) pe_bm._auto_1 →
                autoParam
                    (((((backTo cpos (starEach (e :: es) X.env)).all fun (x : Bool × Sem Value) => !x.fst) &&
                          (backToKw cpos (keywordEach [] X.env)).all fun (x : Option Str × Sem Value) =>
                            x.fst.isSome) &&
                        decide (((e :: es).length + ([] : List Keyword).length + if ([] : List Keyword).isEmpty = true then 0 else 1) < 30)) =
                      true)
                    pe_bm._auto_2 →
                  autoParam ((apos.endLine == cpos.line) = true) pe_bm._auto_3 →
                    autoParam (starEach (e :: es) X.env = (false, eval e X.env) :: starEach es X.env) pe_bm._auto_4 →
                      autoParam (((backTo cpos (starEach es X.env)).any fun (x : Bool × Sem Value) => x.fst) = false)
                          pe_bm._auto_5 →
                        QE X ((o.Attribute name apos).Call (e :: es) [] cpos) (tBM X.K T r to t) :=
  fun h0 h1 h2 h3 h4 h5 h6 h7 h8 h9 h10 => ⟨pe_bm h0 h1 h2 h3 h4.p h5.p h6 h7 h8 h9 h10⟩
theorem qe_comp : ∀ {X : Cx} {elt tg iter : Expr} {ifs : List Expr} {scope : Scope} {pos : Pos} {wi : TI} {g : TG} {tc : TT}
  {te : TE} (own fr : List Str) (js : List Nat) (NX : List Str) (sn : List (Str × NameKind)),
  X.calm = true →
    QI X tg iter wi →
      (∀ (cl : List (Str × Addr)) (C : Addr) (s : Shared) (H : Hp) (fp : List Addr),
          QG (cxComp X scope cl C (own ++ fr) s H fp) tg g) →
        (∀ (cl : List (Str × Addr)) (C : Addr) (s : Shared) (H : Hp) (fp : List Addr),
            QTs (cxComp X scope cl C (own ++ fr) s H fp) ifs tc) →
          (∀ (cl : List (Str × Addr)) (C : Addr) (s : Shared) (H : Hp) (fp : List Addr),
              QE (cxComp X scope cl C (own ++ fr) s H fp) elt te) →
            autoParam (X.N = NX) pe_comp._auto_1 →
              autoParam (X.env.scope.names = sn) pe_comp._auto_2 →
                autoParam (scope.kind = ScopeKind.function) pe_comp._auto_3 →
                  autoParam (capOk NX sn scope.names fr js = true) pe_comp._auto_4 →
                    autoParam (scOk sn scope.names = true) pe_comp._auto_5 →
                      autoParam (∀ (x : Value), foldedSetIterable iter X.env x = pure x) pe_comp._auto_6 →
                        QE X (elt.ListComp [{ target := tg, iter := iter, ifs := ifs, is_async := 0 }] scope pos)
                          (tComp wi g tc te own.length js) :=
  fun own fr js NX sn h0 h1 h2 h3 h4 h5 h6 h7 h8 h9 h10 => ⟨pe_comp own fr js NX sn h0 h1.p (fun a b c d e => (h2 a b c d e).p) (fun a b c d e => (h3 a b c d e).p) (fun a b c d e => (h4 a b c d e).p) h5 h6 h7 h8 h9 h10⟩
theorem qe_cmpR : ∀ {X : Cx} {a b : Expr} {ta tb : TE} {pos : Pos} {op : CmpOp} {r : R2},
  OpR X (compareOp op) r →
    QE X a ta → QE X b tb → behindInMarks op b = false → QE X (a.Compare [op] [b] pos) (tOp r ta tb) :=
  fun h0 h1 h2 h3 => ⟨pe_cmpR h0 h1.p h2.p h3⟩
theorem qt_cmpR : ∀ {X : Cx} {a b : Expr} {ta tb : TE} {pos : Pos} {op : CmpOp} {r : R2},
  OpR X (compareOp op) r →
    QE X a ta → QE X b tb → behindInMarks op b = false → QT X (a.Compare [op] [b] pos) (tTest (tOp r ta tb)) :=
  fun h0 h1 h2 h3 => ⟨pt_cmpR h0 h1.p h2.p h3⟩
theorem qt_not : ∀ {X : Cx} {a : Expr} {pos : Pos} {tA : TT}, QT X a tA → QT X (Expr.UnaryOp UnaryOp.Not a pos) (tNot tA) :=
  fun h0 => ⟨pt_not h0.p⟩
theorem qt_val : ∀ {X : Cx} {e : Expr} {t : TE},
  QE X e t →
    autoParam
        (∀ (whole : Sem Value),
          PySem.isTrue e X.env whole = do
            let v ← whole
            standAt e.pos
            holding [v] (truthy v))
        pt_val._auto_1 →
      QT X e (tB t) :=
  fun h0 h1 => ⟨pt_val h0.p h1⟩
theorem qw_pt : ∀ {X : Cx} {e : Expr} {t : TT}, QW X e t → QT X e t :=
  fun h0 => ⟨PW.pt h0.p⟩
theorem qw_and : ∀ {X : Cx} {a b : Expr} {pos : Pos} {tA tB' : TT} {rest : List Expr},
  QT X a tA →
    QW X (Expr.BoolOp BoolOp.And (b :: rest) pos) tB' → QW X (Expr.BoolOp BoolOp.And (a :: b :: rest) pos) (tAnd tA tB') :=
  fun h0 h1 => ⟨pw_and h0.p h1.p⟩
theorem qw_or : ∀ {X : Cx} {a b : Expr} {pos : Pos} {tA tB' : TT} {rest : List Expr},
  QT X a tA →
    QW X (Expr.BoolOp BoolOp.Or (b :: rest) pos) tB' → QW X (Expr.BoolOp BoolOp.Or (a :: b :: rest) pos) (tOr tA tB') :=
  fun h0 h1 => ⟨pw_or h0.p h1.p⟩
theorem qw_and1 : ∀ {X : Cx} {a : Expr} {pos : Pos} {tA : TT}, QT X a tA → QW X (Expr.BoolOp BoolOp.And [a] pos) tA :=
  fun h0 => ⟨pw_and1 h0.p⟩
theorem qw_or1 : ∀ {X : Cx} {a : Expr} {pos : Pos} {tA : TT}, QT X a tA → QW X (Expr.BoolOp BoolOp.Or [a] pos) tA :=
  fun h0 => ⟨pw_or1 h0.p⟩
theorem qi_list : ∀ {X : Cx} {tg l : Expr} {tl : TE}, QE X l tl → QI X tg l (iList X.K tl) :=
  fun h0 => ⟨pi_list h0.p⟩
theorem qi_tup : ∀ {X : Cx} {tg l : Expr} {tl : TE}, QE X l tl → QI X tg l (iTup X.K tl) :=
  fun h0 => ⟨pi_tup h0.p⟩
theorem qi_range1 : ∀ {X : Cx} {tg a : Expr} {ta : TA} {p pos : Pos},
  Gl X (Str.ofString "range") →
    X.mg (Str.ofString "range") = none →
      QA X [a] ta →
        autoParam (starEach [a] X.env = [(false, eval a X.env)]) pi_range1._auto_1 →
          QI X tg ((Expr.Name (Str.ofString "range") p).Call [a] [] pos) (iRng1 ta) :=
  fun h0 h1 h2 h3 => ⟨pi_range1 h0 h1 h2.p h3⟩
theorem qg_name : ∀ {X : Cx} {pos : Pos} {i : Nat} {x : Str},
  X.N.Nodup →
    X.N[i]? = some x →
      Loc X.env.scope x →
        autoParam (X.fn x = true ∨ List.lookup x X.env.scope.names = some NameKind.local) pg_name._auto_1 →
          QG X (Expr.Name x pos) (gName i) :=
  fun h0 h1 h2 h3 => ⟨pg_name h0 h1 h2 h3⟩
theorem qg_tup : ∀ {X : Cx} {pos : Pos} {es : List Expr} {k : Nat} {t : TGs} {n : Nat},
  X.calm = true →
    QGs X es t →
      autoParam ((assignEach es X.env).length = n) pg_tup._auto_1 →
        autoParam (List.findIdx? (fun (x : Bool × (Value → Sem Unit)) => x.fst) (assignEach es X.env) = none)
            pg_tup._auto_2 →
          QG X (Expr.Tuple es k pos) (gTup X.K n t) :=
  fun h0 h1 h2 h3 => ⟨pg_tup h0 h1.p h2 h3⟩
theorem qgs_nil : ∀ {X : Cx}, QGs X [] gNil :=
  ⟨pgs_nil ⟩
theorem qgs_cons : ∀ {X : Cx} {e : Expr} {es : List Expr} {t : TG} {u : TGs},
  QG X e t →
    QGs X es u →
      autoParam
          (List.map (fun (x : Bool × (Value → Sem Unit)) => x.snd) (assignEach (e :: es) X.env) =
            assign e X.env :: List.map (fun (x : Bool × (Value → Sem Unit)) => x.snd) (assignEach es X.env))
          pgs_cons._auto_1 →
        QGs X (e :: es) (gCons t u) :=
  fun h0 h1 h2 => ⟨pgs_cons h0.p h1.p h2⟩
theorem qts_nil : ∀ {X : Cx}, QTs X [] tAlways :=
  ⟨pts_nil ⟩
theorem qts_one : ∀ {X : Cx} {c : Expr} {t : TT}, QT X c t → QTs X [c] t :=
  fun h0 => ⟨pts_one h0.p⟩
theorem qs_ret : ∀ {X : Cx} {e : Expr} {te : TE} {pos : Pos}, QE X e te → QS X (Stmt.Return (some e) pos) (tRet te) :=
  fun h0 => ⟨ps_ret h0.p⟩
theorem qs_set : ∀ {X : Cx} {pos : Pos} {i : Nat} {x : Str} {e : Expr} {te : TE} {pos' : Pos},
  X.N.Nodup →
    X.N[i]? = some x →
      Loc X.env.scope x →
        QE X e te →
          autoParam (swapsWith e (some (Expr.Name x pos')) pos.line X.env = pure false) ps_set._auto_1 →
            autoParam (X.fn x = true ∨ List.lookup x X.env.scope.names = some NameKind.local) ps_set._auto_2 →
              QS X (Stmt.Assign [Expr.Name x pos'] e pos) (tAsg te (gName i)) :=
  fun h0 h1 h2 h3 h4 h5 => ⟨ps_set h0 h1 h2 h3.p h4 h5⟩
theorem qs_asg : ∀ {X : Cx} {pos : Pos} {tg e : Expr} {te : TE} {g : TG},
  QE X e te →
    QG X tg g →
      autoParam (swapsWithSole [tg] e pos.line X.env = pure false) ps_asg._auto_1 →
        autoParam (swappedStores [tg] e X.env = pure none) ps_asg._auto_2 →
          autoParam
              (List.map (fun (x : Bool × (Value → Sem Unit)) => x.snd) (assignEach [tg] X.env) = [assign tg X.env])
              ps_asg._auto_3 →
            QS X (Stmt.Assign [tg] e pos) (tAsg te g) :=
  fun h0 h1 h2 h3 h4 => ⟨ps_asg h0.p h1.p h2 h3 h4⟩
theorem qg_sub : ∀ {X : Cx} {pos : Pos} {o i : Expr} {to ti : TE} {t : TSet},
  QE X o to →
    QE X i ti →
      PSet X t →
        autoParam
            (∀ (v : Value),
              assign (o.Subscript i pos) X.env v = do
                let ov ← holding [v] (eval o X.env)
                let iv ← holding [v, ov] (eval i X.env)
                standAt pos
                holding [v, ov, iv] (setItem ov iv v)
                release [v, ov, iv] [])
            pg_sub._auto_1 →
          QG X (o.Subscript i pos) (gSub to ti t) :=
  fun h0 h1 h2 h3 => ⟨pg_sub h0.p h1.p h2 h3⟩
theorem qs_augS : ∀ {X : Cx} {pos : Pos} {o i e : Expr} {to ti te : TE} {tget : V → V → Hp → VK → Prop} {tip : TIp}
  {tset : TSet} {op : Operator} {tpos : Pos},
  QE X o to →
    QE X i ti →
      PGet X tget →
        QE X e te →
          PIp X op tip →
            PSet X tset →
              autoParam
                  (∀ (ov iv new : Value),
                    augStore i ov iv new = do
                      holding [new, ov, iv] (setItem ov iv new)
                      release [new, ov, iv] []
                      pure Flow.next)
                  ps_augS._auto_1 →
                QS X (Stmt.AugAssign (o.Subscript i tpos) op e pos) (tAugS to ti te tget tip tset) :=
  fun h0 h1 h2 h3 h4 h5 h6 => ⟨ps_augS h0.p h1.p h2 h3.p h4 h5 h6⟩
theorem qs_if : ∀ {X : Cx} {t u : TS} {pos : Pos} {c : Expr} {a b : List Stmt} {tc : TT},
  QT X c tc → QB X a t → QB X b u → QS X (Stmt.If c a b pos) (tIfS tc t u) :=
  fun h0 h1 h2 => ⟨ps_if h0.p h1.p h2.p⟩
theorem qs_for : ∀ {X : Cx} {tg iter : Expr} {body : List Stmt} {wi : TI} {g : TG} {tb : TS} {pos : Pos},
  PassesOwn (model X.prog X.w) X.A X.env X.xe →
    X.calm = true →
      QI X tg iter wi →
        QG X tg g →
          QB X body tb →
            autoParam (∀ (x : Value), foldedSetIterable iter X.env x = pure x) ps_for._auto_1 →
              QS X (Stmt.For tg iter body [] pos) (tFor wi g tb) :=
  fun h0 h1 h2 h3 h4 h5 => ⟨ps_for h0 h1 h2.p h3.p h4.p h5⟩
theorem qs_expr : ∀ {X : Cx} {e : Expr} {te : TE} {pos : Pos},
  QE X e te →
    autoParam (swapsWith e none pos.line X.env = pure false) ps_expr._auto_1 → QS X (Stmt.Expr e pos) (tDrop te) :=
  fun h0 h1 => ⟨ps_expr h0.p h1⟩
theorem qs_comp : ∀ {X : Cx} {i : Nat} {y : Str} {py spos : Pos} {elt tg iter : Expr} {ifs : List Expr} {scope : Scope}
  {pos : Pos} {wi : TI} {g : TG} {tc : TT} {te : TE} (own fr : List Str) (js : List Nat) (NX : List Str)
  (sn : List (Str × NameKind)),
  X.calm = true →
    X.N.Nodup →
      X.N[i]? = some y →
        Loc X.env.scope y →
          QI X tg iter wi →
            (∀ (cl : List (Str × Addr)) (C : Addr) (s : Shared) (H : Hp) (fp : List Addr),
                QG (cxComp X scope cl C (own ++ fr) s H fp) tg g) →
              (∀ (cl : List (Str × Addr)) (C : Addr) (s : Shared) (H : Hp) (fp : List Addr),
                  QTs (cxComp X scope cl C (own ++ fr) s H fp) ifs tc) →
                (∀ (cl : List (Str × Addr)) (C : Addr) (s : Shared) (H : Hp) (fp : List Addr),
                    QE (cxComp X scope cl C (own ++ fr) s H fp) elt te) →
                  autoParam
                      (swapsWith (elt.ListComp [{ target := tg, iter := iter, ifs := ifs, is_async := 0 }] scope pos)
                          (some (Expr.Name y py)) spos.line X.env =
                        pure true)
                      ps_comp._auto_1 →
                    autoParam (X.N = NX) ps_comp._auto_2 →
                      autoParam (X.env.scope.names = sn) ps_comp._auto_3 →
                        autoParam (scope.kind = ScopeKind.function) ps_comp._auto_4 →
                          autoParam (capOk NX sn scope.names fr js = true) ps_comp._auto_5 →
                            autoParam (scOk sn scope.names = true) ps_comp._auto_6 →
                              autoParam (∀ (x : Value), foldedSetIterable iter X.env x = pure x) ps_comp._auto_7 →
                                autoParam (X.fn y = true ∨ List.lookup y X.env.scope.names = some NameKind.local)
                                    ps_comp._auto_8 →
                                  QS X
                                    (Stmt.Assign [Expr.Name y py]
                                      (elt.ListComp [{ target := tg, iter := iter, ifs := ifs, is_async := 0 }] scope
                                        pos)
                                      spos)
                                    (tAsg (tComp wi g tc te own.length js) (gName i)) :=
  fun own fr js NX sn h0 h1 h2 h3 h4 h5 h6 h7 h8 h9 h10 h11 h12 h13 h14 h15 => ⟨ps_comp own fr js NX sn h0 h1 h2 h3 h4.p (fun a b c d e => (h5 a b c d e).p) (fun a b c d e => (h6 a b c d e).p) (fun a b c d e => (h7 a b c d e).p) h8 h9 h10 h11 h12 h13 h14 h15⟩
end L2
end
section
set_option Elab.async false
set_option linter.all false
set_option maxRecDepth 100000
namespace L2
open PySem PySem.Spec PyProof.Rows
section
variable {prog : Program} {w : World} {A : Around} {R : Result → Shared → Prop} {it0 : Addr} {fp wr : List Addr} {n : Nat} {P : Nat → Value → Prop} {St : Nat → Heap → Prop} {kw : List (Str × Value)}
end
section
variable {prog : Program} {w : World} {A : Around} {E : Value → Shared → Prop} {s : Shared}
end
section
variable {prog : Program} {w : World} {A : Around} {R : Result → Shared → Prop} {it0 : Addr} {fp wr : List Addr} {n : Nat} {P : Nat → Value → Prop} {St : Nat → Heap → Prop} {kw : List (Str × Value)}
end
section
variable {prog : Program} {w : World} {A : Around} {E : Value → Shared → Prop} {s : Shared}
end
section
variable {X : Cx} {e ed : Expr} {ta : TA} {td : TE} {p pos kp : Pos}
def tminD (K : PySem.W.Frag) (ta : TA) (td : TE) : TE := fun σ H Q => ta σ H fun vs H1 => td σ H1 fun y H2 => ∃ (a : Addr) (ns : List Int) (d : Int), vs = [.ref a] ∧ y = .int d ∧ SqL K H2 a (ns.map V.int) ∧ (ns = [] → Q (.int d) H2) ∧ (ns ≠ [] → ∀ M, M ∈ ns → (∀ z ∈ ns, M ≤ z) → Q (.int M) H2)
end
section
variable {X : Cx} {e ed : Expr} {ta : TA} {td : TE} {p pos kp : Pos}
def tmaxD (K : PySem.W.Frag) (ta : TA) (td : TE) : TE := fun σ H Q => ta σ H fun vs H1 => td σ H1 fun y H2 => ∃ (a : Addr) (ns : List Int) (d : Int), vs = [.ref a] ∧ y = .int d ∧ SqL K H2 a (ns.map V.int) ∧ (ns = [] → Q (.int d) H2) ∧ (ns ≠ [] → ∀ M, M ∈ ns → (∀ z ∈ ns, z ≤ M) → Q (.int M) H2)
end
section
variable {X : Cx} {e es : Expr} {te ts : TE} {p2 pos : Pos}
def tRev (K : PySem.W.Frag) (te ts : TE) : TE := fun σ H Q => te σ H fun x H1 => ts σ H1 fun y H2 => y = .int (-1) ∧ ∃ (a : Addr) (xs : List V), x = .ref a ∧ SqL K H2 a xs ∧ ∀ q, H2 q = none → Q (.ref q) (upd H2 q (.lst xs.reverse))
end
def plainV : V → Bool
  | .non => true
  | .bl _ => true
  | .int _ => true
  | .str _ => true
  | .ref _ => true
  | _ => false
section
variable {X : Cx}
def rNeSelf (K : PySem.W.Frag) : R2 := fun x y H Q => ∃ (a b : Addr) (xs : List V), x = .ref a ∧ y = .ref b ∧ SqL K H a xs ∧ SqL K H b xs ∧ xs.all plainV = true ∧ Q (.bl false) H
end
section
variable {X : Cx} {e ed es : Expr} {ta : TA} {td te ts : TE} {p p2 pos kp : Pos}
end
end L2
end
section
set_option Elab.async false
set_option linter.all false
set_option maxRecDepth 100000
namespace L2
open PySem PySem.Spec PyProof.Rows
section
variable {X : Cx} {tg l e : Expr} {tl te : TE} {a b : Str} {j1 j2 : Nat} {p1 p2 p3 pos : Pos}
def tNo : TS := fun _ _ _ => False
theorem qs_never {s : Stmt} : QS X s tNo := ⟨fun _ _ _ _ _ _ h => h.elim⟩
def iSeq (K : PySem.W.Frag) (tl : TE) : TI := fun σ H R => tl σ H fun x H1 => ∃ a, x = .ref a ∧ ((∃ xs, SqL K H1 a xs) ∧ R (Itl K a) H1 ∨ (∃ xs, SqT K H1 a xs) ∧ R (Itt K a) H1)
def tF3 (a b : Str) (te : TE) : TE := fun σ H Q => te σ H fun x H1 => ∃ z : Str, x = .str z ∧ a.length + z.length + b.length ≤ sizeLine ∧ Q (.str (a ++ z ++ b)) H1
end
end L2
end
section
set_option Elab.async false
set_option linter.all false
set_option maxRecDepth 100000
namespace L2
open PySem PySem.Spec PyProof.Rows
structure MCallee (P : Program) (w : World) (K : PySem.W.Frag) (mg : Str → Option Value) (base : Heap) (C : Addr) (m : Str) (ps : List Str) (k : Nat) (sp : Sp) : Prop where
  ex : ∃ (f : Addr) (fd : FuncData), FnOk P w K mg base CX0 k f fd ps sp ∧ Meth K C m f ∧ Binds K fd ps []
structure MkC (P : Program) (w : World) (K : PySem.W.Frag) (mg : Str → Option Value) (base : Heap) (x : Str) (C : Addr) (ps : List Str) (k : Nat) (sp : Sp) : Prop where
  ex : ∃ (f : Addr) (fd : FuncData), Mk K C f ∧ FnOk P w K mg base CX0 k f fd ps sp ∧ mg x = some (.ref C) ∧ Binds K fd ps []
section
variable {X : Cx} {C : Addr} {m x f : Str} {ps : List Str} {k : Nat} {sp : Sp} {o e v : Expr} {es : List Expr} {ta tv : TE} {t : TA} {apos pos p tpos : Pos}
end
def S (l : List Nat) : Str := ⟨l.toArray⟩
end L2
end
section
set_option Elab.async false
set_option linter.all false
set_option maxRecDepth 100000
namespace L2
open PySem PySem.Spec PyProof.Rows
section
variable {prog : Program} {w : World} {A : Around} {E : Value → Shared → Prop} {s : Shared}
end
section
variable {X : Cx} {pos : Pos}
def gTupL (K : PySem.W.Frag) (n : Nat) (t : TGs) : TG := fun v σ H Q => ∃ a xs, v = .ref a ∧ SqL K H a xs ∧ xs.length = n ∧ t xs σ H Q
end
end L2
end
section
set_option Elab.async false
set_option linter.all false
set_option maxRecDepth 100000
namespace L2
open PySem PySem.Spec PyProof.Rows
section
variable {X : Cx} {pins : List (Addr × Obj)} {σ : St} {H : Hp} {s : Shared}
end
end L2
end
section
set_option Elab.async false
set_option linter.all false
set_option maxRecDepth 100000
namespace L2
open PySem PySem.Spec PyProof.Rows
section
variable {X : Cx}
def rNeT (K : PySem.W.Frag) : R2 := fun x y H Q => ∃ (a b : Addr) (xs ys : List V), x = .ref a ∧ y = .ref b ∧ SqT K H a xs ∧ SqT K H b ys ∧ xs.length = ys.length ∧ xs.all flatV = true ∧ ys.all flatV = true ∧ Q (.bl (!eqL xs ys)) H
def rEqSelf (K : PySem.W.Frag) : R2 := fun x y H Q => ∃ (a b : Addr) (xs : List V), x = .ref a ∧ y = .ref b ∧ SqL K H a xs ∧ SqL K H b xs ∧ xs.all plainV = true ∧ Q (.bl true) H
def rNeN (K : PySem.W.Frag) : R2 := fun x y H Q => ∃ (a b : Addr) (xs : List V), x = .ref a ∧ y = .ref b ∧ SqL K H a xs ∧ SqL K H b [] ∧ Q (.bl (!xs.isEmpty)) H
end
end L2
end
section
set_option Elab.async false
set_option linter.all false
set_option maxRecDepth 100000
namespace L2
open PySem PySem.Spec PyProof.Rows
def Rise (xs : Array Nat) : Prop := xs.toList.Pairwise (· < ·)
theorem Rise.lt {xs : Array Nat} (r : Rise xs) {i j a b : Nat} (hij : i < j) (ha : xs[i]? = some a) (hb : xs[j]? = some b) : a < b := by
  rw [← Array.getElem?_toList] at ha hb
  obtain ⟨h1, rfl⟩ := List.getElem?_eq_some_iff.mp ha
  obtain ⟨h2, rfl⟩ := List.getElem?_eq_some_iff.mp hb
  exact (List.pairwise_iff_getElem.mp r) i j h1 h2 hij
structure Parts (xs : Array Nat) (j r : Nat) : Prop where
  le : r ≤ xs.size
  lo : ∀ i a, i < r → xs[i]? = some a → a < j
  hi : ∀ i a, r ≤ i → xs[i]? = some a → j ≤ a
theorem parts_go {xs : Array Nat} (R : Rise xs) (j : Nat) : ∀ (fuel lo hi : Nat), hi - lo ≤ fuel → lo ≤ hi → hi ≤ xs.size → (∀ i a, i < lo → xs[i]? = some a → a < j) → (∀ i a, hi ≤ i → xs[i]? = some a → j ≤ a) → Parts xs j (SetTable.below.go xs j fuel lo hi) := by
  intro fuel
  induction fuel with
  | zero =>
    intro lo hi f l z a b
    have e : lo = hi := by omega
    subst e
    exact ⟨z, a, b⟩
  | succ fuel ih =>
    intro lo hi f l z a b
    unfold SetTable.below.go
    by_cases q : lo < hi
    · rw [if_pos q]
      have hm : (lo + hi) / 2 < xs.size := by omega
      have em : xs[(lo + hi) / 2]? = some xs[(lo + hi) / 2] := Array.getElem?_eq_getElem hm
      have ed : xs.getD ((lo + hi) / 2) j = xs[(lo + hi) / 2] := by rw [Array.getD_eq_getD_getElem?, em]; rfl
      show Parts xs j (if xs.getD ((lo + hi) / 2) j < j then SetTable.below.go xs j fuel ((lo + hi) / 2 + 1) hi else SetTable.below.go xs j fuel lo ((lo + hi) / 2))
      rw [ed]
      by_cases c : xs[(lo + hi) / 2] < j
      · rw [if_pos c]
        refine ih _ _ (by omega) (by omega) z (fun i x hx e => ?_) b
        rcases Nat.lt_or_ge i ((lo + hi) / 2) with k | k
        · exact Nat.lt_trans (R.lt k e em) c
        · have : i = (lo + hi) / 2 := by omega
          subst this
          rw [em] at e
          cases e
          exact c
      · rw [if_neg c]
        refine ih _ _ (by omega) (by omega) (by omega) a (fun i x hx e => ?_)
        rcases Nat.lt_or_ge ((lo + hi) / 2) i with k | k
        · have := R.lt k em e
          omega
        · have : i = (lo + hi) / 2 := by omega
          subst this
          rw [em] at e
          cases e
          omega
    · rw [if_neg q]
      have e : lo = hi := by omega
      subst e
      exact ⟨z, a, b⟩
theorem parts_below {xs : Array Nat} (R : Rise xs) (j : Nat) : Parts xs j (SetTable.below xs j) :=
  parts_go R j _ _ _ (by omega) (Nat.zero_le _) (Nat.le_refl _) (fun i _ h => by omega) (fun i a h e => by
    have := (Array.getElem?_eq_some_iff.mp e).1
    omega)
theorem Rise.insert {xs : Array Nat} (R : Rise xs) {j : Nat} (n : xs[SetTable.below xs j]? ≠ some j) : Rise (SetTable.insertAt xs (SetTable.below xs j) j) := by
  have B := parts_below R j
  unfold Rise
  rw [SetTable.toList_insertAt]
  have hlo : ∀ a ∈ xs.toList.take (SetTable.below xs j), a < j := fun a m => by
    obtain ⟨i, hi, e⟩ := List.mem_take_iff_getElem.mp m
    refine B.lo i a (by omega) ?_
    rw [← Array.getElem?_toList, List.getElem?_eq_getElem (by omega), e]
  have hhi : ∀ a ∈ xs.toList.drop (SetTable.below xs j), j < a := fun a m => by
    obtain ⟨i, hi, e⟩ := List.mem_drop_iff_getElem.mp m
    have hi' : SetTable.below xs j + i < xs.toList.length := by omega
    have e1 : xs[SetTable.below xs j + i]? = some a := by
      rw [← Array.getElem?_toList, List.getElem?_eq_getElem hi', ← e]
    have l1 := B.hi _ a (by omega) e1
    rcases Nat.lt_or_ge j a with k | k
    · exact k
    have e2 : a = j := by omega
    subst e2
    cases i with
    | zero => exact absurd e1 n
    | succ i =>
      have hz : SetTable.below xs a < xs.size := by
        have : SetTable.below xs a + (i + 1) < xs.size := by simpa using hi'
        omega
      have e3 : xs[SetTable.below xs a]? = some xs[SetTable.below xs a] := Array.getElem?_eq_getElem hz
      have l2 := B.hi _ _ (Nat.le_refl _) e3
      have l3 := R.lt (i := SetTable.below xs a) (j := SetTable.below xs a + (i + 1)) (by omega) e3 e1
      omega
  refine List.pairwise_append.mpr ⟨List.Pairwise.sublist (List.take_sublist _ _) R, List.pairwise_cons.mpr ⟨hhi, List.Pairwise.sublist (List.drop_sublist _ _) R⟩, fun a ma b mb => ?_⟩
  rcases List.mem_cons.mp mb with rfl | mb
  · exact hlo a ma
  · exact Nat.lt_trans (hlo a ma) (hhi b mb)
def slotAt (xs : Array Nat) : Nat → Nat
  | 0 => 0
  | i + 1 => xs.getD i 0 + 1
theorem below_at {xs : Array Nat} (R : Rise xs) {i : Nat} (h : i ≤ xs.size) : SetTable.below xs (slotAt xs i) = i := by
  have B := parts_below R (slotAt xs i)
  cases i with
  | zero =>
    rcases Nat.eq_zero_or_pos (SetTable.below xs (slotAt xs 0)) with k | k
    · exact k
    have hz : 0 < xs.size := by have := B.le; omega
    have e : xs[0]? = some (xs[0]'hz) := Array.getElem?_eq_getElem hz
    have := B.lo 0 _ k e
    exact absurd this (Nat.not_lt_zero _)
  | succ i =>
    have e : xs[i]? = some xs[i] := Array.getElem?_eq_getElem (by omega)
    have d : slotAt xs (i + 1) = xs[i] + 1 := by show xs.getD i 0 + 1 = _; rw [Array.getD_eq_getD_getElem?, e]; rfl
    rw [d] at B ⊢
    have l1 : i < SetTable.below xs (xs[i] + 1) := by
      rcases Nat.lt_or_ge i (SetTable.below xs (xs[i] + 1)) with k | k
      · exact k
      have := B.hi i _ k e
      omega
    rcases Nat.lt_or_ge (i + 1) (SetTable.below xs (xs[i] + 1)) with k | k
    · have hz : i + 1 < xs.size := by have := B.le; omega
      have e2 : xs[i + 1]? = some xs[i + 1] := Array.getElem?_eq_getElem hz
      have l2 := B.lo _ _ k e2
      have l3 := R.lt (Nat.lt_succ_self i) e e2
      omega
    · omega
def NoPlace (t : SetTable) (j : Nat) : Prop := t.place[SetTable.below t.place j]? ≠ some j
theorem noPlace_of {t : SetTable} {j : Nat} (h : ∀ i, t.slot j ≠ .live i) : NoPlace t j := fun e => by
  refine h (SetTable.below t.place j) ?_
  unfold SetTable.slot
  show (if (t.place[SetTable.below t.place j]? == some j) = true then _ else _) = _
  rw [e]
  simp
theorem probe_free {t : SetTable} {f : Nat → Int} {h : Int} : ∀ (fuel : Nat) (p : SetTable.Probe) {j : Nat} {d : Option Nat}, (∀ x, p.dummy = some x → NoPlace t x) → SetTable.probe.go t f h fuel p = some (.empty j d) → NoPlace t (d.getD j) := by
  intro fuel
  induction fuel with
  | zero => intro p j d _ e; cases e
  | succ fuel ih =>
    intro p j d hp e
    unfold SetTable.probe.go at e
    cases q : t.slot p.j with
    | empty =>
      rw [q] at e
      cases e
      cases w : p.dummy with
      | none => exact noPlace_of fun i => by rw [show (none : Option Nat).getD p.j = p.j from rfl, q]; intro z; cases z
      | some x => exact hp x w
    | dummy =>
      rw [q] at e
      refine ih _ (fun x hx => ?_) e
      have : x = p.j := by
        unfold SetTable.advance at hx
        split at hx <;> cases hx <;> rfl
      subst this
      exact noPlace_of fun i => by rw [q]; intro z; cases z
    | live i =>
      rw [q] at e
      dsimp only at e
      split at e
      · cases e
      · refine ih _ (fun x hx => hp x ?_) e
        unfold SetTable.advance at hx
        split at hx <;> exact hx
theorem freeSlot_free {t : SetTable} {h : Int} {j : Nat} {b : Bool} (e : t.freeSlot h = some (j, b)) : NoPlace t j := by
  unfold SetTable.freeSlot at e
  split at e
  · rename_i j' d q
    cases e
    exact probe_free _ _ (fun x hx => by cases hx) q
  · cases e
def TOk (b : Bool) (t : SetTable) : Prop := Rise t.place ∧ t.led = b
theorem rise_range (n : Nat) : Rise (Array.range n) := by
  unfold Rise
  rw [Array.toList_range]
  exact List.pairwise_lt_range
theorem TOk.standIn {b : Bool} {t : SetTable} (h : TOk b t) (n : Nat) : TOk b (t.standIn n) := ⟨rise_range n, h.2⟩
theorem TOk.layNew {b : Bool} {t : SetTable} (h : TOk b t) (es : Array (Int × Value)) (k : Int) (x : Value) : TOk b (PySem.layNew t es k x).2.1 := by
  unfold PySem.layNew
  cases q : t.freeSlot k with
  | none => exact h.standIn _
  | some r =>
    obtain ⟨j, wd⟩ := r
    have h2 : TOk b (t.put j).1 := ⟨h.1.insert (freeSlot_free q), h.2⟩
    show TOk b ((t.put j).1.orStandIn _)
    unfold SetTable.orStandIn
    split
    · exact h2
    · exact h2.standIn _
theorem rise_live {g : Nat → Option Nat} : ∀ (l : List Nat), ((l.filterMap fun j => (g j).map (j, ·)).map (·.1)).Sublist l := by
  intro l
  induction l with
  | nil => exact List.Sublist.slnil
  | cons x l ih =>
    rw [List.filterMap_cons]
    cases q : g x with
    | none => exact List.Sublist.cons _ ih
    | some y => exact List.Sublist.cons₂ _ ih
theorem TOk.relaid {b : Bool} {t t' : SetTable} {hs : Array Int} {n : Nat} {o : Array Nat} (h : TOk b t) (e : t.relaid hs n = some (t', o)) : TOk b t' := by
  unfold SetTable.relaid SetTable.laid at e
  cases q : SetTable.layClean (SetTable.sizeAbove n - 1) hs with
  | none => rw [q] at e; cases e
  | some ow =>
    rw [q] at e
    cases e
    exact ⟨List.Pairwise.sublist (rise_live (g := fun j => ow.getD j none) _) List.pairwise_lt_range, h.2⟩
theorem TOk.relayAll {b : Bool} {t : SetTable} (h : TOk b t) (es : Array (Int × Value)) (n : Nat) : TOk b (PySem.relayAll t es n).2.1 := by
  unfold PySem.relayAll
  cases q : t.relaid (es.map (·.1)) n with
  | none => exact h.standIn _
  | some r =>
    obtain ⟨t', o⟩ := r
    dsimp only
    split
    · exact h.relaid q
    · exact h.standIn _
end L2
end
section
set_option Elab.async false
set_option linter.all false
set_option maxRecDepth 100000
set_option maxHeartbeats 1000000
namespace L2
open PySem PySem.Spec PyProof.Rows
def numOf : Int × Value → Int
  | (_, .int k _) => k
  | _ => 0
abbrev byText (w : World) : Bool := w.params.followText "set-order"
structure SetEs (P : Program) (w : World) (ks : List Int) (es : Array (Int × Value)) : Prop where
  all : ∀ e ∈ es.toList, ∃ k u, e = ((intKind P w).hash k, .int k u)
  perm : (es.toList.map numOf).Perm ks
def SetIs (P : Program) (w : World) (ks : List Int) (o : Obj) : Prop := ks.Nodup ∧ ks.length < scanBound ∧ ∃ es ep t, o.ExactSet ∧ o.data = .set es ep t ∧ SetEs P w ks es ∧ t.fits es.size = true ∧ TOk (!byText w) t
def addK (ks : List Int) (k : Int) : List Int := if k ∈ ks then ks else ks ++ [k]
section
variable {P : Program} {w : World} {ks : List Int} {es : Array (Int × Value)}
theorem SetEs.size (h : SetEs P w ks es) : es.size = ks.length := by
  have := h.perm.length_eq
  simpa using this
theorem SetEs.elems (h : SetEs P w ks es) : ElemsOf (intKind P w) es.toList := fun e m => by
  obtain ⟨k, u, rfl⟩ := h.all e m
  exact ⟨⟨k, intKind_is _ _ _ _, rfl⟩, rfl⟩
theorem SetEs.find (h : SetEs P w ks es) (k : Int) : (es.toList.findIdx? fun e => (intKind P w).is k e.2).isSome = decide (k ∈ ks) := by
  have pm : (k ∈ es.toList.map numOf) ↔ k ∈ ks := h.perm.mem_iff
  rw [← decide_eq_decide.mpr pm]
  by_cases q : k ∈ es.toList.map numOf
  · rw [decide_eq_true q]
    obtain ⟨e, m, rfl⟩ := List.mem_map.mp q
    obtain ⟨k', u, rfl⟩ := h.all e m
    cases z : es.toList.findIdx? fun e => (intKind P w).is (numOf ((intKind P w).hash k', .int k' u)) e.2 with
    | some j => rfl
    | none =>
      have z1 := List.findIdx?_eq_none_iff.mp z _ m
      have z2 : (intKind P w).is k' (.int k' u) = true := intKind_is _ _ _ _
      exact absurd (z1.symm.trans z2) Bool.false_ne_true
  · rw [decide_eq_false q]
    cases z : es.toList.findIdx? fun e => (intKind P w).is k e.2 with
    | none => rfl
    | some j =>
      obtain ⟨hj, hp, _⟩ := List.findIdx?_eq_some_iff_getElem.mp z
      obtain ⟨k', u, e⟩ := h.all _ (List.getElem_mem hj)
      rw [e] at hp
      have : k' = k := (intKind P w).inj _ _ _ (intKind_is _ _ _ _) hp
      subst this
      exact absurd (List.mem_map.mpr ⟨_, List.getElem_mem hj, by rw [e]; rfl⟩) q
theorem SetEs.add (h : SetEs P w ks es) {k : Int} {u : Tok} {es' : Array (Int × Value)} (p : List.Perm es'.toList (es.push ((intKind P w).hash k, .int k u)).toList) : SetEs P w (ks ++ [k]) es' where
  all := fun e m => by
    have m' := p.mem_iff.mp m
    rw [Array.toList_push] at m'
    rcases List.mem_append.mp m' with z | z
    · exact h.all e z
    · rw [List.mem_singleton.mp z]; exact ⟨k, u, rfl⟩
  perm := by
    have := p.map numOf
    rw [Array.toList_push, List.map_append] at this
    exact this.trans (h.perm.append_right [k])
theorem SetEs.shuffle (h : SetEs P w ks es) {es' : Array (Int × Value)} (p : List.Perm es'.toList es.toList) : SetEs P w ks es' := ⟨fun e m => h.all e (p.mem_iff.mp m), (p.map numOf).trans h.perm⟩
variable {A : Around} {E : Value → Shared → Prop} {s : Shared} {a : Addr}
theorem set_put {o : Obj} {es0 : Array (Int × Value)} {ep : Nat} {t0 t : SetTable} {Q : Unit → Shared → Prop} (ho : s.heap.get? a = some o) (hx : o.ExactSet) (hd : o.data = .set es0 ep t0) (hz : es.size ≤ sizeLine)
    (h : ∀ o' h', o'.ExactSet → o'.data = .set es (ep + 1) t → h'.get? a = some o' → Heap.SameBut a s.heap h' → Q () { s with heap := h' }) : wpAny (model P w) A (storeSet a es t) Q E s := by
  refine wpAny_storeSet_of ho hd ?_ hz
  have e := putSet_of es t hd
  refine h { o with data := .set es (ep + 1) t } _ hx rfl ?_ (Heap.SameBut.update ..)
  rw [← e]
  exact Heap.get?_update_self _ ho (by rw [e]; rfl)
theorem set_gave (b : Bool) {Q : Unit → Shared → Prop} (h : Q () s) : wpAny (model P w) A (match b with | true => rule "set.scan.the-table-gave-way" | false => pure ()) Q E s := by
  cases b
  · exact wpAny_pure h
  · exact wpAny_rule h
theorem set_addH {o : Obj} {k : Int} {u : Tok} {Q : Bool → Shared → Prop} (ho : s.heap.get? a = some o) (S : SetIs P w ks o) (hz : ks.length + 1 < scanBound)
    (h : ∀ o' h', SetIs P w (addK ks k) o' → h'.get? a = some o' → Heap.SameBut a s.heap h' → Q (!decide (k ∈ ks)) { s with heap := h' }) : wpAny (model P w) A (setAddHashed a (.int k u) ((intKind P w).hash k)) Q E s := by
  obtain ⟨nd, lz, es, ep, t, hx, hd, ES, hf, ht⟩ := S
  have sz := ES.size
  unfold setAddHashed
  unfold setAddHashedIn
  refine wpAny_holding (wpAny_bind (wpAny_setState_of ho hd hf (?_ : wpAny _ _ (if byScan (.int k u) es = true then _ else _) _ _ _)))
  rw [if_pos (byScan_of (knd := intKind P w) rfl (by omega) ES.elems)]
  unfold setAddByScan
  refine wpAny_bind (wpAny_bind (wpAny_rule (wpAny_bind (wpAny_setScan_of (knd := intKind P w) (intKind_is _ _ _ _) ho hd hf ES.elems ?_))))
  have fd := ES.find k
  by_cases q : k ∈ ks
  · rw [decide_eq_true q] at fd h
    obtain ⟨j, ej⟩ := Option.isSome_iff_exists.mp fd
    rw [ej]
    refine wpAny_pure (wpAny_pure (h o s.heap ?_ ho (Heap.SameBut.refl _ _)))
    unfold addK
    rw [if_pos q]
    exact ⟨nd, lz, es, ep, t, hx, hd, ES, hf, ht⟩
  · rw [decide_eq_false q] at fd h
    rw [Option.isSome_eq_false_iff.mp fd |> Option.isNone_iff_eq_none.mp]
    have ek : addK ks k = ks ++ [k] := if_neg q
    rw [ek] at h
    have nd' : (ks ++ [k]).Nodup := List.nodup_append.mpr ⟨nd, List.pairwise_singleton _ _, fun x hx y hy z => q (by rw [List.mem_singleton.mp hy] at z; exact z ▸ hx)⟩
    have lz' : (ks ++ [k]).length < scanBound := by rw [List.length_append]; exact hz
    dsimp only
    have p1 := layNew_perm t es ((intKind P w).hash k) (.int k u)
    have f1 := layNew_fits t es ((intKind P w).hash k) (.int k u)
    have t1 := ht.layNew es ((intKind P w).hash k) (.int k u)
    generalize layNew t es ((intKind P w).hash k) (.int k u) = r at p1 f1 t1 ⊢
    obtain ⟨es1, tb, wd, gv⟩ := r
    have E1 : SetEs P w (ks ++ [k]) es1 := ES.add p1
    have z1 : es1.size < scanBound := by rw [E1.size]; exact lz'
    refine wpAny_bind (set_gave _ ?_)
    have tail : ∀ t2 : SetTable, t2.fits es1.size = true → TOk (!byText w) t2 → wpAny (model P w) A (do
        storeSet a es1 t2
        if (!wd && t2.tooFull) = true then do
            match relayAll t2 es1 (SetTable.grown es1.size) with
            | (es, t, gave) => do
              (match gave with | true => rule "set.scan.the-table-gave-way" | false => pure ())
              storeSet a es t
              pure (some true)
          else pure (some true)) (fun r s' => wpAny (model P w) A (match r with | some added => pure added | none => setAddHashedIn a (.int k u) ((intKind P w).hash k) 99999) Q E s') E s := by
      intro t2 f2 ok2
      refine wpAny_bind (set_put ho hx hd (fits_of_scanBound z1) fun o1 h1 x1 d1 g1 k1 => ?_)
      split
      · have p3 := relayAll_perm t2 es1 (SetTable.grown es1.size)
        have f3 := relayAll_fits t2 es1 (SetTable.grown es1.size)
        have t3 := ok2.relayAll es1 (SetTable.grown es1.size)
        generalize relayAll t2 es1 (SetTable.grown es1.size) = r at p3 f3 t3 ⊢
        obtain ⟨es3, tb3, gv3⟩ := r
        have E3 : SetEs P w (ks ++ [k]) es3 := E1.shuffle p3
        refine wpAny_bind (set_gave _ ?_)
        refine wpAny_bind (set_put g1 x1 d1 (fits_of_scanBound (by rw [E3.size]; exact lz')) fun o3 h3 x3 d3 g3 k3 => wpAny_pure (wpAny_pure (h o3 h3 ?_ g3 (k1.trans k3))))
        exact ⟨nd', lz', _, _, _, x3, d3, E3, f3, t3⟩
      · exact wpAny_pure (wpAny_pure (h o1 h1 ⟨nd', lz', _, _, _, x1, d1, E1, f2, ok2⟩ g1 k1))
    dsimp only at f1 t1 ⊢
    split
    · rw [hashByValue_scannable 8 rfl]
      exact wpAny_bind (wpAny_pure (tail _ f1 t1))
    · exact wpAny_bind (wpAny_pure (tail _ f1 t1))
end
end L2
end
section
set_option Elab.async false
set_option linter.all false
set_option maxRecDepth 100000
set_option maxHeartbeats 4000000
namespace L2
open PySem PySem.Spec PyProof.Rows
abbrev freshSet (w : World) : Obj := { cls := .type "set", dict := none, data := .set #[] 0 (.fresh 0 0 (!byText w)) }
section
variable {P : Program} {w : World} {A : Around} {E : Value → Shared → Prop} {s : Shared} {x : Value}
theorem freshSet_is : SetIs P w [] (freshSet w) := ⟨List.nodup_nil, by decide, #[], 0, _, ⟨rfl, rfl, rfl⟩, rfl, ⟨(fun e m => nomatch m), List.Perm.refl _⟩, rfl, ⟨.nil, rfl⟩⟩
theorem set_new1 {R : Result → Shared → Prop} (h : R (.ok (.ret (.ref s.heap.objs.size))) { s with heap := s.heap.push (freshSet w) }) :
    codeAny (model P w) A (.call (.builtin "set.__new__") ⟨[.type "set", x], []⟩) R s := by
  refine codeAny_call_builtin F.plain_set_new F.entry_set_new (wpAny_of_eq (F.newCall_set_1 x) ?_)
  delta Builtin.«set.__new__» Builtin.Frozenset.newClass
  have hsub := sub_set_self
  obtain ⟨hq, gs, dr, tk, os⟩ := s
  dsimp only
  wp_walk
  apply wpAny_askSetting
  apply wpAny_pure
  simp only [newObj]
  exact wpAny_bind (wpAny_alloc (wpAny_pure (wpAny_pure h)))
theorem set_call1 {Q : Value → Shared → Prop} (h : wpAny (model P w) A.in1.in1 (Builtin.«set.__init__» ⟨[.ref s.heap.objs.size, x], []⟩) (fun f s' => f = .done (.ret .none) ∧ Q (.ref s.heap.objs.size) s') E { s with heap := s.heap.push (freshSet w) }) :
    wpAny (model P w) A (call (.type "set") [x]) Q E s := by
  have C := F.called_set
  obtain ⟨c, tl, hmro⟩ := C.mro
  have hmade := C.made
  have hsub := C.sub
  have hno := C.notType
  have hcan := C.canCreate
  have htc := F.typeCall_set_1 x
  have hat : (s.heap.push (freshSet w)).get? s.heap.objs.size = some (freshSet w) := Heap.get?_push_size _ rfl
  have hty : Shared.TypeIs { s with heap := s.heap.push (freshSet w) } (.ref s.heap.objs.size) "set" := ⟨_, hat, rfl⟩
  have hli := C.init.lookup
  have hbi := C.init.bind (.ref s.heap.objs.size)
  refine wpAny_call (codeAny_of_tree (?_ : wpAny _ _ (callAny (.type "set") ⟨[x], []⟩) _ _ _))
  apply wpAny_pure
  refine ⟨Code.quiet_builtin _ (by decide +kernel), ?_⟩
  apply codeAny_builtin F.entry_type_call
  rw [Around.under_plain (weight_type_call_type "set" [x] []) rfl]
  repeat (any_goals first | assumption | wp_step)
  refine set_new1 ?_
  repeat (any_goals first | assumption | wp_step)
  refine codeAny_call_builtin F.called_set.init.plain F.entry_set_init (check_set_init_1 hty ?_)
  refine wpAny_mono h (fun f s' ⟨e, q⟩ => ?_) fun _ _ z => z
  subst e
  repeat (any_goals first | assumption | wp_step)
theorem addK_len (ks : List Int) (k : Int) : (addK ks k).length ≤ ks.length + 1 := by
  unfold addK
  split
  · omega
  · rw [List.length_append]; exact Nat.le_refl _
theorem fold_len : ∀ (xs ks : List Int), (xs.foldl addK ks).length ≤ ks.length + xs.length
  | [], ks => by simp
  | x :: xs, ks => by
    have h1 := fold_len xs (addK ks x)
    have h2 := addK_len ks x
    simp only [List.foldl_cons, List.length_cons]
    omega
theorem fold_take (xs : List Int) {i : Nat} {x : Int} (h : xs[i]? = some x) : (xs.take (i + 1)).foldl addK [] = addK ((xs.take i).foldl addK []) x := by
  rw [List.take_add_one, h, List.foldl_append]
  rfl
theorem ints_at : ∀ {vs : List Value} {ns : List Int} {i : Nat} {v : Value}, IntsAre vs ns → vs[i]? = some v → ∃ n t, ns[i]? = some n ∧ v = .int n t
  | _, _, i, v, .nil, h => by cases h
  | _, _, 0, v, .cons n t _, h => ⟨n, t, rfl, (Option.some.inj h).symm⟩
  | _, _, i + 1, v, .cons n t r, h => by
    obtain ⟨n', t', e, f⟩ := ints_at (i := i) (v := v) r (by simpa using h)
    exact ⟨n', t', by simpa using e, f⟩
theorem set_fill {I S : Addr} {fp wr : List Addr} {n : Nat} {items : Array Value} {St : Nat → Heap → Prop} {xs : List Int} {R : Result → Shared → Prop} (W : Walks P w A.in1 I fp wr n (fun i v => items[i]? = some v) St) (hn : n = xs.length) (hI : IntsAre items.toList xs) (hS : S ∉ fp) (hz : n + 1 < scanBound) :
    ∀ (k i : Nat) (s : Shared) (o : Obj), n - i = k → i ≤ n → St i s.heap → s.heap.get? S = some o → SetIs P w ((xs.take i).foldl addK []) o →
      (∀ h' tk o', h'.get? S = some o' → SetIs P w (xs.foldl addK []) o' → (∀ b q, b ≠ S → b ∉ wr → s.heap.get? b = some q → h'.get? b = some q) → R (.ok (.ret .none)) { s with heap := h', toks := tk }) →
      codeAny (model P w) A (.builtin "set.update.loop" ⟨[.ref S, .ref I], []⟩) R s := by
  have nw : S ∉ wr := fun z => hS (W.sub _ z)
  intro k
  induction k with
  | zero =>
    intro i s o hk hi st ho hs h
    have e : i = n := by omega
    subst e
    refine codeAny_builtin F.entry_set_update_loop ((Around.under_plainId F.plain_set_update_loop _).symm ▸ ?_)
    refine wpAny_bind (W.done s _ _ st fun h' tk kk => wpAny_pure (h h' tk o (kk S o nw ho) ?_ fun b q _ hb e => kk b q hb e))
    rw [hn, List.take_length] at hs
    exact hs
  | succ k ih =>
    intro i s o hk hi st ho hs h
    refine codeAny_builtin F.entry_set_update_loop ((Around.under_plainId F.plain_set_update_loop _).symm ▸ ?_)
    refine wpAny_bind (W.item i s _ _ (by omega) st fun v h1 tk hv st1 kk => ?_)
    obtain ⟨x, t, ex, rfl⟩ := ints_at hI (i := i) (v := v) (by rw [Array.getElem?_toList]; exact hv)
    have len : ((xs.take i).foldl addK []).length ≤ i := by
      have := fold_len (xs.take i) []
      rw [List.length_take] at this
      simp at this
      omega
    refine wpAny_bind (wpAny_holding (wpAny_holding (wpAny_bind ((intKind P w).pyHash (k := x) (intKind_is _ _ _ _) ?_))))
    refine set_addH (s := { s with heap := h1, toks := tk + 1 }) (kk S o nw ho) hs (by omega) fun o2 h2 S2 g2 k2 => ?_
    refine wpAny_pure ⟨plainId_quiet F.plain_set_update_loop _, ih (i + 1) { s with heap := h2, toks := tk + 1 } o2 (by omega) (by omega) ?_ g2 ?_ fun h3 t3 o3 g3 S3 k3 => h h3 t3 o3 g3 S3 fun b q hb hw e => k3 b q hb hw ?_⟩
    · exact W.frame _ h1 h2 st1 fun b hb q e => (k2.2 b fun z => hS (z ▸ hb)).trans e
    · rw [fold_take xs ex]; exact S2
    · exact (k2.2 b hb).trans (kk b q hw e)
theorem set_ofList {l : Addr} {items : Array Value} {xs : List Int} {Q : Value → Shared → Prop} (hh : A.handled = none) (hl : s.heap.IsList l items) (hI : IntsAre items.toList xs) (hz : xs.length + 1 < scanBound)
    (h : ∀ h' tk o, h'.get? s.heap.objs.size = some o → SetIs P w (xs.foldl addK []) o → (∀ b q, s.heap.get? b = some q → h'.get? b = some q) → Q (.ref s.heap.objs.size) { s with heap := h', toks := tk }) :
    wpAny (model P w) A (call (.type "set") [.ref l]) Q E s := by
  refine set_call1 ?_
  have hl1 : (s.heap.push (freshSet w)).IsList l items := hl.push _
  have hlS : l < s.heap.objs.size := by obtain ⟨o, ho, _⟩ := hl; exact Heap.lt_size ho
  obtain ⟨⟨oc, od, oda, os⟩, hol, hcl, nl, hdl⟩ := id hl1
  simp only at hcl hdl
  subst hcl hdl
  have q1 := F.sub_list_set
  have q2 := F.sub_list_frozenset
  have q3 : (Value.type "list" == Value.type "dict") = false := by decide
  have hat : (s.heap.push (freshSet w)).get? s.heap.objs.size = some (freshSet w) := Heap.get?_push_size _ rfl
  have hty : Shared.TypeIs { s with heap := s.heap.push (freshSet w) } (.ref s.heap.objs.size) "set" := ⟨_, hat, rfl⟩
  delta Builtin.«set.__init__» noKeywords Builtin.Frozenset.updateFrom
  generalize hp : pyIter = PI
  wp_walk
  subst hp
  refine wpAny_pyIter_list hl1 (wpAny_bind (wpAny_runValue ?_))
  have e1 : (s.heap.push (freshSet w)).objs.size = s.heap.objs.size + 1 := Heap.size_push ..
  have lf : xs.length = items.size := by
    have := IntsAre.length hI
    simpa using this.symm
  refine set_fill (Walks.list (by simp [hh]) _ l (by rw [e1]; exact Nat.ne_of_lt (Nat.lt_succ_of_lt hlS)) items) lf.symm hI ?_ (by omega) items.size 0 _ _ (by omega) (Nat.zero_le _) ⟨⟨_, Heap.get?_push_size _ rfl, rfl, rfl⟩, hl1.push _⟩ (Heap.get?_push_of_some _ hat) freshSet_is fun h' tk o g S k => ?_
  · rw [e1]
    intro z
    rcases List.mem_cons.mp z with z | z
    · exact Nat.ne_of_lt (Nat.lt_succ_self _) z
    · exact Nat.ne_of_gt hlS (List.mem_singleton.mp z)
  · refine wpAny_pure (wpAny_pure ⟨rfl, h h' tk o g S fun b q e => k b q ?_ ?_ (Heap.get?_push_of_some _ (Heap.get?_push_of_some _ e))⟩)
    · exact Nat.ne_of_lt (Heap.lt_size e)
    · rw [e1]
      intro z
      exact Nat.ne_of_lt (Nat.lt_succ_of_lt (Heap.lt_size e)) (List.mem_singleton.mp z)
end
end L2
end
section
set_option Elab.async false
set_option linter.all false
set_option maxRecDepth 100000
set_option maxHeartbeats 4000000
namespace L2
open PySem PySem.Spec PyProof.Rows
theorem slot_sit_next : Slot "set_iterator" "__next__" "set_iterator.__next__" :=
  .of (owner := "set_iterator") (n := "__next__") (by rw [typeLookup_type, builtinLookup_eq_fast]; kernel_rfl) (by decide +kernel) (by decide +kernel) (by decide +kernel)
    (by first | exact .inl (by decide +kernel) | exact .inr (by decide +kernel)) (by rw [isSubtype_type]; kernel_rfl)
theorem ent_sit_next : entryFor table "set_iterator.__next__" = some Builtin.«set_iterator.__next__» := entryFor_of_tree (by kernel_rfl)
theorem arg_sit_next (a : Value) : argsOk "set_iterator.__next__" ⟨[a], []⟩ := by unfold argsOk; kernel_rfl
theorem ent_set_iter : entryFor table "set.__iter__" = some Builtin.«frozenset.__iter__» :=
  entryFor_alias (id' := "frozenset.__iter__") (by kernel_rfl) rfl (by decide +kernel) (by kernel_rfl)
section
variable {P : Program} {w : World} {A : Around} {E : Value → Shared → Prop} {s : Shared} {a it : Addr} {o : Obj} {es : Array (Int × Value)} {ep : Nat} {t : SetTable}
theorem next_stop {m : Sem Fin} {T id : String} {b : Builtin} {Q : Option Value → Shared → Prop} (hT : s.TypeIs (.ref it) T) (sl : Slot T "__next__" id) (en : entryFor table id = some b) (ar : argsOk id ⟨[.ref it], []⟩) (hh : A.handled = none)
    (hb : ∀ E' : Value → Shared → Prop, (∀ h' : Heap, (∀ c o, c ≠ it → s.heap.get? c = some o → h'.get? c = some o) → ∀ e, Shared.TypeIs { s with heap := h' } e "StopIteration" → E' e { s with heap := h' }) → wpAny (model P w) A.in1 (b ⟨[.ref it], []⟩) (fun _ _ => False) E' s)
    (h : ∀ h' : Heap, (∀ c o, c ≠ it → s.heap.get? c = some o → h'.get? c = some o) → Q none { s with heap := h' }) : wpAny (model P w) A (pyNext (.ref it)) Q E s := by
  unfold pyNext
  refine wpAny_bind (wpAny_attempt (wpAny_callSpecial?_slot (name := Str.ofString "__next__") hT sl (wpAny_call_entry sl hT en ?_ ar)))
  refine wpAny_mono (hb _ fun h' k e ty => ?_) (fun _ _ z => z.elim) fun _ _ z => z
  exact wpAny_bind (wpAny_isInstance (T := "StopIteration") (b := true) ty isSubtype_stop (wpAny_pure (h h' k)))
theorem stop_raised {Q : Fin → Shared → Prop} (hh : A.handled = none) (h : ∀ h' : Heap, (∀ c o, s.heap.get? c = some o → h'.get? c = some o) → ∀ e, Shared.TypeIs { s with heap := h' } e "StopIteration" → E e { s with heap := h' }) :
    wpAny (model P w) A (do raiseNew (← newExc (.type "StopIteration") [])) Q E s := by
  refine wpAny_bind ?_
  unfold newExc newTuple
  refine wpAny_bind (wpAny_newObj_type ?_ (Nat.zero_le _))
  have fa : firstArgMember (.type "StopIteration") [] = pure Value.none := by first | rfl | (simp only [firstArgMember]; rfl)
  refine wpAny_bind (wpAny_of_eq fa (wpAny_newObj_type ?_ (by size_fits)))
  unfold raiseNew
  refine wpAny_bind (wpAny_handled (hh.symm ▸ ?_))
  refine wpAny_bind (wpAny_pure ?_)
  apply wpAny_throw
  exact h _ (fun c o e => Heap.get?_push_of_some _ (Heap.get?_push_of_some _ e)) (.ref _) ⟨_, Heap.get?_push_size _ rfl, rfl⟩
theorem next_text (ho : s.heap.get? a = some o) (hd : o.data = .set es ep t) (hf : t.fits es.size = true) (hb : byText w = true) {slot i : Nat} {Q : Option (Value × Nat) → Shared → Prop}
    (h : Q (((pickOrder (w.params.setOrder a ep) es)[i]?).map fun e => (e.2, slot)) s) : wpAny (model P w) A (setNext a slot i ep) Q E s := by
  unfold setNext setsByText setWalk setsByText
  refine wpAny_bind (wpAny_setState_of ho hd hf (wpAny_bind (wpAny_bind (wpAny_askSetting (wpAny_pure ?_)))))
  show wpAny _ _ (if byText w = true then _ else _) _ _ _
  rw [if_pos hb, if_neg (by simp)]
  refine wpAny_bind (wpAny_bind (wpAny_setState_of ho hd hf (wpAny_bind (wpAny_bind (wpAny_askSetting (wpAny_pure ?_))))))
  show wpAny _ _ (if byText w = true then _ else _) _ _ _
  rw [if_pos hb]
  exact wpAny_bind (wpAny_askSetting (wpAny_pure (wpAny_pure h)))
theorem next_led (ho : s.heap.get? a = some o) (hd : o.data = .set es ep t) (hf : t.fits es.size = true) (hb : byText w = false) (hk : TOk true t) (hp : (!t.plain && decide (es.size > 1)) = false) {i g e' : Nat} (hi : i ≤ es.size) {Q : Option (Value × Nat) → Shared → Prop}
    (h : Q ((es[i]?).map fun e => (e.2, slotAt t.place (i + 1))) s) : wpAny (model P w) A (setNext a (slotAt t.place i) g e') Q E s := by
  have hz : t.place.size = es.size := by
    unfold SetTable.fits at hf
    simp at hf
    exact hf.1
  unfold setNext setsByText
  refine wpAny_bind (wpAny_setState_of ho hd hf (wpAny_bind (wpAny_bind (wpAny_askSetting (wpAny_pure ?_)))))
  show wpAny _ _ (if byText w = true then _ else _) _ _ _
  rw [hb]
  rw [if_neg Bool.false_ne_true]
  split
  · rename_i z
    exact absurd (z.symm.trans hp) Bool.noConfusion
  · have led : wpAny (model P w) A (if (!t.led && !es.isEmpty) = true then unsupported "set:maker-not-led" else pure ()) (fun _ s' => s' = s) E s := by
      rw [hk.2]
      exact wpAny_pure rfl
    refine wpAny_bind (wpAny_mono led (fun _ s' e => ?_) fun _ _ z => z)
    subst e
    rw [below_at hk.1 (by omega)]
    rcases Nat.lt_or_ge i es.size with k | k
    · have e1 : es[i]? = some es[i] := Array.getElem?_eq_getElem k
      have e2 : t.place[i]? = some (t.place[i]'(by omega)) := Array.getElem?_eq_getElem (by omega)
      have e3 : slotAt t.place (i + 1) = (t.place[i]'(by omega)) + 1 := by show t.place.getD i 0 + 1 = _; rw [Array.getD_eq_getD_getElem?, e2]; rfl
      rw [e1, e3] at h
      dsimp only
      rw [e1, e2]
      exact wpAny_pure h
    · have e1 : es[i]? = none := Array.getElem?_eq_none k
      rw [e1] at h
      dsimp only
      rw [e1]
      exact wpAny_pure h
theorem next_drawn (ho : s.heap.get? a = some o) (hd : o.data = .set es ep t) (hf : t.fits es.size = true) {i : Nat} {e : Int × Value} (hi : es[i]? = some e) {Q : Value → Shared → Prop} (h : Q e.2 s) : wpAny (model P w) A (setNextDrawn a i ep) Q E s := by
  unfold setNextDrawn
  apply wpAny_bind
  apply wpAny_setState_of ho hd hf
  dsimp only
  rw [if_neg (by simp), hi]
  exact wpAny_bind (wpAny_pure (by exact wpAny_pure h))
end
end L2
end
section
set_option Elab.async false
set_option linter.all false
set_option maxRecDepth 100000
set_option maxHeartbeats 4000000
namespace L2
open PySem PySem.Spec PyProof.Rows
abbrev SitO (first : Value) (i n ep : Nat) (a : Addr) : Obj := { cls := .type "set_iterator", dict := none, data := .fields #[first, .int i 0, .ref a, .int n 0, .int ep 0], slots := #[] }
abbrev plObj (pl : List Nat) : Obj := { cls := .type "tuple", data := .seq (pl.map fun (j : Nat) => rawInt (j : Int)).toArray }
inductive SMode (w : World) (a : Addr) (es : Array (Int × Value)) (ep : Nat) (t : SetTable) (ord : List (Int × Value)) : List Addr → Heap → Nat → Value → Prop
  | text {h : Heap} {i : Nat} (hb : byText w = true) (e : ord = (pickOrder (w.params.setOrder a ep) es).toList) : SMode w a es ep t ord [] h i (.int 0 0)
  | led {h : Heap} {i : Nat} (hb : byText w = false) (hp : (!t.plain && decide (es.size > 1)) = false) (e : ord = es.toList) : SMode w a es ep t ord [] h i (.int (slotAt t.place i) 0)
  | drawn {h : Heap} {i : Nat} {tp : Addr} {pl : List Nat} (ht : h.get? tp = some (plObj pl)) (e : ord.map some = pl.map (es[·]?)) : SMode w a es ep t ord [tp] h i (.ref tp)
section
variable {P : Program} {w : World} {A : Around} {E : Value → Shared → Prop} {s : Shared} {a it : Addr} {o : Obj} {es : Array (Int × Value)} {ep : Nat} {t : SetTable} {ord : List (Int × Value)} {tps : List Addr} {first : Value} {i n : Nat}
theorem SMode.keep {h h' : Heap} (m : SMode w a es ep t ord tps h i first) (k : ∀ b ∈ tps, ∀ o, h.get? b = some o → h'.get? b = some o) : SMode w a es ep t ord tps h' i first := by
  cases m with
  | text hb e => exact .text hb e
  | led hb hp e => exact .led hb hp e
  | drawn ht e => exact .drawn (k _ (List.mem_singleton.mpr rfl) _ ht) e
theorem map_some_at {α β : Type} {l : List α} {m : List β} {f : β → Option α} (e : l.map some = m.map f) {i : Nat} {x : α} (h : l[i]? = some x) : ∃ y, m[i]? = some y ∧ f y = some x := by
  have e2 : (l.map some)[i]? = (m.map f)[i]? := by rw [e]
  rw [List.getElem?_map, List.getElem?_map, h] at e2
  cases q : m[i]? with
  | none => rw [q] at e2; cases e2
  | some y => rw [q] at e2; exact ⟨y, rfl, (Option.some.inj e2).symm⟩
theorem seq_items {b : Addr} {q : Obj} {xs : Array Value} {c : Nat} {Q : Option (Array Value) → Shared → Prop} (hb : s.heap.get? b = some q) (hq : q.data = .seq xs c) (h : Q (some xs) s) : wpAny (model P w) A (seqItems? (.ref b)) Q E s := by
  unfold seqItems?
  apply wpAny_bind
  apply wpAny_load hb
  rw [hq]
  exact wpAny_pure h
theorem sit_next {Q : Option Value → Shared → Prop} (ho : s.heap.get? a = some o) (hd : o.data = .set es ep t) (hf : t.fits es.size = true) (hk : TOk (!byText w) t) (hne : a ≠ it) (hit : s.heap.get? it = some (SitO first i es.size ep a)) (m : SMode w a es ep t ord tps s.heap i first) (hi : i ≤ es.size) {e : Int × Value} (he : ord[i]? = some e)
    (h : ∀ h' first', h'.get? it = some (SitO first' (i + 1) es.size ep a) → Heap.SameBut it s.heap h' → SMode w a es ep t ord tps s.heap (i + 1) first' → Q (some e.2) { s with heap := h' }) : wpAny (model P w) A (pyNext (.ref it)) Q E s := by
  have hT : s.TypeIs (.ref it) "set_iterator" := ⟨_, hit, rfl⟩
  unfold pyNext
  refine wpAny_bind (wpAny_attempt (wpAny_callSpecial?_slot (name := Str.ofString "__next__") hT slot_sit_next (wpAny_call_entry slot_sit_next hT ent_sit_next ?_ (arg_sit_next _))))
  unfold Builtin.«set_iterator.__next__»
  refine wpAny_bind (wpAny_pure (wpAny_bind (wpAny_fieldsOf hit rfl ?_)))
  show wpAny _ _ (setEntries a >>= _) _ _ _
  refine wpAny_bind (wpAny_setEntries_of ho hd hf ?_)
  rw [if_neg (by simp)]
  cases m with
  | text hb eo =>
    show wpAny _ _ (setNext a ((0 : Int).toNat) ((i : Int).toNat) ((ep : Int).toNat) >>= _) _ _ _
    rw [Int.toNat_natCast, Int.toNat_natCast]
    refine wpAny_bind (next_text ho hd hf hb ?_)
    have he' : (pickOrder (w.params.setOrder a ep) es)[i]? = some e := by rw [← Array.getElem?_toList, ← eo]; exact he
    rw [he']
    show wpAny _ _ (setField (.ref it) 0 (rawInt ((0 : Nat) : Int)) >>= fun _ => setField (.ref it) 1 (rawInt ((i : Int) + 1)) >>= fun _ => ret e.2) _ _ _
    refine wpAny_bind (wpAny_setField_rec hit (by simp) fun h1 g1 k1 => ?_)
    refine wpAny_bind (wpAny_setField_rec (s := { s with heap := h1 }) g1 (by simp) fun h2 g2 k2 => wpAny_pure ⟨_, rfl, wpAny_pure (h h2 (.int 0 0) (by simpa [rawInt, SitO] using g2) (k1.trans k2) (.text hb eo))⟩)
  | led hb hp eo =>
    rw [hb] at hk
    show wpAny _ _ (setNext a ((slotAt t.place i : Int).toNat) ((i : Int).toNat) ((ep : Int).toNat) >>= _) _ _ _
    rw [Int.toNat_natCast, Int.toNat_natCast, Int.toNat_natCast]
    refine wpAny_bind (next_led ho hd hf hb hk hp hi ?_)
    have he' : es[i]? = some e := by rw [← Array.getElem?_toList, ← eo]; exact he
    rw [he']
    show wpAny _ _ (setField (.ref it) 0 (rawInt ((slotAt t.place (i + 1) : Nat) : Int)) >>= fun _ => setField (.ref it) 1 (rawInt ((i : Int) + 1)) >>= fun _ => ret e.2) _ _ _
    refine wpAny_bind (wpAny_setField_rec hit (by simp) fun h1 g1 k1 => ?_)
    refine wpAny_bind (wpAny_setField_rec (s := { s with heap := h1 }) g1 (by simp) fun h2 g2 k2 => wpAny_pure ⟨_, rfl, wpAny_pure (h h2 (.int (slotAt t.place (i + 1)) 0) (by simpa [rawInt, SitO] using g2) (k1.trans k2) (.led hb hp eo))⟩)
  | drawn ht eo =>
    rename_i tp pl
    obtain ⟨j, ej, fj⟩ := map_some_at eo he
    show wpAny _ _ (seqItems? (.ref tp) >>= _) _ _ _
    refine wpAny_bind (seq_items ht rfl ?_)
    have ea : ((pl.map fun (j : Nat) => rawInt (j : Int)).toArray)[((i : Int)).toNat]? = some (rawInt (j : Int)) := by
      rw [Int.toNat_natCast]
      simp [ej]
    show wpAny _ _ (match ((pl.map fun (j : Nat) => rawInt (j : Int)).toArray)[((i : Int)).toNat]? with | some (.int place _) => _ | some _ => _ | none => _) _ _ _
    rw [ea]
    show wpAny _ _ (setNextDrawn a ((j : Int).toNat) ((ep : Int).toNat) >>= _) _ _ _
    rw [Int.toNat_natCast, Int.toNat_natCast]
    refine wpAny_bind (next_drawn ho hd hf fj ?_)
    refine wpAny_bind (wpAny_setField_rec hit (by simp) fun h1 g1 k1 => wpAny_pure ⟨_, rfl, wpAny_pure (h h1 (.ref tp) (by simpa [rawInt, SitO] using g1) k1 (.drawn ht eo))⟩)
end
end L2
end
section
set_option Elab.async false
set_option linter.all false
set_option maxRecDepth 100000
set_option maxHeartbeats 4000000
namespace L2
open PySem PySem.Spec PyProof.Rows
section
variable {P : Program} {w : World} {A : Around} {E : Value → Shared → Prop} {s : Shared} {a it : Addr} {o : Obj} {es : Array (Int × Value)} {ep : Nat} {t : SetTable} {ord : List (Int × Value)} {tps : List Addr} {first : Value} {i n : Nat}
theorem sit_done {Q : Option Value → Shared → Prop} (hh : A.handled = none) (ho : s.heap.get? a = some o) (hd : o.data = .set es ep t) (hf : t.fits es.size = true) (hk : TOk (!byText w) t) (hit : s.heap.get? it = some (SitO first es.size es.size ep a)) (m : SMode w a es ep t ord tps s.heap es.size first) (hl : ord.length = es.size)
    (h : ∀ h' : Heap, (∀ c o, c ≠ it → s.heap.get? c = some o → h'.get? c = some o) → Q none { s with heap := h' }) : wpAny (model P w) A (pyNext (.ref it)) Q E s := by
  refine next_stop (m := pure (.done (.ret .none))) ⟨_, hit, rfl⟩ slot_sit_next ent_sit_next (arg_sit_next _) hh (fun E' hE => ?_) h
  have stop : ∀ h1 : Heap, Heap.SameBut it s.heap h1 → wpAny (model P w) A.in1 (do raiseNew (← newExc (.type "StopIteration") [])) (fun (_ : Fin) _ => False) E' { s with heap := h1 } := fun h1 k1 =>
    stop_raised (s := { s with heap := h1 }) (by simp [hh]) fun h' k e ty => hE h' (fun c q hc e => k c q ((k1.2 c hc).trans e)) e ty
  unfold Builtin.«set_iterator.__next__»
  refine wpAny_bind (wpAny_pure (wpAny_bind (wpAny_fieldsOf hit rfl ?_)))
  show wpAny _ _ (setEntries a >>= _) _ _ _
  refine wpAny_bind (wpAny_setEntries_of ho hd hf ?_)
  rw [if_neg (by simp)]
  cases m with
  | text hb eo =>
    show wpAny _ _ (setNext a ((0 : Int).toNat) ((es.size : Int).toNat) ((ep : Int).toNat) >>= _) _ _ _
    rw [Int.toNat_natCast, Int.toNat_natCast]
    refine wpAny_bind (next_text ho hd hf hb ?_)
    have he' : (pickOrder (w.params.setOrder a ep) es)[es.size]? = none := by
      rw [← Array.getElem?_toList, ← eo]
      exact List.getElem?_eq_none (by omega)
    rw [he']
    exact wpAny_bind (wpAny_setField_rec hit (by simp) fun h1 g1 k1 => stop h1 k1)
  | led hb hp eo =>
    rw [hb] at hk
    show wpAny _ _ (setNext a ((slotAt t.place es.size : Int).toNat) ((es.size : Int).toNat) ((ep : Int).toNat) >>= _) _ _ _
    rw [Int.toNat_natCast, Int.toNat_natCast, Int.toNat_natCast]
    refine wpAny_bind (next_led ho hd hf hb hk hp (Nat.le_refl _) ?_)
    rw [Array.getElem?_eq_none (Nat.le_refl _)]
    exact wpAny_bind (wpAny_setField_rec hit (by simp) fun h1 g1 k1 => stop h1 k1)
  | drawn ht eo =>
    rename_i tp pl
    show wpAny _ _ (seqItems? (.ref tp) >>= _) _ _ _
    refine wpAny_bind (seq_items ht rfl ?_)
    have hpl : pl.length = es.size := by
      have := congrArg List.length eo
      simp at this
      omega
    have ea : ((pl.map fun (j : Nat) => rawInt (j : Int)).toArray)[((es.size : Int)).toNat]? = none := by
      rw [Int.toNat_natCast]
      simp [hpl]
    show wpAny _ _ (match ((pl.map fun (j : Nat) => rawInt (j : Int)).toArray)[((es.size : Int)).toNat]? with | some (.int place _) => _ | some _ => _ | none => _) _ _ _
    rw [ea]
    refine wpAny_bind (wpAny_setField_rec hit (by simp) fun h1 g1 k1 => ?_)
    exact wpAny_bind (wpAny_setField_rec (s := { s with heap := h1 }) g1 (by simp) fun h2 g2 k2 => stop h2 (k1.trans k2))
theorem erase_perm {α : Type} : ∀ (l : List α) (i : Nat) (h : i < l.length), (l[i] :: l.eraseIdx i).Perm l
  | x :: l, 0, _ => .refl _
  | x :: l, i + 1, h => ((List.Perm.swap x (l[i]'(Nat.lt_of_succ_lt_succ h)) _).trans ((erase_perm l i (Nat.lt_of_succ_lt_succ h)).cons x))
theorem choose_lt {k : Nat} (hk : k ≠ 0) {Q : Nat → Shared → Prop} (h : ∀ i d, i < k → Q i { s with drawn := d }) : wpAny (model P w) A (choose .order k) Q E s := fun Γ p hΓ => by
  show Sem.wp _ _ (.choose .order k .pure) _ _ _ _
  rw [Sem.wp_choose]
  exact ⟨hk, h _ _ (Nat.mod_lt _ (Nat.pos_of_ne_zero hk))⟩
theorem draw_order : ∀ (xs : List Nat) (s : Shared) {Q : List Nat → Shared → Prop}, (∀ ys d, ys.Perm xs → Q ys { s with drawn := d }) → wpAny (model P w) A (drawOrder xs.length xs) Q E s := by
  intro xs
  induction hn : xs.length generalizing xs with
  | zero =>
    intro s Q h
    have : xs = [] := List.eq_nil_of_length_eq_zero hn
    subst this
    exact wpAny_pure (h [] s.drawn (.refl _))
  | succ n ih =>
    intro s Q h
    cases xs with
    | nil => cases hn
    | cons x l =>
      unfold drawOrder
      refine wpAny_bind (choose_lt (by simp) fun i d lt => ?_)
      have ei : (x :: l)[i]? = some (x :: l)[i] := List.getElem?_eq_getElem lt
      rw [ei]
      refine wpAny_bind (ih _ (by rw [List.length_eraseIdx_of_lt lt]; omega) _ fun ys d py => wpAny_pure (h _ d ?_))
      exact (py.cons _).trans (erase_perm _ i lt)
end
end L2
end
section
set_option Elab.async false
set_option linter.all false
set_option maxRecDepth 100000
set_option maxHeartbeats 4000000
namespace L2
open PySem PySem.Spec PyProof.Rows
theorem slot_sit_iter : Slot "set_iterator" "__iter__" "set_iterator.__iter__" :=
  .of (owner := "set_iterator") (n := "__iter__") (by rw [typeLookup_type, builtinLookup_eq_fast]; kernel_rfl) (by decide +kernel) (by decide +kernel) (by decide +kernel)
    (by first | exact .inl (by decide +kernel) | exact .inr (by decide +kernel)) (by rw [isSubtype_type]; kernel_rfl)
theorem ent_sit_iter : entryFor table "set_iterator.__iter__" = some Builtin.«dict_keyiterator.__iter__» :=
  entryFor_alias (id' := "dict_keyiterator.__iter__") (by kernel_rfl) rfl (by decide +kernel) (by kernel_rfl)
theorem arg_sit_iter (a : Value) : argsOk "set_iterator.__iter__" ⟨[a], []⟩ := by unfold argsOk; kernel_rfl
theorem pick_perm {α : Type} {f : Nat → Nat} : ∀ (n k : Nat) (l : List α) (out : Array α), l.length = n → (pickOrder.go f n k l out).toList.Perm (out.toList ++ l) := by
  intro n
  induction n with
  | zero =>
    intro k l out hl
    have : l = [] := List.eq_nil_of_length_eq_zero hl
    subst this
    unfold pickOrder.go
    simp
  | succ n ih =>
    intro k l out hl
    have lt : f k % l.length < l.length := Nat.mod_lt _ (by omega)
    unfold pickOrder.go
    rw [List.getElem?_eq_getElem lt]
    refine (ih (k + 1) _ _ (by rw [List.length_eraseIdx_of_lt lt]; omega)).trans ?_
    rw [Array.toList_push, List.append_assoc]
    exact List.Perm.append_left _ (erase_perm l _ lt)
theorem fm_some {α β : Type} {f : α → Option β} : ∀ {l : List α}, (∀ y ∈ l, ∃ x, f y = some x) → (l.filterMap f).map some = l.map f
  | [], _ => rfl
  | y :: l, h => by
    obtain ⟨x, e⟩ := h y List.mem_cons_self
    rw [List.filterMap_cons, e, List.map_cons, List.map_cons, fm_some fun z m => h z (List.mem_cons_of_mem _ m), e]
section
variable {P : Program} {w : World} {A : Around} {E : Value → Shared → Prop} {s : Shared} {a it : Addr} {o : Obj} {es : Array (Int × Value)} {ep : Nat} {t : SetTable} {ord : List (Int × Value)} {tps : List Addr} {first : Value} {i n : Nat}
theorem walks_set (hh : A.handled = none) (hd : o.data = .set es ep t) (hf : t.fits es.size = true) (hk : TOk (!byText w) t) (hne : a ≠ it) (hnt : it ∉ tps) (hl : ord.length = es.size) :
    Walks P w A it (it :: a :: tps) [it] es.size (fun i v => ∃ e, ord[i]? = some e ∧ v = e.2) (fun i h => h.get? a = some o ∧ ∃ first, h.get? it = some (SitO first i es.size ep a) ∧ SMode w a es ep t ord tps h i first) where
  sub := fun b hb => by rw [List.mem_singleton.mp hb]; exact List.mem_cons_self
  frame := fun i h h' ⟨ho, first, hi, m⟩ k => ⟨k a (by simp) _ ho, first, k it (by simp) _ hi, m.keep fun b hb o e => k b (by simp [hb]) o e⟩
  item := fun i s Q E hi ⟨ho, first, hit, m⟩ hQ => by
    obtain ⟨e, he⟩ : ∃ e, ord[i]? = some e := ⟨_, List.getElem?_eq_getElem (by omega)⟩
    refine sit_next ho hd hf hk hne hit m (by omega) he fun h' first' g k m' => hQ _ h' s.toks ⟨e, he, rfl⟩ ⟨(k.2 a hne).trans ho, first', g, ?_⟩ fun b q hb e => (k.2 b fun z => hb (List.mem_singleton.mpr z)).trans e
    exact m'.keep fun b hb q e => (k.2 b fun z => hnt (z ▸ hb)).trans e
  done := fun s Q E ⟨ho, first, hit, m⟩ hQ => sit_done hh ho hd hf hk hit m hl fun h' k => hQ h' s.toks fun b q hb e => k b q (fun z => hb (List.mem_singleton.mpr z)) e
  self := fun i s Q E ⟨ho, first, hit, m⟩ hQ => by
    refine wpAny_pyIter_slot ⟨_, hit, rfl⟩ slot_sit_iter (wpAny_call_entry slot_sit_iter ⟨_, hit, rfl⟩ ent_sit_iter ?_ (arg_sit_iter _))
    exact wpAny_bind (wpAny_pure (wpAny_pure ⟨_, rfl, "set_iterator", _, ⟨_, hit, rfl⟩, slot_sit_next.lookup, hQ⟩))
theorem set_iter {Q : Value → Shared → Prop} (ho : s.heap.get? a = some o) (hx : o.ExactSet) (hd : o.data = .set es ep t) (hf : t.fits es.size = true) (hk : TOk (!byText w) t) (hz : es.size ≤ sizeLine)
    (h : ∀ (h' : Heap) d it ord tps first, (∀ b q, s.heap.get? b = some q → h'.get? b = some q) → s.heap.objs.size ≤ it → (∀ b ∈ tps, s.heap.objs.size ≤ b ∧ b < it) → List.Perm ord es.toList → h'.get? it = some (SitO first 0 es.size ep a) → SMode w a es ep t ord tps h' 0 first → Q (.ref it) { s with heap := h', drawn := d }) :
    wpAny (model P w) A (pyIter (.ref a)) Q E s := by
  have hT : s.TypeIs (.ref a) "set" := ⟨o, ho, hx.1⟩
  refine wpAny_pyIter_slot hT F.slot_set_iter (wpAny_call_entry F.slot_set_iter hT ent_set_iter ?_ (F.args_set_iter_1 _))
  unfold Builtin.«frozenset.__iter__» Builtin.Frozenset.slot0 Builtin.Frozenset.sizeOf
  refine wpAny_bind (wpAny_bind (wpAny_pure (wpAny_pure ?_)))
  refine wpAny_bind (wpAny_bind (wpAny_setEntries_of ho hd hf (wpAny_pure ?_)))
  unfold setDrawn setsByText
  refine wpAny_bind (wpAny_bind (wpAny_setState_of ho hd hf (wpAny_bind (wpAny_bind (wpAny_askSetting (wpAny_pure (wpAny_pure ?_)))))))
  have fin : ∀ (s1 : Shared) (first : Value), s1.heap.get? a = some o → (∀ g, g.get? s1.heap.objs.size = some (SitO first 0 es.size ep a) → (∀ b q, s1.heap.get? b = some q → g.get? b = some q) → Q (.ref s1.heap.objs.size) { s1 with heap := g }) →
      wpAny (model P w) A.in1 (do
        let e ← setEpoch a
        let v ← newFields "set_iterator" [first, rawInt 0, .ref a, rawInt es.size, rawInt e]
        ret v) (fun fin s' => ∃ v, fin = .done (.ret v) ∧ ∃ T' r, s'.TypeIs v T' ∧ typeLookup (.type T') (Str.ofString "__next__") = pure (some r) ∧ Q v s') E s1 := by
    intro s1 first g1 hq
    refine wpAny_bind (wpAny_setEpoch_of g1 hd hf (wpAny_bind (wpAny_newObj_type (wpAny_pure ⟨_, rfl, "set_iterator", _, ⟨_, Heap.get?_push_size _ rfl, rfl⟩, slot_sit_next.lookup, hq _ (Heap.get?_push_size _ rfl) fun b q e => Heap.get?_push_of_some _ e⟩) (by size_fits))))
  dsimp only
  split
  · rename_i z
    refine wpAny_bind ?_
    have dr := draw_order (P := P) (w := w) (A := A.in1) (E := E) (List.range es.size) s (Q := fun ys s' => wpAny (model P w) A.in1 (do
        let first ← newTuple (ys.map fun (i : Nat) => rawInt (i : Int))
        let e ← setEpoch a
        let v ← newFields "set_iterator" [first, rawInt 0, .ref a, rawInt es.size, rawInt e]
        ret v) (fun fin s' => ∃ v, fin = .done (.ret v) ∧ ∃ T' r, s'.TypeIs v T' ∧ typeLookup (.type T') (Str.ofString "__next__") = pure (some r) ∧ Q v s') E s') fun ys d py => ?_
    · rw [List.length_range] at dr
      exact dr
    · have ly : ys.length = es.size := by rw [py.length_eq, List.length_range]
      refine wpAny_bind (wpAny_newTuple ?_ (by rw [List.length_map, ly]; exact hz))
      refine fin _ _ (Heap.get?_push_of_some _ ho) fun g g1 k1 => ?_
      have pm : (ys.filterMap (es[·]?)).Perm es.toList := (py.filterMap _).trans (by rw [filterMap_getElem?_range])
      have em : (ys.filterMap (es[·]?)).map some = ys.map (es[·]?) := by
        refine fm_some fun y m => ?_
        exact ⟨_, Array.getElem?_eq_getElem (List.mem_range.mp (py.mem_iff.mp m))⟩
      have e1 : ∀ q : Obj, (s.heap.push q).objs.size = s.heap.objs.size + 1 := fun q => Heap.size_push ..
      refine h g d _ (ys.filterMap (es[·]?)) [s.heap.objs.size] (.ref s.heap.objs.size) (fun b q e => k1 b q (Heap.get?_push_of_some _ e)) (by rw [e1]; exact Nat.le_succ _) (fun b hb => ?_) pm g1 (.drawn (k1 _ _ (Heap.get?_push_size _ rfl)) em)
      rw [List.mem_singleton.mp hb, e1]
      exact ⟨Nat.le_refl _, Nat.lt_succ_self _⟩
  · rename_i z
    refine wpAny_bind (wpAny_pure (fin _ _ ho fun g g1 k1 => ?_))
    cases hb : byText w with
    | true =>
      exact h g s.drawn _ (pickOrder (w.params.setOrder a ep) es).toList [] (.int 0 0) k1 (Nat.le_refl _) (fun b hb => nomatch hb) (by have := pick_perm (f := w.params.setOrder a ep) es.size 0 es.toList #[] (by simp); simpa [pickOrder] using this) g1 (.text hb rfl)
    | false =>
      have z' : ¬ (!byText w && (!t.plain && decide (es.size > 1))) = true := z
      rw [hb] at z'
      have hp : (!t.plain && decide (es.size > 1)) = false := by simpa using z'
      exact h g s.drawn _ es.toList [] _ k1 (Nat.le_refl _) (fun b hb => nomatch hb) (.refl _) g1 (.led (i := 0) hb hp rfl)
end
end L2
end
section
set_option Elab.async false
set_option linter.all false
set_option maxRecDepth 100000
set_option maxHeartbeats 4000000
namespace L2
open PySem PySem.Spec PyProof.Rows
section
variable {P : Program} {w : World} {A : Around} {E : Value → Shared → Prop} {s : Shared} {a : Addr} {o : Obj} {ks : List Int}
theorem set_hint {Q : Bool → Shared → Prop} (hT : s.TypeIs (.ref a) "set") (h : Q false s) : wpAny (model P w) A (Builtin.List.listLengthHint (.ref a)) Q E s := by
  unfold Builtin.List.listLengthHint
  refine wpAny_bind (wpAny_specialOf hT F.slot_set_len.lookup ?_)
  have sp : splitId "set.__len__" = some ("set", "__len__") := by decide +kernel
  generalize hid : ("set.__len__" : String) = id0 at sp ⊢
  wp_delta
  rw [sp]
  refine wpAny_bind (wpAny_isInstance (b := true) hT sub_set_self ?_)
  subst hid
  rw [if_neg (by decide)]
  split
  · refine wpAny_bind (wpAny_typeOf hT (wpAny_pure h))
  · rename_i z
    exact absurd (by decide +kernel) z
theorem listTouch_at {l : Addr} {xs : Array Value} {c : Nat} {Q : Unit → Shared → Prop} (hl : s.heap.get? l = some (seqObj "list" xs c)) (hz : xs.size < sizeLine) (h : ∀ h' c', h'.get? l = some (seqObj "list" xs c') → Heap.SameBut l s.heap h' → Q () { s with heap := h' }) : wpAny (model P w) A (Builtin.List.listTouch (.ref l)) Q E s := by
  unfold Builtin.List.listTouch
  refine wpAny_bind (listUpdate_at hl rfl ?_ (by omega) (by rw [Array.size_push]; omega))
  have g1 := get?_update_seq hl (·.push .none)
  refine listUpdate_at (s := { s with heap := s.heap.update l (Obj.mapSeq (·.push .none)) }) g1 rfl ?_ (by rw [Array.size_push]; omega) (by rw [Array.size_pop, Array.size_push]; omega)
  have g2 := get?_update_seq g1 (·.pop)
  rw [Array.pop_push] at g2
  exact h _ _ g2 ((Heap.SameBut.update ..).trans (Heap.SameBut.update ..))
theorem ints_of {es : Array (Int × Value)} {ord : List (Int × Value)} (all : ∀ e ∈ ord, ∃ k u, e = ((intKind P w).hash k, .int k u)) : IntsAre (ord.map (·.2)) (ord.map numOf) := by
  induction ord with
  | nil => exact .nil
  | cons e l ih =>
    obtain ⟨k, u, rfl⟩ := all e List.mem_cons_self
    exact .cons k u (ih fun x m => all x (List.mem_cons_of_mem _ m))
theorem set_collect {Q : List Value → Shared → Prop} (hh : A.handled = none) (ho : s.heap.get? a = some o) (S : SetIs P w ks o)
    (h : ∀ h' d tk vs ns, IntsAre vs ns → ns.Perm ks → s.heap.objs.size < h'.objs.size → (∀ b q, s.heap.get? b = some q → h'.get? b = some q) → Q vs { s with heap := h', drawn := d, toks := tk }) : wpAny (model P w) A (collect (.ref a)) Q E s := by
  obtain ⟨nd, lz, es, ep, t, hx, hd, ES, hf, hk⟩ := S
  have sz := ES.size
  have z1 : es.size ≤ sizeLine := fits_of_scanBound (by omega)
  unfold collect
  refine wpAny_bind (wpAny_runValue (codeAny_builtin F.entry_proto_collect ?_))
  rw [Around.under_plainId F.plain_proto_collect _]
  refine wpAny_bind (wpAny_newList (wpAny_pure ⟨plainId_quiet F.plain_list_iadd _, codeAny_builtin F.entry_list_iadd ?_⟩))
  rw [Around.under_plainId F.plain_list_iadd _]
  show wpAny _ A.in1 (Builtin.List.listExtendWith (.ref s.heap.objs.size) (.ref a) (.ref s.heap.objs.size)) _ _ { s with heap := s.heap.push (seqObj "list" #[] 0) }
  have al : a < s.heap.objs.size := Heap.lt_size ho
  have ho1 : (s.heap.push (seqObj "list" #[] 0)).get? a = some o := Heap.get?_push_of_some _ ho
  have hT : Shared.TypeIs { s with heap := s.heap.push (seqObj "list" #[] 0) } (.ref a) "set" := ⟨o, ho1, hx.1⟩
  have ns : Builtin.List.listSameRef (.ref s.heap.objs.size) (.ref a) = false := by
    show (s.heap.objs.size == a) = false
    exact beq_eq_false_iff_ne.mpr (Nat.ne_of_gt al)
  unfold Builtin.List.listExtendWith
  refine wpAny_bind (wpAny_typeOf hT ?_)
  rw [ns, if_neg (by decide)]
  refine wpAny_bind (set_iter (s := { s with heap := s.heap.push (seqObj "list" #[] 0) }) ho1 hx hd hf hk z1 fun h1 d it ord tps first k1 hi ht pm hit m => ?_)
  have e1 : (s.heap.push (seqObj "list" #[] 0)).objs.size = s.heap.objs.size + 1 := Heap.size_push ..
  have hi' : s.heap.objs.size + 1 ≤ it := e1 ▸ hi
  have ht' : ∀ b ∈ tps, s.heap.objs.size + 1 ≤ b ∧ b < it := fun b hb => e1 ▸ ht b hb
  refine wpAny_bind (wpAny_holding (set_hint ⟨o, k1 _ _ ho1, hx.1⟩ ?_))
  rw [if_pos (by decide +kernel)]
  refine wpAny_bind (wpAny_rule (wpAny_bind (listTouch_at (s := { s with heap := h1, drawn := d }) (k1 _ _ (Heap.get?_push_size _ rfl)) (by rw [sizeLine_eq]; decide) fun h2 c2 g2 k2 => ?_)))
  have kb : ∀ b, b ≠ s.heap.objs.size → ∀ q, h1.get? b = some q → h2.get? b = some q := fun b hb q e => (k2.2 b hb).trans e
  have lo : ord.length = es.size := by rw [pm.length_eq]; simp
  have nS : s.heap.objs.size ∉ it :: a :: tps := fun z => by
    rcases List.mem_cons.mp z with z | z
    · exact Nat.lt_irrefl _ (Nat.lt_of_lt_of_le (Nat.lt_succ_self _) (z ▸ hi'))
    rcases List.mem_cons.mp z with z | z
    · exact Nat.ne_of_gt al z
    · exact Nat.lt_irrefl _ (Nat.lt_of_lt_of_le (Nat.lt_succ_self _) (ht' _ z).1)
  have W := walks_set (P := P) (w := w) (A := A.in1) (by simp [hh]) hd hf hk (Nat.ne_of_lt (Nat.lt_of_lt_of_le (Nat.lt_succ_of_lt al) hi') : a ≠ it) (fun z => Nat.lt_irrefl _ (ht' _ z).2 : it ∉ tps) lo
  refine wpAny_pure ⟨plainId_quiet F.plain_extend_loop _, codeAny_extend_loopS W.toS z1 s.heap.objs.size nS _ es.size 0 _ #[] _ (by omega) (Nat.zero_le _) ⟨kb a (Nat.ne_of_lt al) _ (k1 _ _ ho1), first, kb it (fun z => nS (by rw [← z]; exact List.mem_cons_self)) _ hit, m.keep fun b hb q e => kb b (fun z => nS (by rw [← z]; simp [hb])) q e⟩ g2 (ItemsOf.nil _) fun s3 acc c3 mv g3 it3 => ?_⟩
  refine wpAny_bind (wpAny_load g3 (wpAny_pure ?_))
  obtain ⟨h3, gn, dr, tk, os⟩ := s3
  have eg : gn = s.gens := mv.gens
  have ed : dr = d := mv.drawn
  have eo : os = s.os := mv.os
  subst eg ed eo
  have ev : acc.toList = ord.map (·.2) := by
    apply List.ext_getElem?
    intro j
    rw [Array.getElem?_toList, List.getElem?_map]
    rcases Nat.lt_or_ge j acc.size with k | k
    · obtain ⟨e, he, hv⟩ := it3.2 j _ (Array.getElem?_eq_getElem k)
      rw [Array.getElem?_eq_getElem k, he, hv]
      rfl
    · rw [Array.getElem?_eq_none k, List.getElem?_eq_none (by have := it3.1; omega)]
      rfl
  refine h h3 dr tk _ (ord.map numOf) (by rw [ev]; exact ints_of (es := es) fun e me => ES.all e (pm.mem_iff.mp me)) ((pm.map numOf).trans ES.perm) (Heap.lt_size g3) fun b q e => ?_
  have bl := Heap.lt_size e
  refine mv.heap b q (fun z => ?_) (kb b (Nat.ne_of_lt bl) _ (k1 _ _ (Heap.get?_push_of_some _ e)))
  rcases List.mem_cons.mp z with z | z
  · exact Nat.ne_of_lt bl z
  · exact Nat.ne_of_lt (Nat.lt_of_lt_of_le (Nat.lt_succ_of_lt bl) hi') (List.mem_singleton.mp z)
end
end L2
end
section
set_option Elab.async false
set_option linter.all false
set_option maxRecDepth 100000
set_option maxHeartbeats 4000000
namespace L2
open PySem PySem.Spec PyProof.Rows
section
variable {P : Program} {w : World} {A : Around} {E : Value → Shared → Prop} {s : Shared} {a : Addr} {o : Obj} {ks : List Int}
end
def StO (P : Program) (w : World) (a : Addr) (ks : List Int) (h : Heap) : Prop := ∃ o, h.get? a = some o ∧ SetIs P w ks o
abbrev hSt (P : Program) (w : World) (a : Addr) (ks : List Int) : HO := .ext (StO P w a ks)
theorem hSt_ok {P : Program} {w : World} {H : Hp} {h : Heap} {a : Addr} {ks : List Int} (e : StO P w a ks h) : ObjOk P w H h a (hSt P w a ks) :=
  ⟨e, (let ⟨o, q, _⟩ := e; ⟨o, q⟩), fun h1 h2 ⟨o, q, r⟩ k => ⟨o, k _ q, r⟩⟩
theorem Inv.drawnTo {X : Cx} {pins : List (Addr × Obj)} {σ : St} {H : Hp} {s : Shared} (I : Inv X pins σ H s) (d : Drawn) : Inv X pins σ H { s with drawn := d } :=
  ⟨I.ok, I.os, I.bare, I.base, I.loc, I.cell, I.free, I.freeC, I.pin, I.hok, I.len⟩
theorem vals_intsS : ∀ {ns : List Int} {us : List Value}, Vals (ns.map V.int) us → IntsAre us ns
  | [], us, r => by cases r; exact .nil
  | n :: ns, us, r => by
    cases r with
    | cons x r => obtain ⟨t, rfl⟩ := x; exact .cons n t (vals_intsS r)
theorem ints_valsS : ∀ {ns : List Int} {us : List Value}, IntsAre us ns → Vals (ns.map V.int) us
  | _, _, .nil => .nil
  | _, _, .cons n t r => .cons ⟨t, rfl⟩ (ints_valsS r)
section
variable {X : Cx}
theorem call_setL (hc : X.calm = true) : CallR X (.type "set") (fun xs H Q => ∃ (l : Addr) (ns : List Int), xs = [.ref l] ∧ SqL X.K H l (ns.map V.int) ∧ ns.length + 1 < scanBound ∧ ∀ a, H a = none → Q (.ref a) (upd H a (hSt X.prog X.w a (ns.foldl addK [])))) := by
  intro pins s σ H xs us Q I r h
  obtain ⟨l, ns, rfl, hl, hz, q⟩ := h
  obtain ⟨u, rfl, rx⟩ := vals1 r
  cases rx
  obtain ⟨its, r', pl, z⟩ := I.list hl
  refine set_ofList (I.ok.hd hc) pl.isList (by simpa using vals_intsS r') hz fun h' tk o g S k => ?_
  exact ⟨.ref _, _, I.laid (t' := tk) k (Nat.le_refl _) (hSt_ok ⟨o, g, S⟩), rfl, q _ (I.hok.fresh (Nat.le_refl _))⟩
theorem call_lenS : CallR X (.builtin "len") (fun xs H Q => ∃ (a : Addr) (ks : List Int), xs = [.ref a] ∧ H a = some (hSt X.prog X.w a ks) ∧ Q (.int ks.length) H) := by
  intro pins s σ H xs us Q I r h
  obtain ⟨a, ks, rfl, ha, q⟩ := h
  obtain ⟨u, rfl, rx⟩ := vals1 r
  cases rx
  obtain ⟨o, ho, nd, lz, es, ep, t, hx, hd, ES, hf, hk⟩ := (I.hok a _ ha).1
  have sz := ES.size
  have z : scanBound = 4096 := rfl
  refine call_len_set ho hx hd hf (by rw [sz]; have := line63; omega) ⟨.int ks.length, H, I.tok _, ⟨_, by rw [sz]⟩, q⟩
end
end L2
end
section
set_option Elab.async false
set_option linter.all false
set_option maxRecDepth 100000
set_option maxHeartbeats 2000000
namespace L2
open PySem PySem.Spec PyProof.Rows
structure MkN (K : PySem.W.Frag) (mg : Str → Option Value) (x : Str) (C : Addr) : Prop where
  makes : PySem.W.makesIn K C = true
  init : PySem.W.findIn K (.ref C) "__init__" = some (some (.builtin "object.__init__"))
  kp : PySem.W.keepIn K (.ref C) = true
  mg : mg x = some (.ref C)
def tMakeN (C : Addr) : TE := fun _ H Q => ∀ x dx, H x = none → H dx = none → dx ≠ x → Q (.ref x) (upd (upd H dx (.own x)) x (.ins C dx []))
section
variable {X : Cx} {C : Addr} {x : Str} {p pos apos : Pos}
theorem run_makeN {pins : List (Addr × Obj)} {σ : St} {H : Hp} {s : Shared} {Q : VK} (hm : PySem.W.makesIn X.K C = true) (hi : PySem.W.findIn X.K (.ref C) "__init__" = some (some (.builtin "object.__init__"))) (I : Inv X pins σ H s)
    (h : ∀ x dx, H x = none → H dx = none → dx ≠ x → Q (.ref x) (upd (upd H dx (.own x)) x (.ins C dx []))) : wpAny (model X.prog X.w) X.A (call (.ref C) []) (EP X pins σ Q) X.xe s := by
  have hq := h (s.heap.objs.size + 1) s.heap.objs.size (I.hok.fresh (Nat.le_succ _)) (I.hok.fresh (Nat.le_refl _)) (Nat.ne_of_lt (Nat.lt_succ_self _))
  have I2 := Inv.made (C := C) I
  have e2 : ((s.heap.push PySem.W.emptyDict).push (PySem.W.instObj C s.heap.objs.size)).get? (s.heap.objs.size + 1) = some (PySem.W.instObj C s.heap.objs.size) := by
    have e1 : (s.heap.push PySem.W.emptyDict).objs.size = s.heap.objs.size + 1 := Heap.size_push ..
    rw [← e1]
    exact Heap.get?_push_size _ rfl
  have ty : PySem.W.Looks (model X.prog X.w) ((s.heap.push PySem.W.emptyDict).push (PySem.W.instObj C s.heap.objs.size)) (typeOf (.ref (s.heap.objs.size + 1))) (.ref C) := (PySem.W.Looks.ld e2).andThen .now
  have isO : PySem.W.Looks (model X.prog X.w) ((s.heap.push PySem.W.emptyDict).push (PySem.W.instObj C s.heap.objs.size)) (isInstance (.ref (s.heap.objs.size + 1)) (.type "object")) true :=
    ty.andThen ((PySem.W.makes_of (M := model X.prog X.w) I.kIn hm).top.keeps fun b o e => Heap.get?_push_of_some _ (Heap.get?_push_of_some _ e))
  refine wpAny_call (make_map0 I.kIn hm hi (fun self => PySem.W.Looks.of_pure (PySem.W.oi_bind self)) ?_)
  refine codeAny_call_builtin PySem.W.oi_plain PySem.W.entry_oi ?_
  refine @PySem.W.check_slot (model X.prog X.w) _ _ _ "object.__init__" "object" "__init__" (.ref (s.heap.objs.size + 1)) [] [] _ PySem.W.oi_kind PySem.W.oi_split isO (PySem.W.oi_args (.ref (s.heap.objs.size + 1))) ?_
  rw [PySem.W.oi_run]
  exact wpAny_pure ⟨rfl, ⟨V.ref (s.heap.objs.size + 1), _, I2, rfl, hq⟩⟩
theorem qe_makeN (M : MkN X.K X.mg x C) (hg : Gl X x) (hdb : (x == ("__debug__" : Str)) = false := by decide) : QE X (.Call (.Name x p) [] [] pos) (tMakeN C) := ⟨by
  intro pins s σ H Q I h
  refine wpAny_Call_Name_kw (ld_glob I hg M.mg ?_ hdb)
  exact PySem.W.callWith_K0 I.kIn M.kp (run_makeN M.makes M.init I h)⟩
structure Fam (P : Program) (w : World) (K : PySem.W.Frag) (mg : Str → Option Value) (base : Heap) (C : Nat → Addr) (n : Nat) (m : Str) (ps : List Str) (k : Nat) (sp : Nat → Sp) : Prop where
  cl : ∀ i, i < n → Cls K (C i)
  me : ∀ i, i < n → MCallee P w K mg base (C i) m ps k (sp i)
def tFam (C : Nat → Addr) (n : Nat) (m : Str) (sp : Nat → Sp) (ta : TE) (t : TA) : TE := fun σ H Q => ta σ H fun x H1 => ∃ i a dx fs, i < n ∧ x = .ref a ∧ H1 a = some (.ins (C i) dx fs) ∧ fs.lookup m = none ∧ t σ H1 fun vs H2 => sp i (x :: vs) H2 Q E0
variable {C : Nat → Addr} {n : Nat} {m : Str} {ps : List Str} {k : Nat} {sp : Nat → Sp} {o e : Expr} {es : List Expr} {ta : TE} {t : TA}
theorem qe_fam {pl : Sem Bool} (he : QE X o ta) (F : Fam X.prog X.w X.K X.mg X.base C n m ps k sp) (hr : Room k X.A) (ha : QA X (e :: es) t)
    (hst : starEach (e :: es) X.env = (false, eval e X.env) :: starEach es X.env := by rfl) (hpl : (backTo pos (starEach es X.env)).any (·.1) = false := by rfl)
    (ht : eval (.Call (.Attribute o m apos) (e :: es) [] pos) X.env = (do
      let ov ← eval o X.env
      standAt apos.atName
      let (f, first) ← holding [ov] (getMethod ov m pl)
      callWith pos f first (backTo pos (starEach (e :: es) X.env)) (backToKw pos (keywordEach [] X.env))) := by rfl) :
    QE X (.Call (.Attribute o m apos) (e :: es) [] pos) (tFam C n m sp ta t) := ⟨by
  intro pins s σ H Q I h
  refine PySem.W.methodCall_KW (pl := pl) (thn (he.p pins s σ H _ I h) fun u s1 ⟨x, H1, I1, rx, i, a, dx, fs, hi, ex, ea, l, q⟩ => ?_) ht
  subst ex
  obtain rfl : u = Value.ref a := rx
  obtain ⟨f, fd, Fk, hm, hb⟩ := (F.me i hi).ex
  refine getmeth_ok I1 ea (F.cl i hi) hm l ?_
  refine PySem.W.callWith_K (first := [.ref a]) (h₀ := X.base) I.ok.mod.kin hm.kp (thn (ha.p pos pins s1 σ H1 _ I1 q) fun us s2 ⟨vs, H2, I2, r, q2⟩ => ⟨I2.kIn, ?_⟩) hst hpl
  refine run_fn (us := .ref a :: us) (vs := .ref a :: vs) (dvs := []) (ds := []) Fk hr hb .nil pass0 I2 (.cons rfl r) ?_
  rw [List.append_nil]
  exact q2⟩
theorem qe_fam0 {pl : Sem Bool} (he : QE X o ta) (F : Fam X.prog X.w X.K X.mg X.base C n m ps k sp) (hr : Room k X.A)
    (ht : eval (.Call (.Attribute o m apos) [] [] pos) X.env = (do
      let ov ← eval o X.env
      standAt apos.atName
      let (f, first) ← holding [ov] (getMethod ov m pl)
      callWith pos f first (backTo pos (starEach [] X.env)) (backToKw pos (keywordEach [] X.env))) := by rfl) :
    QE X (.Call (.Attribute o m apos) [] [] pos) (tFam C n m sp ta tNil) := ⟨by
  intro pins s σ H Q I h
  refine PySem.W.methodCall_KW (pl := pl) (thn (he.p pins s σ H _ I h) fun u s1 ⟨x, H1, I1, rx, i, a, dx, fs, hi, ex, ea, l, q⟩ => ?_) ht
  subst ex
  obtain rfl : u = Value.ref a := rx
  obtain ⟨f, fd, Fk, hm, hb⟩ := (F.me i hi).ex
  refine getmeth_ok I1 ea (F.cl i hi) hm l ?_
  exact PySem.W.callWith_K0 (first := [.ref a]) I1.kIn hm.kp (run_fn (us := [.ref a]) (vs := [.ref a]) (dvs := []) (ds := []) Fk hr hb .nil pass0 I1 (.cons rfl .nil) q)⟩
end
end L2
namespace L2
open PySem PySem.Spec PyProof.Rows
structure MLk (K : PySem.W.Frag) (C : Addr) (m q : Str) (st : Stmt) (ps : List Str) (f : Addr) (fd : FuncData) : Prop where
  F : Fun K m q st f fd
  M : Meth K C m f
  b : Binds K fd ps []
theorem MLk.callee {P : Program} {w : World} {K : PySem.W.Frag} {mg : Str → Option Value} {base : Heap} {C : Addr} {m q : Str} {st : Stmt} {ps : List Str} {f : Addr} {fd : FuncData} {k : Nat} {sp : Sp} (L : MLk K C m q st ps f fd) (h : FnOk P w K mg base CX0 k f fd ps sp) : MCallee P w K mg base C m ps k sp := ⟨⟨f, fd, h, L.M, L.b⟩⟩
def Dn (ns : List Int) : Nat := (ns.foldl addK []).length
theorem addK_mem (ks : List Int) (k x : Int) : x ∈ addK ks k ↔ x ∈ ks ∨ x = k := by
  unfold addK
  by_cases q : k ∈ ks
  · rw [if_pos q]
    exact ⟨.inl, fun h => h.elim id fun e => e ▸ q⟩
  · rw [if_neg q, List.mem_append, List.mem_singleton]
theorem addK_nodup {ks : List Int} (h : ks.Nodup) (k : Int) : (addK ks k).Nodup := by
  unfold addK
  by_cases q : k ∈ ks
  · rw [if_pos q]; exact h
  · rw [if_neg q]
    exact List.nodup_append.mpr ⟨h, List.pairwise_singleton _ _, fun x hx y hy z => q (by rw [List.mem_singleton.mp hy] at z; exact z ▸ hx)⟩
theorem fold_mem : ∀ (ns ks : List Int) (x : Int), x ∈ ns.foldl addK ks ↔ x ∈ ks ∨ x ∈ ns
  | [], ks, x => by simp
  | n :: ns, ks, x => by
    rw [List.foldl_cons, fold_mem ns, addK_mem, List.mem_cons, or_assoc]
theorem fold_nodup : ∀ (ns : List Int) {ks : List Int}, ks.Nodup → (ns.foldl addK ks).Nodup
  | [], _, h => h
  | n :: ns, _, h => fold_nodup ns (addK_nodup h n)
theorem len_of_sub : ∀ {l m : List Int}, l.Nodup → (∀ x ∈ l, x ∈ m) → l.length ≤ m.length
  | [], m, _, _ => Nat.zero_le _
  | x :: l, m, nd, sb => by
    obtain ⟨h1, h2⟩ := List.nodup_cons.mp nd
    have mx := sb x List.mem_cons_self
    have := len_of_sub (l := l) (m := m.erase x) h2 fun y hy => (List.mem_erase_of_ne (fun (z : y = x) => h1 (z ▸ hy))).mpr (sb y (List.mem_cons_of_mem _ hy))
    rw [List.length_erase_of_mem mx] at this
    have := List.length_pos_of_mem mx
    rw [List.length_cons]
    omega
theorem Dn_le {ns ms : List Int} (h : ∀ x ∈ ns, x ∈ ms) : Dn ns ≤ ms.length := len_of_sub (fold_nodup ns List.nodup_nil) fun x hx => h x (((fold_mem ns [] x).mp hx).resolve_left (fun z => nomatch z))
end L2
namespace L2
open PySem PySem.Spec PyProof.Rows
def tOrG (K : PySem.W.Frag) (ta tb : TE) : TE := fun σ H Q => ta σ H fun x H1 => ∃ k, TruV K x H1 k ∧ if k = true then Q x H1 else tb σ H1 Q
theorem qe_orG {X : Cx} {a b : Expr} {rest : List Expr} {pos : Pos} {ta tb : TE} (ha : QE X a ta) (hb : QE X (.BoolOp .Or (b :: rest) pos) tb) : QE X (.BoolOp .Or (a :: b :: rest) pos) (tOrG X.K ta tb) := ⟨by
  intro pins s σ H Q I h
  refine BoolOp_or (thn (ha.p pins s σ H _ I h) fun v s1 ⟨x, H1, I1, r1, k, tv, q1⟩ => ?_)
  refine thn (tru_ok pins s1 σ H1 x v (fun c H2 => H2 = H1 ∧ c = k) I1 r1 ⟨k, tv, rfl, rfl⟩) fun c s2 ⟨H2, I2, e1, e2⟩ => ?_
  subst e1 e2
  cases c with
  | false => exact hb.p pins s2 σ H2 Q I2 q1
  | true => exact ⟨x, H2, I2, r1, q1⟩⟩
end L2
end
section
set_option Elab.async false
set_option linter.all false
set_option maxRecDepth 100000
set_option maxHeartbeats 2000000
namespace L2
open PySem PySem.Spec PyProof.Rows
abbrev FnLook := Str × Str × Arguments × FuncBody × Scope × Addr × List (Str × Addr) × Value × Addr
def fnLook (K : PySem.W.Frag) : Option (Option Value) → Option FnLook
  | some (some (.ref f)) => (match K.lookup f with
      | some ⟨_, _, .func fd, _⟩ => some (fd.name, fd.qualname, fd.params, fd.body, fd.scope, fd.globals, fd.closure, fd.defaults, fd.builtins)
      | _ => none)
  | _ => none
def fnGood (K : PySem.W.Frag) (q : Str) : Option (Option Value) → Bool
  | some (some (.ref f)) => (match K.lookup f with
      | some ⟨_, _, .func fd, _⟩ => PySem.W.codeIn K fd.code q && PySem.W.keepIn K (.ref f)
      | _ => false)
  | _ => false
def fnWant (x q : Str) (st : Stmt) : Option FnLook := some (x, q, defArgs st, .stmts (defBody st), defScope st, mainGlobals, [], .none, builtinsNs)
theorem fun_of {K : PySem.W.Frag} {v : Option (Option Value)} {x q : Str} {st : Stmt} (e : fnLook K v = fnWant x q st) (g : fnGood K q v = true) :
    ∃ (f : Addr) (oc : Value) (od an : Option Addr) (osl : Array (Option Value)) (kV doc pm cdv ct : Value), v = some (some (.ref f)) ∧ K.lookup f = some ⟨oc, od, .func (PySem.W.fnOf x q (defArgs st) (defBody st) (defScope st) .none kV doc pm an cdv ct), osl⟩ ∧ PySem.W.codeIn K cdv q = true ∧ PySem.W.keepIn K (.ref f) = true := by
  unfold fnLook at e
  split at e
  · rename_i f
    split at e
    · rename_i oc od fd osl hl
      unfold fnWant at e
      simp only [Option.some.injEq, Prod.mk.injEq] at e
      obtain ⟨h1, h2, h3, h4, h5, h6, h7, h8, h9⟩ := e
      simp only [fnGood, hl, Bool.and_eq_true] at g
      refine ⟨f, oc, od, fd.annotations, osl, fd.kwdefaults, fd.doc, fd.pyModule, fd.code, fd.closureTuple, rfl, ?_, g.1, g.2⟩
      rw [hl, ← h1, ← h2, ← h3, ← h5, ← h8]
      cases fd
      simp only at h4 h6 h7 h9
      subst h4 h6 h7 h9
      rfl
    · cases e
  · cases e
def methAt (K : PySem.W.Frag) (C m : Str) : Option (Option Value) := match PySem.W.nsIn K mainGlobals C with
  | some (some (.ref c)) => PySem.W.findIn K (.ref c) m
  | _ => none
def fragOf (h : Heap) (as : List Addr) : PySem.W.Frag := as.filterMap fun a => (h.get? a).map (a, ·)
theorem fragOf_in (h : Heap) : ∀ as : List Addr, (fragOf h as).In h
  | [], a, o, e => by cases e
  | b :: as, a, o, e => by
    unfold fragOf at e
    rw [List.filterMap_cons] at e
    cases q : h.get? b with
    | none =>
      rw [q] at e
      exact fragOf_in h as a o e
    | some u =>
      rw [q] at e
      simp only [Option.map_some, List.lookup_cons] at e
      by_cases z : (a == b) = true
      · rw [z] at e
        have e1 : u = o := Option.some.inj e
        have e2 : a = b := beq_iff_eq.mp z
        rw [← e1, e2]
        exact q
      · rw [Bool.not_eq_true] at z
        rw [z] at e
        exact fragOf_in h as a o e
theorem walk_ofE {l : PySem.W.OpenLaw} {n k : Nat} {q : Program} {loose : List Str} {XP : (Str → Option Value) → Heap → Prop} {Fa : PySem.W.Frag → Prop} {d : DefRec} {CX : CXT} {sp : PySem.W.Frag → Sp} {x : Str}
    (hn : l.most = some n) (hn2 : n ≤ sizeLine) (hdf : d.params.defaults = []) (hr : Room k callerA)
    (F : ∀ (w : World) (K : PySem.W.Frag) (mg : Str → Option Value) (fa : Addr) (h : Heap), Fa K → K.In h → h.Ns mainGlobals mg → mg d.name = some (.ref fa) →
      ∃ fd : FuncData, (∀ (s : Shared) (u : Value), BindsTo s fd ⟨[u], []⟩ [(x, u)]) ∧ ∀ base : Heap, K.In base → base.Ns mainGlobals mg → FnOk l.prog w K mg base CX k fa fd [x] (sp K))
    (hsp : ∀ (K : PySem.W.Frag) (H : Hp) (a : Addr) (ns : List Int), ns.length ≤ n → Only H → SqL K H a (ns.map V.int) → sp K [.ref a] H (fun v _ => v = .bl true) fun _ _ _ => False)
    (hCX : ∀ (H : Hp) (s : Shared) (e : Value) (s' : Shared), CX [] H s (fun _ _ _ => False) e s' → False) :
    PySem.W.WalkO q loose XP (fun _ h => ∃ K : PySem.W.Frag, Fa K ∧ K.In h) l.row.toRowW d [] (fun f vs => PySem.call f vs) := by
  refine Att.attach_call hn hdf fun w s₀ s₁ mg mb fa o pm cd doc a vs ns G Y ho hd hcd hmg hobj hints hlen hg => ?_
  obtain ⟨K, hF0, KX⟩ := Y
  obtain ⟨fd, hb, hF⟩ := F w K mg fa _ hF0 KX G.T.g hmg
  exact law_call KX G.T.g G.T.b G.T.builtins G.T.nolimit hg hobj hints (Nat.le_trans hlen hn2) hr hF hb (fun H hO hS => hsp K H a ns hlen hO hS) fun H e s' => hCX H s₁ e s'
end L2
end
section
set_option Elab.async false
set_option linter.all false
set_option maxRecDepth 100000
set_option maxHeartbeats 2000000
namespace L2
open PySem PySem.Spec PyProof.Rows PySem.W
def topRunT (p : Program) (w : World) (n₀ : Nat) (ann : Option Value) : Nat → SharedT → Thread → Option SharedT
  | 0, _, _ => none
  | n + 1, s, t => match through t with
    | true => some s
    | false => match stepOk n₀ ann t with
      | false => none
      | true => match stepT (denote treeTable) p w s t with
        | some (s', t') => topRunT p w n₀ ann n s' t'
        | none => none
theorem topRunT_of {p : Program} {w : World} {n₀ : Nat} {ann : Option Value} {s' : SharedT} : ∀ {n : Nat} {s : SharedT} {t : Thread}, topRunT p w n₀ ann n s t = some s' → topRun treeTable p w n₀ ann n s.abs t = some s'.abs := by
  intro n
  induction n with
  | zero => intro s t h; cases h
  | succ n ih =>
    intro s t h
    unfold topRunT at h
    unfold topRun
    split at h
    · rename_i e
      rw [e]
      exact congrArg (fun x => some (SharedT.abs x)) (Option.some.inj h)
    · rename_i e
      rw [e]
      split at h
      · cases h
      · rename_i e2
        rw [e2]
        split at h
        · rename_i s2 t2 e3
          rw [stepT_spec e3]
          exact ih h
        · cases h
def treeOf (l : List Obj) : BT := (l.foldl (fun (x : BT × Nat) o => (x.1.ins x.2 o, x.2 + 1)) (BT.nil, 0)).1
noncomputable def bootS (w : World) (os : OsState) : SharedT := ⟨treeOf (boot_heap w.params).objs.toList, (boot_heap w.params).objs.size, (boot_heap w.params).life, Array.mk [], boot_drawn, boot_toks, os⟩
theorem bootS_abs (w : World) (os : OsState) : (bootS w os).abs = ⟨boot_heap w.params, Array.mk [], boot_drawn, boot_toks, os⟩ := by kernel_rfl
noncomputable def runT (p : Program) (N : Nat) (w : World) (os : OsState) : Option SharedT := topRunT p w (boot_heap w.params).objs.size ((boot_heap w.params).nsMap mainGlobals "__annotations__") N (bootS w os) (topStub p)
noncomputable def endOk (p : Program) (w : World) (s : Shared) : Bool := staticsOk (importedModules p.main.body) (boot_heap w.params) s.heap && namesBound p s.heap && gensDone s && laidKept (boot_heap w.params) s.heap
theorem boot_ns (w : World) : ((boot_heap w.params).isNs mainGlobals && (Array.mk ([] : List GenState)).size == 0) = true := by kernel_rfl
theorem left_of {p q : Program} {loose : List Str} {Xt : Shared → Bool} {α : Type} {Yf : Shared → α} {Ya : World → α} {N : Nat} (e : opening p = plainProg p.main.scope.names) (hN : Nat.ble 600 N = true) (f : ∀ s, fenceModules? p s = some s)
    (h : ∀ w os, ∃ s : SharedT, runT p N w os = some s ∧ endOk p w s.abs = true ∧ openSeen q loose (importedModules p.main.body) Xt true s.abs = openGood q loose ∧ Yf s.abs = Ya w) : LeftO p q loose Xt Yf Ya N := fun w => by
  obtain ⟨⟨h0, g0, d0, k0, os⟩, hs, hv⟩ := Option.map_eq_some_iff.mp (boot_open e hN f w)
  simp only [Prod.mk.injEq] at hv
  obtain ⟨rfl, rfl, rfl, rfl⟩ := hv
  obtain ⟨s, hr, ho, hv, hy⟩ := h w os
  have run := topRunT_of hr
  rw [bootS_abs] at run
  unfold openEnds
  rw [hs]
  show (topFrom treeTable p w N ⟨boot_heap w.params, Array.mk [], boot_drawn, boot_toks, os⟩).map _ = _
  unfold topFrom
  dsimp only
  rw [boot_ns w]
  dsimp only
  rw [run]
  show ((match endOk p w s.abs with | true => some s.abs | false => none) : Option Shared).map _ = _
  rw [ho]
  show some (openSeen q loose (importedModules p.main.body) Xt true s.abs, Yf s.abs) = _
  rw [hv, hy]
end L2
end
section
set_option Elab.async false
set_option linter.all false
set_option maxHeartbeats 1000000
namespace L2
open PySem PyProof.Rows
section
variable {X : Cx}
def tLR1 (ta : TA) : TE := fun σ H Q => ta σ H fun vs H1 => ∃ n : Nat, vs = [.int n] ∧ (Builtin.Range.small 0 n 1 = true ∧ Builtin.Range.rangeSize 0 n 1 = n) ∧ n ≤ sizeLine ∧ n ≤ 2 ^ 24 ∧ ∀ l, H1 l = none → Q (.ref l) (upd H1 l (.lst (rngV 0 1 n)))
end
end L2
end
section
set_option Elab.async false
set_option linter.all false
set_option maxHeartbeats 1000000
namespace L2
open PySem PySem.Spec PyProof.Rows
section
variable {X : Cx}
def rParts (K : PySem.W.Frag) (neg : Bool) : R2 := fun x y H Q =>
  (scal x y = true ∧ Q (.bl (if neg then !decide (x = y) else decide (x = y))) H) ∨
  (∃ (a b : Addr) (xs ys : List V), x = .ref a ∧ y = .ref b ∧ SqT K H a xs ∧ SqT K H b ys ∧ xs.all flatV = true ∧ ys.all flatV = true ∧ Q (.bl (if neg then !eqL xs ys else eqL xs ys)) H) ∨
  (∃ (b : Addr) (ys : List V), x = .non ∧ y = .ref b ∧ SqT K H b ys ∧ Q (.bl neg) H) ∨
  (∃ (a : Addr) (xs : List V), x = .ref a ∧ y = .non ∧ SqT K H a xs ∧ Q (.bl neg) H)
theorem eqT_range {xs ys : List V} {us ws : List Value} (l1 : xs.length = us.length) (l2 : ys.length = ws.length) :
    eqL xs ys = ((List.range (min us.toArray.size ws.toArray.size)).all (fun i => eqV (xs.getD i .non) (ys.getD i .non)) && us.toArray.size == ws.toArray.size) := by
  have e1 : us.toArray.size = xs.length := by simp [l1]
  have e2 : ws.toArray.size = ys.length := by simp [l2]
  rw [e1, e2]
  by_cases e : xs.length = ys.length
  · rw [← eqL_range e, ← e, Nat.min_self, beq_self_eq_true, Bool.and_true]
  · rw [eqL_len e, beq_false_of_ne e, Bool.and_false]
theorem op_eqParts (hu : X.A.units < cLine) : OpR X (compareOp .Eq) (rParts X.K false) := by
  intro pins s σ H x y v u Q I rx ry h
  rcases h with h | ⟨a, b, xs, ys, rfl, rfl, ha, hb, fx, fy, q⟩ | ⟨b, ys, rfl, rfl, hb, q⟩ | ⟨a, xs, rfl, rfl, ha, q⟩
  · exact op_eq pins s σ H x y v u Q I rx ry h
  · cases rx
    cases ry
    obtain ⟨its, r1, p1, _⟩ := I.tuple ha
    obtain ⟨its2, r2, p2, _⟩ := I.tuple hb
    exact PySem.EqBoolInt.of_rc (SeqAt.RcAt.tuples p1 p2 hu (items_eqAt r1 r2 fx fy)) (fin_bl I q (eqT_range r1.length r2.length))
  · cases rx
    cases ry
    obtain ⟨its2, r2, p2, _⟩ := I.tuple hb
    exact PySem.EqBoolInt.of_rc (SeqAt.RcAt.none_tuple p2 hu) (fin_bl I q rfl)
  · cases rx
    cases ry
    obtain ⟨its, r1, p1, _⟩ := I.tuple ha
    exact PySem.EqBoolInt.of_rc (SeqAt.RcAt.tuple_none p1 hu) (fin_bl I q rfl)
end
end L2
end
section
set_option Elab.async false
set_option linter.all false
set_option maxRecDepth 100000
namespace L2
open PySem PySem.Spec PyProof.Rows
section
variable {X : Cx} {pins : List (Addr × Obj)} {σ : St} {H : Hp} {s : Shared} {h' : Heap}
theorem Inv.turnedL {t' : Nat} {fp : List Addr} (I : Inv X pins σ H s) (hf : ∀ b ∈ fp, FpOk X pins H b) (k : ∀ b o, b ∉ fp → s.heap.get? b = some o → h'.get? b = some o) : Inv X pins σ H { s with heap := h', toks := t' } := by
  have far : ∀ b u, H b = some u → b ∉ fp := fun b u e z => by rw [(hf b z).1] at e; cases e
  have away : X.env.locals ∉ fp := fun z => (hf _ z).2.1 rfl
  refine I.step (ch := fp) ?c1 ?c2 ?c3 ?c4 ?c5 ?c6 ?c7 ?c8 ?c9 ?c10 I.bare
  case c1 => exact fun b hb => ⟨(hf b hb).2.2.2.1, (hf b hb).2.1, (hf b hb).2.2.2.2.1, (hf b hb).2.2.2.2.2⟩
  case c2 => exact fun b o _ _ n e _ => k b o n e
  case c3 => exact fun b o _ _ n e _ => ⟨o.slots, k b o n e⟩
  case c4 => exact fun _ _ _ _ n => n
  case c5 => exact fun b o n e => ⟨o, k b o n e⟩
  case c6 => exact fun _ _ e => e
  case c7 => exact fun _ _ _ e => e
  case c8 => exact fun b ps e => ⟨#[], by rw [e, Array.append_empty]⟩
  case c9 =>
    rintro m ⟨o, es, ep, ho, r⟩
    exact ⟨o, es, ep, k _ o away ho, r⟩
  case c10 =>
    intro b u e
    refine (I.hok b u e).stay (fun c v hc q => k c v ?_ q) (fun _ q => q) fun _ _ q => q
    exact hc.elim (fun z => by rw [z]; exact far b u e) fun z => far c _ z
end
def Itz (K : PySem.W.Frag) (a b : Addr) : It :=
  ⟨fun i H => ∃ xs ys x y, SqL K H a xs ∧ SqL K H b ys ∧ xs[i]? = some x ∧ ys[i]? = some y,
   fun i H v H' => ∃ T x y, v = .ref T ∧ H T = none ∧ H' = upd H T (.tup [x, y]) ∧ (∀ xs, SqL K H a xs → xs[i]? = some x) ∧ ∀ ys, SqL K H b ys → ys[i]? = some y,
   fun i H => ∃ xs ys, SqL K H a xs ∧ SqL K H b ys ∧ (xs.length ≤ i ∨ ys.length ≤ i)⟩
structure ZipAt (z TI TO i1 i2 a b : Addr) (i : Nat) (h : Heap) : Prop where
  zz : IsZip h z TI TO .none
  ti : IsPair h TI (.ref i1) (.ref i2)
  to : ∃ u v, IsPair h TO u v
  p1 : h.IsListIter i1 a i
  p2 : h.IsListIter i2 b i
theorem ZipAt.obj {z TI TO i1 i2 a b : Addr} {i : Nat} {h : Heap} (Z : ZipAt z TI TO i1 i2 a b i h) : ∀ c ∈ [z, TI, TO, i1, i2], ∃ o, h.get? c = some o ∧ ∀ v, o.data ≠ .cell v := by
  obtain ⟨u, v, to⟩ := Z.to
  obtain ⟨o1, e1, c1, d1⟩ := Z.p1
  obtain ⟨o2, e2, c2, d2⟩ := Z.p2
  intro c hc
  simp only [List.mem_cons, List.not_mem_nil, or_false] at hc
  rcases hc with rfl | rfl | rfl | rfl | rfl
  · exact ⟨_, Z.zz, fun v z => by cases (show Data.fields _ = Data.cell v from z)⟩
  · exact ⟨_, Z.ti, fun v z => by cases (show Data.seq _ _ = Data.cell v from z)⟩
  · exact ⟨_, to, fun v z => by cases (show Data.seq _ _ = Data.cell v from z)⟩
  · exact ⟨o1, e1, fun v z => by rw [d1] at z; cases z⟩
  · exact ⟨o2, e2, fun v z => by rw [d2] at z; cases z⟩
theorem turn_zip {P : Program} {w : World} {K : PySem.W.Frag} {es : List Expr} {k : Nat} {pt : Pos} (z TI TO i1 i2 a b : Addr) (D : ZipApart z TI TO i1 i2 a b) : Turn P w K (.Tuple es k pt) (Itz K a b) [z, TI, TO, i1, i2] z (ZipAt z TI TO i1 i2 a b) where
  mem := List.mem_cons_self
  obj := fun i h st c hc => st.obj c hc
  keep := fun i h h' st k => by
    obtain ⟨u, v, to⟩ := st.to
    exact ⟨k z (by simp) _ st.zz, k TI (by simp) _ st.ti, ⟨u, v, k TO (by simp) _ to⟩, st.p1.at fun o e => k i1 (by simp) o e, st.p2.at fun o e => k i2 (by simp) o e⟩
  item := by
    intro X hP hw hK hc i pins s σ H E I hf st hg
    subst hP hw hK
    obtain ⟨xs, ys, x, y, qa, qb, hx, hy⟩ := hg
    obtain ⟨its, r1, p1, _⟩ := I.list qa
    obtain ⟨jts, r2, p2, _⟩ := I.list qb
    obtain ⟨u, hu, ru⟩ := r1.get hx
    obtain ⟨v, hv, rv⟩ := r2.get hy
    obtain ⟨c, d, to⟩ := st.to
    refine wpAny_pyNext_zip_item D st.zz st.ti to st.p1 st.p2 p1.isList p2.isList (x := u) (y := v) (by simpa using hu) (by simpa using hv) fun h' z1 z2 z3 z4 z5 z6 kk => ?_
    refine ⟨_, rfl, wpAny_letOwnedTupleGo_zip z1 fun h'' w1 sb => ?_⟩
    have far : ∀ c ∈ [z, TI, TO, i1, i2], c ≠ s.heap.objs.size := fun c hc => by
      obtain ⟨o, e, _⟩ := st.obj c hc
      exact Nat.ne_of_lt (Heap.lt_size e)
    have J1 : Inv X pins σ (upd H s.heap.objs.size (.tup [x, y])) { s with heap := s.heap.push { cls := .type "tuple", data := .seq #[u, v] }, toks := s.toks } :=
      I.laid (fun b o e => Heap.get?_push_of_some _ e) (Nat.le_refl _) ⟨by show 2 ≤ sizeLine; decide, [u, v], .cons ru (.cons rv .nil), ⟨_, Heap.get?_push_size _ rfl, rfl, _, rfl⟩⟩
    have hf1 : ∀ c ∈ [z, TI, TO, i1, i2], FpOk X pins (upd H s.heap.objs.size (.tup [x, y])) c := fun c hc => by
      obtain ⟨f0, f1⟩ := hf c hc
      exact ⟨by rw [upd_ne (far c hc)]; exact f0, f1⟩
    have J2 : Inv X pins σ (upd H s.heap.objs.size (.tup [x, y])) { s with heap := h'', toks := s.toks } := by
      refine J1.turnedL (s := { s with heap := s.heap.push { cls := .type "tuple", data := .seq #[u, v] }, toks := s.toks }) hf1 fun b o nb e => ?_
      simp only [List.mem_cons, List.not_mem_nil, or_false, not_or] at nb
      obtain ⟨n1, n2, n3, n4, n5⟩ := nb
      refine sb.extBut _ _ n1 ?_
      rcases Heap.get?_push_cases e with ⟨e1, e2⟩ | e1
      · rw [e1, e2]; exact z5
      · exact kk b o n1 n3 n4 n5 e1
    refine ⟨.ref s.heap.objs.size, _, J2, rfl, ⟨_, x, y, rfl, I.hok.fresh (Nat.le_refl _), rfl, fun ys' hy' => ?_, fun ys' hy' => ?_⟩, ?_, fun c hc => (hf1 c hc).1⟩
    · rw [I.list_inj hy' qa]; exact hx
    · rw [I.list_inj hy' qb]; exact hy
    · exact ⟨w1, sb.extBut _ _ D.TIz (kk _ _ D.TIz D.TITO D.TIi1 D.TIi2 st.ti), ⟨u, v, sb.extBut _ _ D.TOz z2⟩, z3.at fun o e => sb.extBut _ _ D.i1z e, z4.at fun o e => sb.extBut _ _ D.i2z e⟩
  done := by
    intro X hP hw hK hc i pins s σ H E I hf st hg
    subst hP hw hK
    obtain ⟨xs, ys, qa, qb, hi⟩ := hg
    obtain ⟨its, r1, p1, _⟩ := I.list qa
    obtain ⟨jts, r2, p2, _⟩ := I.list qb
    obtain ⟨c, d, to⟩ := st.to
    have l1 := r1.length
    have l2 := r2.length
    refine wpAny_pyNext_zip_end (I.ok.hd hc) D st.zz st.ti to st.p1 st.p2 p1.isList p2.isList (hi.imp (fun q => ?_) fun q => ?_) fun h' kk => ⟨rfl, I.turnedL (t' := s.toks) hf fun b o nb e => ?_⟩
    · simp; omega
    · simp; omega
    · simp only [List.mem_cons, List.not_mem_nil, or_false, not_or] at nb
      exact kk b o nb.1 nb.2.2.1 nb.2.2.2.1 nb.2.2.2.2 e
  self := fun _ _ _ _ _ st h => wpAny_pyIter_zip st.zz h
section
variable {X : Cx}
def iZip (K : PySem.W.Frag) (ta : TA) : TI := fun σ H R => ta σ H fun vs H1 => ∃ a b, vs = [.ref a, .ref b] ∧ (∃ xs, SqL K H1 a xs) ∧ (∃ ys, SqL K H1 b ys) ∧ R (Itz K a b) H1
theorem pi_zip {a b : Expr} {ta : TA} {p pos pt : Pos} {es : List Expr} {k : Nat} (hg : Gl X "zip") (hm : X.mg "zip" = none) (ha : PA X [a, b] ta) (hs : starEach [a, b] X.env = [(false, eval a X.env), (false, eval b X.env)] := by rfl) (hs2 : starEach [b] X.env = [(false, eval b X.env)] := by rfl) :
    PI X (.Tuple es k pt) (.Call (.Name "zip" p) [a, b] [] pos) (iZip X.K ta) := by
  intro pins s σ H R I h
  refine Call_ (ld_blt I hg hm boot_zip (PyProof.Rows.callWith_type1 (thn (ha pos pins s σ H _ I h) fun us s1 ⟨vs, H1, I1, r1, q1⟩ => ?_) (by rw [hs, hs2]) (by rw [hs2]; rfl)))
  obtain ⟨x, y, rfl, ⟨xs, qx⟩, ⟨ys, qy⟩, q⟩ := q1
  obtain ⟨u, v, rfl, ru, rv⟩ := vals2 r1
  cases ru
  cases rv
  obtain ⟨its, _, p1, _⟩ := I1.list qx
  obtain ⟨jts, _, p2, _⟩ := I1.list qy
  have lx : x < s1.heap.objs.size := by obtain ⟨o, e, _⟩ := p1.isList; exact Heap.lt_size e
  have ly : y < s1.heap.objs.size := by obtain ⟨o, e, _⟩ := p2.isList; exact Heap.lt_size e
  refine call_zip_2 p1.isList p2.isList fun h' z1 z2 z3 z4 z5 z6 kk => ?_
  refine wpAny_pyIter_zip z1 ?_
  have I2 : Inv X pins σ H1 { s1 with heap := h' } := I1.kept (t' := s1.toks) kk
  refine ⟨_, _, _, _, H1, rfl, I2, turn_zip _ _ _ _ _ x y (zipApart_new lx ly), ⟨z1, z2, ⟨_, _, z3⟩, z4, z5⟩, fun c hc => ?_, q⟩
  have hb : s1.heap.objs.size ≤ c := by
    simp only [List.mem_cons, List.not_mem_nil, or_false] at hc
    rcases hc with rfl | rfl | rfl | rfl | rfl
    · exact Nat.le_add_right _ _
    · exact Nat.le_add_right _ _
    · exact Nat.le_add_right _ _
    · exact Nat.le_refl _
    · exact Nat.le_add_right _ _
  exact I1.fpOk hb (I1.hok.fresh hb)
theorem qi_zip {a b : Expr} {ta : TA} {p pos pt : Pos} {es : List Expr} {k : Nat} (hg : Gl X "zip") (hm : X.mg "zip" = none) (ha : QA X [a, b] ta) (hs : starEach [a, b] X.env = [(false, eval a X.env), (false, eval b X.env)] := by rfl) (hs2 : starEach [b] X.env = [(false, eval b X.env)] := by rfl) :
    QI X (.Tuple es k pt) (.Call (.Name "zip" p) [a, b] [] pos) (iZip X.K ta) := ⟨pi_zip hg hm ha.p hs hs2⟩
end
theorem for_zip {K : PySem.W.Frag} {a b : Addr} {xs ys : List V} {g : TG} {tb : TS} {D : Ends} {σ : St} {H : Hp} (Pv : Nat → St → Hp → Prop) (h0 : Pv 0 σ H) (el : xs.length = ys.length) (hl : ∀ i σ H, i ≤ xs.length → Pv i σ H → SqL K H a xs ∧ SqL K H b ys)
    (hs : ∀ i x y T σ H, xs[i]? = some x → ys[i]? = some y → Pv i σ H → H T = none → g (.ref T) σ (upd H T (.tup [x, y])) fun σ2 H2 => tb { D with nx := Pv (i + 1), ct := Pv (i + 1), bk := D.nx } σ2 H2) (hd : ∀ σ H, Pv xs.length σ H → D.nx σ H) :
    ∃ W : Nat → Nat → St → Hp → Prop, (∃ m, W 0 m σ H) ∧ ∀ i m σ H, W i m σ H →
      ((Itz K a b).stop i H ∧ D.nx σ H) ∨ ((Itz K a b).go i H ∧ ∃ N : St → Hp → Prop, (∀ σ' H', N σ' H' → ∃ m', m' < m ∧ W (i + 1) m' σ' H') ∧ ∀ x H', (Itz K a b).yld i H x H' → g x σ H' fun σ2 H2 => tb { D with nx := N, ct := N, bk := D.nx } σ2 H2) := by
  refine ⟨fun i m σ H => m = xs.length - i ∧ i ≤ xs.length ∧ Pv i σ H, ⟨_, rfl, Nat.zero_le _, h0⟩, ?_⟩
  rintro i m σ H ⟨rfl, hi, p⟩
  obtain ⟨qa, qb⟩ := hl i σ H hi p
  rcases Nat.lt_or_ge i xs.length with lt | ge
  · have lt2 : i < ys.length := el ▸ lt
    refine .inr ⟨⟨xs, ys, _, _, qa, qb, List.getElem?_eq_getElem lt, List.getElem?_eq_getElem lt2⟩, Pv (i + 1), fun σ' H' p' => ⟨_, ?_, rfl, lt, p'⟩, ?_⟩
    · omega
    · rintro v H' ⟨T, x, y, rfl, hT, rfl, h1, h2⟩
      exact hs i x y T σ H (h1 xs qa) (h2 ys qb) p hT
  · obtain rfl : i = xs.length := Nat.le_antisymm hi ge
    exact .inl ⟨⟨xs, ys, qa, qb, .inl (Nat.le_refl _)⟩, hd σ H p⟩
end L2
end
section
set_option Elab.async false
set_option linter.all false
set_option maxRecDepth 100000
set_option maxHeartbeats 4000000
namespace L2T
open PySem PySem.Spec PyProof.Rows
def gallop' : Bool → Keyed → Array Keyed → Nat → Nat → Nat → StateT SortSt Sem (Option Nat) := sortPriv% PySem.Builtin.gallop
def num (x : Keyed) : Int := numOf x.1
def IsI (x : Keyed) : Prop := ∃ n t, x.1 = Value.int n t
def nth (arr : Array Keyed) (i : Nat) : Keyed := arr.getD i (.none, .none)
theorem nth_some {arr : Array Keyed} {i : Nat} (h : i < arr.size) : arr[i]? = some (nth arr i) := by
  unfold nth
  rw [Array.getD_eq_getD_getElem?, getElem?_pos arr i h]
  rfl
theorem nth_of {arr : Array Keyed} {i : Nat} {x : Keyed} (h : arr[i]? = some x) : nth arr i = x := by
  unfold nth
  rw [Array.getD_eq_getD_getElem?, h]
  rfl
def AllI (arr : Array Keyed) : Prop := ∀ i, i < arr.size → IsI (nth arr i)
section
variable {prog : Program} {w : World} {A : Around} {E : Value → Shared → Prop} {s : Shared} {st : SortSt}
theorem tm_lt {x y : Keyed} {Q : Option Bool → SortSt → Prop} (hk : kindOf st = oneType') (hx : IsI x) (hy : IsI y) (h : Q (some (decide (num x < num y))) st) : wpS (model prog w) A E s (lt' x y) Q st := by
  obtain ⟨x1, x2⟩ := x
  obtain ⟨y1, y2⟩ := y
  obtain ⟨a, t, rfl⟩ := hx
  obtain ⟨b, u, rfl⟩ := hy
  exact wpS_bind (wpS_get (wpS_bind (wpS_lift (wpAny_attempt (show wpAny _ _ (keyLt' (kindOf st) (.int a t) (.int b u)) _ _ _ by
    rw [hk]
    exact oneLt_int (show _ from ⟨rfl, wpS_pure h⟩))))))
theorem tm_elem {arr : Array Keyed} {i : Nat} {Q : Keyed → SortSt → Prop} (hi : i < arr.size) (h : Q (nth arr i) st) : wpS (model prog w) A E s (elem' arr i) Q st := by
  rw [elem'_eq, nth_some hi]
  exact wpS_pure h
def near (left : Bool) (key x : Keyed) : Bool := if left = true then decide (num x < num key) else !decide (num key < num x)
def nearM (left : Bool) (key : Keyed) (arr : Array Keyed) (b i : Nat) : StateT SortSt Sem (Option Bool) := elem' arr (b + i) >>= fun x => if left = true then lt' x key else lt' key x >>= fun r => pure (r.map fun v => !v)
theorem tm_near {left : Bool} {key : Keyed} {arr : Array Keyed} {b i : Nat} {Q : Option Bool → SortSt → Prop} (hk : kindOf st = oneType') (hkey : IsI key) (hA : AllI arr) (hi : b + i < arr.size) (h : Q (some (near left key (nth arr (b + i)))) st) :
    wpS (model prog w) A E s (nearM left key arr b i) Q st := by
  refine wpS_bind (tm_elem hi ?_)
  cases left with
  | true => exact tm_lt hk (hA _ hi) hkey h
  | false => exact wpS_bind (tm_lt hk hkey (hA _ hi) (wpS_pure h))
theorem tm_gallop {left : Bool} {key : Keyed} {arr : Array Keyed} {base n hint : Nat} {Q : Option Nat → SortSt → Prop} (hk : kindOf st = oneType') (hkey : IsI key) (hA : AllI arr) (hb : base + n ≤ arr.size) (hh : hint < n)
    (mono : ∀ i j, i ≤ j → j < n → near left key (nth arr (base + j)) = true → near left key (nth arr (base + i)) = true)
    (h : ∀ k, k ≤ n → (∀ i, i < k → near left key (nth arr (base + i)) = true) → (∀ i, k ≤ i → i < n → near left key (nth arr (base + i)) = false) → Q (some k) st) :
    wpS (model prog w) A E s (gallop' left key arr base n hint) Q st := by
  have anti : ∀ i j, i ≤ j → j < n → near left key (nth arr (base + i)) = false → near left key (nth arr (base + j)) = false := fun i j hij hj e => by
    cases q : near left key (nth arr (base + j)) with
    | false => rfl
    | true => rw [mono i j hij hj q] at e; cases e
  refine wpS_bind ?_
  refine tm_near (left := left) (key := key) (arr := arr) (b := base) (i := hint) hk hkey hA (by omega) ?_
  cases first : near left key (nth arr (base + hint)) with
  | true =>
    dsimp only
    refine wpS_bind (wpS_mono (wpS_forRange (I := fun x c st' => st' = st ∧ ∃ lst ofs, c = (none, lst, ofs) ∧ x + 1 ≤ ofs ∧ lst < ofs ∧ hint + lst < n ∧ near left key (nth arr (base + (hint + lst))) = true)
      (Q := fun c st' => st' = st ∧ ∃ lst ofs, c = (none, lst, ofs) ∧ lst < ofs ∧ hint + lst < n ∧ near left key (nth arr (base + (hint + lst))) = true ∧ (n - hint ≤ ofs ∨ near left key (nth arr (base + (hint + ofs))) = false)) ?step ?fin ?init) ?post)
    case init => exact ⟨rfl, 0, 1, rfl, by omega, by omega, by omega, first⟩
    case fin =>
      rintro c st' ⟨rfl, lst, ofs, rfl, h1, h2, h3, h4⟩
      exact ⟨rfl, lst, ofs, rfl, h2, h3, h4, .inl (by omega)⟩
    case step =>
      rintro x c st' _ hx ⟨rfl, lst, ofs, rfl, h1, h2, h3, h4⟩
      dsimp only
      by_cases ge : ofs ≥ n - hint
      · rw [if_pos ge]
        exact wpS_pure ⟨rfl, lst, ofs, rfl, h2, h3, h4, .inl ge⟩
      · rw [if_neg ge]
        refine wpS_bind (tm_near (left := left) (key := key) (arr := arr) (b := base) (i := hint + ofs) hk hkey hA (by omega) ?_)
        cases q : near left key (nth arr (base + (hint + ofs))) with
        | true => exact wpS_pure ⟨rfl, ofs, 2 * ofs + 1, rfl, by omega, by omega, by omega, q⟩
        | false => exact wpS_pure ⟨rfl, lst, ofs, rfl, h2, h3, h4, .inr q⟩
    case post =>
      rintro c st' ⟨rfl, lst, ofs, rfl, h2, h3, h4, h5⟩
      dsimp only
      have below : ∀ i, i < hint + lst + 1 → near left key (nth arr (base + i)) = true := fun i hi => mono i _ (by omega) h3 h4
      have above : ∀ i, hint + min ofs (n - hint) ≤ i → i < n → near left key (nth arr (base + i)) = false := fun i h6 h7 => by
        rcases h5 with h5 | h5
        · omega
        · exact anti (hint + ofs) i (by omega) h7 h5
      have o1 : hint + lst + 1 ≤ hint + min ofs (n - hint) := by omega
      have o2 : hint + min ofs (n - hint) ≤ n := by omega
      generalize hint + lst + 1 = lo at below o1 ⊢
      generalize hint + min ofs (n - hint) = hi at above o1 o2 ⊢
      refine wpS_bind (wpS_mono (wpS_forRange (I := fun x c st'' => st'' = st' ∧ ∃ lo hi, c = (none, lo, hi) ∧ lo ≤ hi ∧ hi ≤ n ∧ hi - lo ≤ n - x ∧ (∀ i, i < lo → near left key (nth arr (base + i)) = true) ∧ ∀ i, hi ≤ i → i < n → near left key (nth arr (base + i)) = false)
        (Q := fun c st'' => st'' = st' ∧ ∃ hi, c = (none, hi, hi) ∧ hi ≤ n ∧ (∀ i, i < hi → near left key (nth arr (base + i)) = true) ∧ ∀ i, hi ≤ i → i < n → near left key (nth arr (base + i)) = false) ?sstep ?sfin ⟨rfl, lo, hi, rfl, o1, o2, by omega, below, above⟩) ?spost)
      case sfin =>
        rintro c st'' ⟨rfl, lo, hi, rfl, q1, q2, q3, q4, q5⟩
        obtain rfl : lo = hi := by omega
        exact ⟨rfl, lo, rfl, q2, q4, q5⟩
      case spost =>
        rintro c st'' ⟨rfl, hi, rfl, q2, q4, q5⟩
        exact wpS_pure (h hi q2 q4 q5)
      case sstep =>
        rintro x c st'' _ hx ⟨rfl, lo, hi, rfl, q1, q2, q3, q4, q5⟩
        dsimp only
        by_cases ge : lo ≥ hi
        · rw [if_pos ge]
          obtain rfl : lo = hi := by omega
          exact wpS_pure ⟨rfl, lo, rfl, q2, q4, q5⟩
        · rw [if_neg ge]
          refine wpS_bind (tm_near (left := left) (key := key) (arr := arr) (b := base) (i := lo + (hi - lo) / 2) hk hkey hA (by omega) ?_)
          cases q : near left key (nth arr (base + (lo + (hi - lo) / 2))) with
          | true => exact wpS_pure ⟨rfl, _, hi, rfl, by omega, q2, by omega, fun i hi' => mono i _ (by omega) (by omega) q, q5⟩
          | false => exact wpS_pure ⟨rfl, lo, _, rfl, by omega, by omega, by omega, q4, fun i h6 h7 => anti _ i h6 h7 q⟩
  | false =>
    dsimp only
    refine wpS_bind (wpS_mono (wpS_forRange (I := fun x c st' => st' = st ∧ ∃ lst ofs, c = (none, lst, ofs) ∧ x + 1 ≤ ofs ∧ lst < ofs ∧ lst ≤ hint ∧ near left key (nth arr (base + (hint - lst))) = false)
      (Q := fun c st' => st' = st ∧ ∃ lst ofs, c = (none, lst, ofs) ∧ lst < ofs ∧ lst ≤ hint ∧ near left key (nth arr (base + (hint - lst))) = false ∧ (hint + 1 ≤ ofs ∨ (ofs ≤ hint ∧ near left key (nth arr (base + (hint - ofs))) = true))) ?step ?fin ?init) ?post)
    case init => exact ⟨rfl, 0, 1, rfl, by omega, by omega, by omega, first⟩
    case fin =>
      rintro c st' ⟨rfl, lst, ofs, rfl, h1, h2, h3, h4⟩
      exact ⟨rfl, lst, ofs, rfl, h2, h3, h4, .inl (by omega)⟩
    case step =>
      rintro x c st' _ hx ⟨rfl, lst, ofs, rfl, h1, h2, h3, h4⟩
      dsimp only
      by_cases ge : ofs ≥ hint + 1
      · rw [if_pos ge]
        exact wpS_pure ⟨rfl, lst, ofs, rfl, h2, h3, h4, .inl ge⟩
      · rw [if_neg ge]
        refine wpS_bind (tm_near (left := left) (key := key) (arr := arr) (b := base) (i := hint - ofs) hk hkey hA (by omega) ?_)
        cases q : near left key (nth arr (base + (hint - ofs))) with
        | true => exact wpS_pure ⟨rfl, lst, ofs, rfl, h2, h3, h4, .inr ⟨by omega, q⟩⟩
        | false => exact wpS_pure ⟨rfl, ofs, 2 * ofs + 1, rfl, by omega, by omega, by omega, q⟩
    case post =>
      rintro c st' ⟨rfl, lst, ofs, rfl, h2, h3, h4, h5⟩
      dsimp only
      have below : ∀ i, i < hint + 1 - min ofs (hint + 1) → near left key (nth arr (base + i)) = true := fun i hi => by
        rcases h5 with h5 | ⟨h5, h6⟩
        · omega
        · exact mono i (hint - ofs) (by omega) (by omega) h6
      have above : ∀ i, hint - lst ≤ i → i < n → near left key (nth arr (base + i)) = false := fun i h6 h7 => anti (hint - lst) i h6 h7 h4
      have o1 : hint + 1 - min ofs (hint + 1) ≤ hint - lst := by omega
      have o2 : hint - lst ≤ n := by omega
      generalize hint + 1 - min ofs (hint + 1) = lo at below o1 ⊢
      generalize hint - lst = hi at above o1 o2 ⊢
      refine wpS_bind (wpS_mono (wpS_forRange (I := fun x c st'' => st'' = st' ∧ ∃ lo hi, c = (none, lo, hi) ∧ lo ≤ hi ∧ hi ≤ n ∧ hi - lo ≤ n - x ∧ (∀ i, i < lo → near left key (nth arr (base + i)) = true) ∧ ∀ i, hi ≤ i → i < n → near left key (nth arr (base + i)) = false)
        (Q := fun c st'' => st'' = st' ∧ ∃ hi, c = (none, hi, hi) ∧ hi ≤ n ∧ (∀ i, i < hi → near left key (nth arr (base + i)) = true) ∧ ∀ i, hi ≤ i → i < n → near left key (nth arr (base + i)) = false) ?sstep ?sfin ⟨rfl, lo, hi, rfl, o1, o2, by omega, below, above⟩) ?spost)
      case sfin =>
        rintro c st'' ⟨rfl, lo, hi, rfl, q1, q2, q3, q4, q5⟩
        obtain rfl : lo = hi := by omega
        exact ⟨rfl, lo, rfl, q2, q4, q5⟩
      case spost =>
        rintro c st'' ⟨rfl, hi, rfl, q2, q4, q5⟩
        exact wpS_pure (h hi q2 q4 q5)
      case sstep =>
        rintro x c st'' _ hx ⟨rfl, lo, hi, rfl, q1, q2, q3, q4, q5⟩
        dsimp only
        by_cases ge : lo ≥ hi
        · rw [if_pos ge]
          obtain rfl : lo = hi := by omega
          exact wpS_pure ⟨rfl, lo, rfl, q2, q4, q5⟩
        · rw [if_neg ge]
          refine wpS_bind (tm_near (left := left) (key := key) (arr := arr) (b := base) (i := lo + (hi - lo) / 2) hk hkey hA (by omega) ?_)
          cases q : near left key (nth arr (base + (lo + (hi - lo) / 2))) with
          | true => exact wpS_pure ⟨rfl, _, hi, rfl, by omega, q2, by omega, fun i hi' => mono i _ (by omega) (by omega) q, q5⟩
          | false => exact wpS_pure ⟨rfl, lo, _, rfl, by omega, by omega, by omega, q4, fun i h6 h7 => anti _ i h6 h7 q⟩
end
end L2T
end
section
set_option Elab.async false
set_option linter.all false
set_option maxRecDepth 100000
set_option maxHeartbeats 4000000
namespace L2T
open PySem PySem.Spec PyProof.Rows
structure MI (r : Keyed → Keyed → Prop) (l o ra rb : List Keyed) : Prop where
  perm : (o ++ (ra ++ rb)).Perm l
  so : o.Pairwise r
  sa : ra.Pairwise r
  sb : rb.Pairwise r
  oa : ∀ x ∈ o, ∀ y ∈ ra, r x y
  ob : ∀ x ∈ o, ∀ y ∈ rb, r x y
section
variable {r : Keyed → Keyed → Prop} {l o ra rb t ra' rb' : List Keyed} {z : Keyed}
theorem MI.swap (m : MI r l o ra rb) : MI r l o rb ra := ⟨(List.Perm.append_left o List.perm_append_comm).trans m.perm, m.so, m.sb, m.sa, m.ob, m.oa⟩
theorem MI.a (m : MI r l o (t ++ ra') rb) (h : ∀ x ∈ t, ∀ y ∈ rb, r x y) : MI r l (o ++ t) ra' rb := by
  obtain ⟨q1, q2, q3⟩ := List.pairwise_append.mp m.sa
  refine ⟨?_, List.pairwise_append.mpr ⟨m.so, q1, fun x hx y hy => m.oa x hx y (List.mem_append_left _ hy)⟩, q2, m.sb, fun x hx y hy => ?_, fun x hx y hy => ?_⟩
  · rw [List.append_assoc, ← List.append_assoc t]
    exact m.perm
  · rcases List.mem_append.mp hx with hx | hx
    · exact m.oa x hx y (List.mem_append_right _ hy)
    · exact q3 x hx y hy
  · rcases List.mem_append.mp hx with hx | hx
    · exact m.ob x hx y hy
    · exact h x hx y hy
theorem MI.b (m : MI r l o ra (t ++ rb')) (h : ∀ x ∈ t, ∀ y ∈ ra, r x y) : MI r l (o ++ t) ra rb' := (m.swap.a h).swap
theorem MI.endB (m : MI r l o ra []) : (o ++ ra).Perm l ∧ (o ++ ra).Pairwise r := by
  have p := m.perm
  rw [List.append_nil] at p
  exact ⟨p, List.pairwise_append.mpr ⟨m.so, m.sa, m.oa⟩⟩
theorem MI.endA (m : MI r l o [] rb) : (o ++ rb).Perm l ∧ (o ++ rb).Pairwise r := m.swap.endB
theorem MI.last (m : MI r l o [z] rb) (h : ∀ y ∈ rb, r y z) : (o ++ rb ++ [z]).Perm l ∧ (o ++ rb ++ [z]).Pairwise r := by
  have q : MI r l (o ++ rb) [z] [] := MI.b (t := rb) (rb' := []) (by rw [List.append_nil]; exact m) fun x hx y hy => by rw [List.mem_singleton.mp hy]; exact h x hx
  exact q.endB
end
section
variable {a b : Array Keyed} {i k : Nat}
theorem drop_nth (h : i < a.size) : a.toList.drop i = nth a i :: a.toList.drop (i + 1) := by
  have hl : i < a.toList.length := h
  rw [List.drop_eq_getElem_cons hl]
  congr 1
  have e := nth_some h
  rw [← Array.getElem?_toList, List.getElem?_eq_getElem hl] at e
  exact Option.some.inj e
theorem drop_end (h : a.size ≤ i) : a.toList.drop i = [] := List.drop_eq_nil_of_le h
theorem ext_to (a : Array Keyed) (i k : Nat) : (a.extract i (i + k)).toList = (a.toList.drop i).take k := by
  rw [Array.toList_extract, List.extract_eq_take_drop, Nat.add_sub_cancel_left]
theorem ext_end (a : Array Keyed) (i : Nat) : (a.extract i).toList = a.toList.drop i := by
  rw [Array.toList_extract, List.extract_eq_take_drop]
  exact List.take_of_length_le (by rw [List.length_drop]; exact Nat.le_refl _)
theorem ext_first (a : Array Keyed) (k : Nat) : (a.extract 0 k).toList = a.toList.take k := by
  rw [Array.toList_extract, List.extract_eq_take_drop, Nat.sub_zero, List.drop_zero]
theorem mem_nth {x : Keyed} (h : x ∈ a.toList) : ∃ j, j < a.size ∧ x = nth a j := by
  obtain ⟨j, hj, e⟩ := List.mem_iff_getElem.mp h
  refine ⟨j, hj, ?_⟩
  have q := nth_some (arr := a) (i := j) hj
  rw [← Array.getElem?_toList, List.getElem?_eq_getElem hj, e] at q
  exact Option.some.inj q
theorem mem_drop {x : Keyed} (h : x ∈ a.toList.drop i) : ∃ j, i ≤ j ∧ j < a.size ∧ x = nth a j := by
  obtain ⟨j, hj, e⟩ := List.mem_iff_getElem.mp h
  rw [List.length_drop] at hj
  have hj' : i + j < a.size := by have : a.toList.length = a.size := rfl; omega
  refine ⟨i + j, Nat.le_add_right _ _, hj', ?_⟩
  rw [List.getElem_drop] at e
  have q := nth_some (arr := a) (i := i + j) hj'
  rw [← Array.getElem?_toList, List.getElem?_eq_getElem (by exact hj'), e] at q
  exact Option.some.inj q
theorem mem_mid {x : Keyed} (h : x ∈ (a.toList.drop i).take k) : ∃ j, i ≤ j ∧ j < i + k ∧ j < a.size ∧ x = nth a j := by
  obtain ⟨j, hj, e⟩ := List.mem_iff_getElem.mp h
  rw [List.length_take, List.length_drop] at hj
  have hz : a.toList.length = a.size := rfl
  have hj' : i + j < a.size := by omega
  refine ⟨i + j, Nat.le_add_right _ _, by omega, hj', ?_⟩
  rw [List.getElem_take, List.getElem_drop] at e
  have q := nth_some (arr := a) (i := i + j) hj'
  rw [← Array.getElem?_toList, List.getElem?_eq_getElem (by exact hj'), e] at q
  exact Option.some.inj q
def Rise (a : Array Keyed) (lo hi : Nat) : Prop := ∀ i j, lo ≤ i → i ≤ j → j < hi → num (nth a i) ≤ num (nth a j)
def le (x y : Keyed) : Prop := num x ≤ num y
theorem Rise.pairwise (h : Rise a 0 a.size) : a.toList.Pairwise le := by
  rw [List.pairwise_iff_getElem]
  intro i j hi hj hij
  have q := h i j (Nat.zero_le _) (Nat.le_of_lt hij) hj
  have e1 := nth_some (arr := a) (i := i) hi
  have e2 := nth_some (arr := a) (i := j) hj
  rw [← Array.getElem?_toList, List.getElem?_eq_getElem hi] at e1
  rw [← Array.getElem?_toList, List.getElem?_eq_getElem hj] at e2
  rw [← Option.some.inj e1, ← Option.some.inj e2] at q
  exact q
end
structure SameS (st st' : SortSt) : Prop where
  kind : kindOf st' = kindOf st
  arr : arrOf st' = arrOf st
  pend : pendingOf st' = pendingOf st
  fail : failedOf st' = failedOf st
theorem SameS.refl (st : SortSt) : SameS st st := ⟨rfl, rfl, rfl, rfl⟩
theorem SameS.trans {s1 s2 s3 : SortSt} (a : SameS s1 s2) (b : SameS s2 s3) : SameS s1 s3 := ⟨b.kind.trans a.kind, b.arr.trans a.arr, b.pend.trans a.pend, b.fail.trans a.fail⟩
theorem wps_ite {α : Type} {M : Model} {A : Around} {E : Value → Shared → Prop} {s : Shared} {c : Prop} [Decidable c] {x y : StateT SortSt Sem α} {Q : α → SortSt → Prop} {st : SortSt} (h1 : c → wpS M A E s x Q st) (h2 : ¬c → wpS M A E s y Q st) : wpS M A E s (if c then x else y) Q st := by
  by_cases h : c
  · rw [if_pos h]; exact h1 h
  · rw [if_neg h]; exact h2 h
def mergeLo' : Array Keyed → Array Keyed → StateT SortSt Sem (Array Keyed) := sortPriv% PySem.Builtin.mergeLo
def Mgd (a b r : Array Keyed) : Prop := r.toList.Perm (a.toList ++ b.toList) ∧ r.toList.Pairwise le
section
variable {a b out : Array Keyed} {ia ib : Nat}
abbrev ML (a b out : Array Keyed) (ia ib : Nat) : Prop := MI le (a.toList ++ b.toList) out.toList (a.toList.drop ia) (b.toList.drop ib)
theorem ML.endB (m : ML a b out ia ib) (h : b.size ≤ ib) : Mgd a b (out ++ a.extract ia ++ b.extract ib) := by
  have m : MI le (a.toList ++ b.toList) out.toList (a.toList.drop ia) (b.toList.drop ib) := m
  have e := ext_end b ib
  rw [drop_end h] at m e
  have q := m.endB
  unfold Mgd
  rw [Array.toList_append, Array.toList_append, e, ext_end, List.append_nil]
  exact q
theorem ML.endA (m : ML a b out ia ib) (h : a.size ≤ ia) : Mgd a b (out ++ a.extract ia ++ b.extract ib) := by
  have m : MI le (a.toList ++ b.toList) out.toList (a.toList.drop ia) (b.toList.drop ib) := m
  have e := ext_end a ia
  rw [drop_end h] at m e
  have q := m.endA
  unfold Mgd
  rw [Array.toList_append, Array.toList_append, e, ext_end, List.append_nil]
  exact q
theorem ML.last (m : ML a b out ia ib) (h : ia + 1 = a.size) (hl : ∀ i, i < b.size → num (nth b i) ≤ num (nth a (a.size - 1))) : Mgd a b (out ++ b.extract ib ++ a.extract ia) := by
  have m : MI le (a.toList ++ b.toList) out.toList (a.toList.drop ia) (b.toList.drop ib) := m
  have e := ext_end a ia
  rw [drop_nth (by omega), drop_end (by omega : a.size ≤ ia + 1)] at m e
  have q := m.last fun y hy => by
    obtain ⟨j, _, hj, rfl⟩ := mem_drop hy
    have z := hl j hj
    rw [show a.size - 1 = ia by omega] at z
    exact z
  unfold Mgd
  rw [Array.toList_append, Array.toList_append, e, ext_end]
  exact q
theorem ML.takeA (m : ML a b out ia ib) (k : Nat) (h : ∀ j, ia ≤ j → j < ia + k → j < a.size → ∀ i, ib ≤ i → i < b.size → num (nth a j) ≤ num (nth b i)) : ML a b (out ++ a.extract ia (ia + k)) (ia + k) ib := by
  have m : MI le (a.toList ++ b.toList) out.toList (a.toList.drop ia) (b.toList.drop ib) := m
  rw [← List.take_append_drop k (a.toList.drop ia), List.drop_drop] at m
  have q := m.a fun x hx y hy => by
    obtain ⟨j, h1, h2, h3, rfl⟩ := mem_mid hx
    obtain ⟨i, h4, h5, rfl⟩ := mem_drop hy
    exact h j h1 h2 h3 i h4 h5
  show MI le _ (out ++ a.extract ia (ia + k)).toList _ _
  rw [Array.toList_append, ext_to]
  exact q
theorem ML.takeB (m : ML a b out ia ib) (k : Nat) (h : ∀ j, ib ≤ j → j < ib + k → j < b.size → ∀ i, ia ≤ i → i < a.size → num (nth b j) ≤ num (nth a i)) : ML a b (out ++ b.extract ib (ib + k)) ia (ib + k) := by
  have m : MI le (a.toList ++ b.toList) out.toList (a.toList.drop ia) (b.toList.drop ib) := m
  rw [← List.take_append_drop k (b.toList.drop ib), List.drop_drop] at m
  have q := m.b fun x hx y hy => by
    obtain ⟨j, h1, h2, h3, rfl⟩ := mem_mid hx
    obtain ⟨i, h4, h5, rfl⟩ := mem_drop hy
    exact h j h1 h2 h3 i h4 h5
  show MI le _ (out ++ b.extract ib (ib + k)).toList _ _
  rw [Array.toList_append, ext_to]
  exact q
theorem one_ext (h : ia < a.size) : out ++ a.extract ia (ia + 1) = out.push (nth a ia) := by
  apply Array.toList_inj.mp
  rw [Array.toList_append, ext_to, drop_nth h, Array.toList_push]
  rfl
theorem ML.pushA (m : ML a b out ia ib) (h : ia < a.size) (hle : ∀ i, ib ≤ i → i < b.size → num (nth a ia) ≤ num (nth b i)) : ML a b (out.push (nth a ia)) (ia + 1) ib := by
  rw [← one_ext h]
  exact m.takeA 1 fun j h1 h2 _ => by rw [show j = ia by omega]; exact hle
theorem ML.pushB (m : ML a b out ia ib) (h : ib < b.size) (hle : ∀ i, ia ≤ i → i < a.size → num (nth b ib) ≤ num (nth a i)) : ML a b (out.push (nth b ib)) ia (ib + 1) := by
  rw [← one_ext h]
  exact m.takeB 1 fun j h1 h2 _ => by rw [show j = ib by omega]; exact hle
end
end L2T
end
section
set_option Elab.async false
set_option linter.all false
set_option maxRecDepth 100000
set_option maxHeartbeats 4000000
namespace L2T
open PySem PySem.Spec PyProof.Rows
section
variable {prog : Program} {w : World} {A : Around} {E : Value → Shared → Prop} {s : Shared} {st : SortSt} {a b : Array Keyed}
theorem near_right {key x : Keyed} : near false key x = true ↔ num x ≤ num key := by
  unfold near
  rw [if_neg Bool.false_ne_true, Bool.not_eq_true', decide_eq_false_iff_not, Int.not_lt]
theorem near_rightF {key x : Keyed} : near false key x = false ↔ num key < num x := by
  unfold near
  rw [if_neg Bool.false_ne_true, Bool.not_eq_false', decide_eq_true_iff]
theorem near_left {key x : Keyed} : near true key x = true ↔ num x < num key := by
  unfold near
  rw [if_pos rfl, decide_eq_true_iff]
theorem near_leftF {key x : Keyed} : near true key x = false ↔ num key ≤ num x := by
  unfold near
  rw [if_pos rfl, decide_eq_false_iff_not, Int.not_lt]
theorem near_mono {left : Bool} {key : Keyed} {arr : Array Keyed} {base n : Nat} (h : Rise arr base (base + n)) : ∀ i j, i ≤ j → j < n → near left key (nth arr (base + j)) = true → near left key (nth arr (base + i)) = true := by
  intro i j hij hj e
  have q := h (base + i) (base + j) (by omega) (by omega) (by omega)
  cases left with
  | true => rw [near_left] at e ⊢; omega
  | false => rw [near_right] at e ⊢; omega
theorem Rise.sub {lo hi lo' hi' : Nat} (h : Rise a lo hi) (h1 : lo ≤ lo') (h2 : hi' ≤ hi) : Rise a lo' hi' := fun i j q1 q2 q3 => h i j (by omega) q2 (by omega)
theorem tm_lo {Q : Array Keyed → SortSt → Prop} (hk : kindOf st = oneType') (iA : AllI a) (iB : AllI b) (ha : 0 < a.size) (hb : 0 < b.size) (sA : Rise a 0 a.size) (sB : Rise b 0 b.size)
    (first : ∀ i, i < a.size → num (nth b 0) ≤ num (nth a i)) (last : ∀ i, i < b.size → num (nth b i) ≤ num (nth a (a.size - 1)))
    (h : ∀ r st', Mgd a b r → SameS st st' → Q r st') : wpS (model prog w) A E s (mergeLo' a b) Q st := by
  refine wpS_bind (wpS_lift (wpAny_rule ⟨rfl, ?_⟩))
  refine wpS_bind (tm_elem hb ?_)
  have m0 : ML a b #[nth b 0] 0 1 := by
    have q : ML a b #[] 0 0 := ⟨by show (([] : List Keyed) ++ (a.toList.drop 0 ++ b.toList.drop 0)).Perm _; exact List.Perm.refl _, List.Pairwise.nil, sA.pairwise, sB.pairwise, fun x hx => (by cases hx), fun x hx => (by cases hx)⟩
    exact q.pushB hb fun i _ hi => first i hi
  dsimp only
  by_cases e1 : 1 = b.size
  · rw [if_pos (beq_iff_eq.mpr e1)]
    exact wpS_pure (h _ _ (m0.endB (by omega)) (SameS.refl _))
  rw [if_neg (fun z => e1 (beq_iff_eq.mp z))]
  by_cases e2 : 0 + 1 = a.size
  · rw [if_pos (beq_iff_eq.mpr e2)]
    exact wpS_pure (h _ _ (m0.last e2 last) (SameS.refl _))
  rw [if_neg (fun z => e2 (beq_iff_eq.mp z))]
  refine wpS_bind (wpS_get ?_)
  refine wpS_bind (wpS_mono (wpS_forRange
    (I := fun x c st' => SameS st st' ∧ ∃ out ia ib g, c = (none, out, ia, ib, g) ∧ ML a b out ia ib ∧ ia + 1 < a.size ∧ ib < b.size ∧ x + 1 ≤ ia + ib)
    (Q := fun c st' => SameS st st' ∧ ∃ r c', c = (some r, c') ∧ Mgd a b r) ?step ?fin ⟨SameS.refl _, _, 0, 1, _, rfl, m0, by omega, by omega, by omega⟩) ?post)
  case post =>
    rintro c st' ⟨ss, r, c', rfl, hr⟩
    exact wpS_pure (h r st' hr ss)
  case fin =>
    rintro c st' ⟨ss, out, ia, ib, g, rfl, m, h1, h2, h3⟩
    omega
  case step =>
    rintro x c st' _ hx ⟨ss, out, ia, ib, g, rfl, m, h1, h2, h3⟩
    dsimp only
    have hk1 : kindOf st' = oneType' := ss.kind.trans hk
    refine wpS_bind (wpS_mono (wpS_forRange
      (I := fun y c st'' => st'' = st' ∧ ∃ out ja jb ac bc, c = (none, out, ja, jb, ac, bc) ∧ ML a b out ja jb ∧ ja + 1 < a.size ∧ jb < b.size ∧ ia + ib + y ≤ ja + jb)
      (Q := fun c st'' => st'' = st' ∧ ((∃ r c', c = (some r, c') ∧ Mgd a b r) ∨ ∃ out ja jb ac bc, c = (none, out, ja, jb, ac, bc) ∧ ML a b out ja jb ∧ ja + 1 < a.size ∧ jb < b.size ∧ ia + ib + 1 ≤ ja + jb)) ?istep ?ifin ⟨rfl, out, ia, ib, 0, 0, rfl, m, h1, h2, by omega⟩) ?ipost)
    case ifin =>
      rintro c st'' ⟨rfl, out, ja, jb, ac, bc, rfl, m, q1, q2, q3⟩
      exact ⟨rfl, .inr ⟨out, ja, jb, ac, bc, rfl, m, q1, q2, by omega⟩⟩
    case istep =>
      rintro y c st'' _ hy ⟨rfl, out, ja, jb, ac, bc, rfl, m, q1, q2, q3⟩
      dsimp only
      refine wpS_bind (tm_elem q2 (wpS_bind (tm_elem (by omega) (wpS_bind (tm_lt hk1 (iB _ q2) (iA _ (by omega)) ?_)))))
      by_cases lt : num (nth b jb) < num (nth a ja)
      · rw [decide_eq_true lt]
        dsimp only
        rw [if_pos rfl]
        refine wpS_bind (tm_elem q2 ?_)
        have m2 := m.pushB q2 fun i hi hi2 => Int.le_trans (Int.le_of_lt lt) (sA ja i (Nat.zero_le _) hi hi2)
        by_cases e : jb + 1 = b.size
        · rw [if_pos (beq_iff_eq.mpr e)]
          exact wpS_pure ⟨rfl, .inl ⟨_, _, rfl, m2.endB (by omega)⟩⟩
        · rw [if_neg (fun z => e (beq_iff_eq.mp z))]
          split
          · exact wpS_pure ⟨rfl, .inr ⟨_, ja, jb + 1, _, _, rfl, m2, q1, by omega, by omega⟩⟩
          · exact wpS_pure ⟨rfl, _, ja, jb + 1, _, _, rfl, m2, q1, by omega, by omega⟩
      · rw [decide_eq_false lt]
        dsimp only
        rw [if_neg Bool.false_ne_true]
        refine wpS_bind (tm_elem (by omega) ?_)
        have m2 := m.pushA (by omega) fun i hi hi2 => Int.le_trans (Int.not_lt.mp lt) (sB jb i (Nat.zero_le _) hi hi2)
        by_cases e : ja + 1 + 1 = a.size
        · rw [if_pos (beq_iff_eq.mpr e)]
          exact wpS_pure ⟨rfl, .inl ⟨_, _, rfl, m2.last e last⟩⟩
        · rw [if_neg (fun z => e (beq_iff_eq.mp z))]
          split
          · exact wpS_pure ⟨rfl, .inr ⟨_, ja + 1, jb, _, _, rfl, m2, by omega, q2, by omega⟩⟩
          · exact wpS_pure ⟨rfl, _, ja + 1, jb, _, _, rfl, m2, by omega, q2, by omega⟩
    case ipost =>
      rintro c st'' ⟨rfl, ⟨r, c', rfl, hr⟩ | ⟨out, ja, jb, ac, bc, rfl, m, q1, q2, q3⟩⟩
      · exact wpS_pure ⟨ss, r, _, rfl, hr⟩
      dsimp only
      refine wpS_bind (wpS_lift (wpAny_rule ⟨rfl, ?_⟩))
      refine wpS_bind (wpS_mono (wpS_forRange
        (I := fun y c st2 => SameS st'' st2 ∧ ∃ out ka kb g ac bc, c = (none, out, ka, kb, g, ac, bc) ∧ ML a b out ka kb ∧ ka + 1 < a.size ∧ kb < b.size ∧ ja + jb ≤ ka + kb)
        (Q := fun c st2 => SameS st'' st2 ∧ ((∃ r c', c = (some r, c') ∧ Mgd a b r) ∨ ∃ out ka kb g ac bc, c = (none, out, ka, kb, g, ac, bc) ∧ ML a b out ka kb ∧ ka + 1 < a.size ∧ kb < b.size ∧ ja + jb ≤ ka + kb)) ?gstep ?gfin ⟨SameS.refl _, out, ja, jb, _, _, _, rfl, m, q1, q2, Nat.le_refl _⟩) ?gpost)
      case gfin =>
        rintro c st2 ⟨s2, w⟩
        exact ⟨s2, .inr w⟩
      case gpost =>
        rintro c st2 ⟨s2, ⟨r, c', rfl, hr⟩ | ⟨out, ka, kb, g, ac, bc, rfl, m, w1, w2, w3⟩⟩
        · exact wpS_pure ⟨ss.trans s2, r, _, rfl, hr⟩
        · dsimp only
          refine wpS_bind (wpS_modify (wpS_pure ⟨(ss.trans s2).trans ⟨rfl, rfl, rfl, rfl⟩, out, ka, kb, _, rfl, m, w1, w2, by omega⟩))
      case gstep =>
        rintro y c st2 _ hy ⟨s2, out, ka, kb, g, ac, bc, rfl, m, w1, w2, w3⟩
        dsimp only
        have s3 : SameS st'' (SortSt.mk' (kindOf st2) (arrOf st2) (pendingOf st2) (if g > 1 then g - 1 else g) (failedOf st2)) := ⟨s2.kind, s2.arr, s2.pend, s2.fail⟩
        have hk3 := s3.kind.trans hk1
        refine wps_ite (fun gg => ?_) (fun gg => ?_)
        all_goals
          first | rw [if_pos gg] at s3 hk3 | rw [if_neg gg] at s3 hk3
          refine wpS_bind (wpS_modify ?_)
          refine wpS_bind (tm_elem w2 (wpS_bind (tm_gallop (left := false) (key := nth b kb) (arr := a) (base := ka) (n := a.size - ka) (hint := 0) hk3 (iB _ w2) iA (by omega) (by omega) (near_mono (sA.sub (Nat.zero_le _) (by omega))) fun k k1 k2 k3 => ?_)))
          dsimp only
          have big : ∀ i, ka + k ≤ i → i < a.size → num (nth b kb) < num (nth a i) := fun i h5 h6 => by
            have z := near_rightF.mp (k3 (i - ka) (by omega) (by omega))
            rw [show ka + (i - ka) = i by omega] at z
            exact z
          have m2 := m.takeA k fun j h5 h6 h7 i h8 h9 => by
            have z := near_right.mp (k2 (j - ka) (by omega))
            rw [show ka + (j - ka) = j by omega] at z
            exact Int.le_trans z (sB kb i (Nat.zero_le _) h8 h9)
          by_cases kp : k > 0
          · rw [if_pos kp]
            by_cases e1 : ka + k + 1 = a.size
            · rw [if_pos (beq_iff_eq.mpr e1)]
              exact wpS_pure ⟨s3, .inl ⟨_, _, rfl, m2.last e1 last⟩⟩
            rw [if_neg (fun z => e1 (beq_iff_eq.mp z))]
            by_cases e2 : ka + k = a.size
            · rw [if_pos (beq_iff_eq.mpr e2)]
              exact wpS_pure ⟨s3, .inl ⟨_, _, rfl, m2.endA (by omega)⟩⟩
            rw [if_neg (fun z => e2 (beq_iff_eq.mp z))]
            refine wpS_bind (tm_elem w2 ?_)
            have m3 := m2.pushB w2 fun i hi hi2 => Int.le_of_lt (big i hi hi2)
            by_cases e3 : kb + 1 = b.size
            · rw [if_pos (beq_iff_eq.mpr e3)]
              exact wpS_pure ⟨s3, .inl ⟨_, _, rfl, m3.endB (by omega)⟩⟩
            rw [if_neg (fun z => e3 (beq_iff_eq.mp z))]
            refine wpS_bind (tm_elem (by omega) (wpS_bind (tm_gallop (left := true) (key := nth a (ka + k)) (arr := b) (base := kb + 1) (n := b.size - (kb + 1)) (hint := 0) hk3 (iA _ (by omega)) iB (by omega) (by omega) (near_mono (sB.sub (Nat.zero_le _) (by omega))) fun k' u1 u2 u3 => ?_)))
            dsimp only
            have small : ∀ i, kb + 1 + k' ≤ i → i < b.size → num (nth a (ka + k)) ≤ num (nth b i) := fun i h5 h6 => by
              have z := near_leftF.mp (u3 (i - (kb + 1)) (by omega) (by omega))
              rw [show kb + 1 + (i - (kb + 1)) = i by omega] at z
              exact z
            have m4 := m3.takeB k' fun j h5 h6 h7 i h8 h9 => by
              have z := near_left.mp (u2 (j - (kb + 1)) (by omega))
              rw [show kb + 1 + (j - (kb + 1)) = j by omega] at z
              exact Int.le_trans (Int.le_of_lt z) (sA _ i (Nat.zero_le _) h8 h9)
            by_cases kp' : k' > 0
            · rw [if_pos kp']
              by_cases e4 : kb + 1 + k' = b.size
              · rw [if_pos (beq_iff_eq.mpr e4)]
                exact wpS_pure ⟨s3, .inl ⟨_, _, rfl, m4.endB (by omega)⟩⟩
              · rw [if_neg (fun z => e4 (beq_iff_eq.mp z))]
                refine wpS_bind (tm_elem (by omega) ?_)
                have m5 := m4.pushA (by omega) small
                by_cases e5 : ka + k + 1 + 1 = a.size
                · rw [if_pos (beq_iff_eq.mpr e5)]
                  exact wpS_pure ⟨s3, .inl ⟨_, _, rfl, m5.last e5 last⟩⟩
                · rw [if_neg (fun z => e5 (beq_iff_eq.mp z))]
                  split
                  · exact wpS_pure ⟨s3, .inr ⟨_, _, _, _, _, _, rfl, m5, by omega, by omega, by omega⟩⟩
                  · exact wpS_pure ⟨s3, _, _, _, _, _, _, rfl, m5, by omega, by omega, by omega⟩
            · rw [if_neg kp']
              obtain rfl : k' = 0 := by omega
              have small : ∀ i, kb + 1 ≤ i → i < b.size → num (nth a (ka + k)) ≤ num (nth b i) := small
              refine wpS_bind (tm_elem (by omega) ?_)
              have m5 := m3.pushA (by omega) small
              by_cases e5 : ka + k + 1 + 1 = a.size
              · rw [if_pos (beq_iff_eq.mpr e5)]
                exact wpS_pure ⟨s3, .inl ⟨_, _, rfl, m5.last e5 last⟩⟩
              · rw [if_neg (fun z => e5 (beq_iff_eq.mp z))]
                split
                · exact wpS_pure ⟨s3, .inr ⟨_, _, _, _, _, _, rfl, m5, by omega, by omega, by omega⟩⟩
                · exact wpS_pure ⟨s3, _, _, _, _, _, _, rfl, m5, by omega, by omega, by omega⟩
          · rw [if_neg kp]
            obtain rfl : k = 0 := by omega
            have big : ∀ i, ka ≤ i → i < a.size → num (nth b kb) < num (nth a i) := big
            refine wpS_bind (tm_elem w2 ?_)
            have m3 := m.pushB w2 fun i hi hi2 => Int.le_of_lt (big i hi hi2)
            by_cases e3 : kb + 1 = b.size
            · rw [if_pos (beq_iff_eq.mpr e3)]
              exact wpS_pure ⟨s3, .inl ⟨_, _, rfl, m3.endB (by omega)⟩⟩
            rw [if_neg (fun z => e3 (beq_iff_eq.mp z))]
            refine wpS_bind (tm_elem (by omega) (wpS_bind (tm_gallop (left := true) (key := nth a (ka)) (arr := b) (base := kb + 1) (n := b.size - (kb + 1)) (hint := 0) hk3 (iA _ (by omega)) iB (by omega) (by omega) (near_mono (sB.sub (Nat.zero_le _) (by omega))) fun k' u1 u2 u3 => ?_)))
            dsimp only
            have small : ∀ i, kb + 1 + k' ≤ i → i < b.size → num (nth a (ka)) ≤ num (nth b i) := fun i h5 h6 => by
              have z := near_leftF.mp (u3 (i - (kb + 1)) (by omega) (by omega))
              rw [show kb + 1 + (i - (kb + 1)) = i by omega] at z
              exact z
            have m4 := m3.takeB k' fun j h5 h6 h7 i h8 h9 => by
              have z := near_left.mp (u2 (j - (kb + 1)) (by omega))
              rw [show kb + 1 + (j - (kb + 1)) = j by omega] at z
              exact Int.le_trans (Int.le_of_lt z) (sA _ i (Nat.zero_le _) h8 h9)
            by_cases kp' : k' > 0
            · rw [if_pos kp']
              by_cases e4 : kb + 1 + k' = b.size
              · rw [if_pos (beq_iff_eq.mpr e4)]
                exact wpS_pure ⟨s3, .inl ⟨_, _, rfl, m4.endB (by omega)⟩⟩
              · rw [if_neg (fun z => e4 (beq_iff_eq.mp z))]
                refine wpS_bind (tm_elem (by omega) ?_)
                have m5 := m4.pushA (by omega) small
                by_cases e5 : ka + 1 + 1 = a.size
                · rw [if_pos (beq_iff_eq.mpr e5)]
                  exact wpS_pure ⟨s3, .inl ⟨_, _, rfl, m5.last e5 last⟩⟩
                · rw [if_neg (fun z => e5 (beq_iff_eq.mp z))]
                  split
                  · exact wpS_pure ⟨s3, .inr ⟨_, _, _, _, _, _, rfl, m5, by omega, by omega, by omega⟩⟩
                  · exact wpS_pure ⟨s3, _, _, _, _, _, _, rfl, m5, by omega, by omega, by omega⟩
            · rw [if_neg kp']
              obtain rfl : k' = 0 := by omega
              have small : ∀ i, kb + 1 ≤ i → i < b.size → num (nth a (ka)) ≤ num (nth b i) := small
              refine wpS_bind (tm_elem (by omega) ?_)
              have m5 := m3.pushA (by omega) small
              by_cases e5 : ka + 1 + 1 = a.size
              · rw [if_pos (beq_iff_eq.mpr e5)]
                exact wpS_pure ⟨s3, .inl ⟨_, _, rfl, m5.last e5 last⟩⟩
              · rw [if_neg (fun z => e5 (beq_iff_eq.mp z))]
                split
                · exact wpS_pure ⟨s3, .inr ⟨_, _, _, _, _, _, rfl, m5, by omega, by omega, by omega⟩⟩
                · exact wpS_pure ⟨s3, _, _, _, _, _, _, rfl, m5, by omega, by omega, by omega⟩
end
end L2T
end
section
set_option Elab.async false
set_option linter.all false
set_option maxRecDepth 100000
set_option maxHeartbeats 4000000
namespace L2T
open PySem PySem.Spec PyProof.Rows
def mergeHi' : Array Keyed → Array Keyed → StateT SortSt Sem (Array Keyed) := sortPriv% PySem.Builtin.mergeHi
def ge (x y : Keyed) : Prop := num y ≤ num x
section
variable {a b out : Array Keyed} {na nb : Nat}
abbrev MH (a b out : Array Keyed) (na nb : Nat) : Prop := MI ge (a.toList ++ b.toList) out.toList (a.toList.take na).reverse (b.toList.take nb).reverse
theorem mem_take {x : Keyed} {n : Nat} (h : x ∈ (a.toList.take n).reverse) : ∃ j, j < n ∧ j < a.size ∧ x = nth a j := by
  have h := List.mem_reverse.mp h
  obtain ⟨j, h1, h2, h3, e⟩ := mem_mid (a := a) (i := 0) (k := n) h
  exact ⟨j, by omega, h3, e⟩
theorem rev_ge {l : List Keyed} (h : l.Pairwise ge) : l.reverse.Pairwise le := List.pairwise_reverse.mpr h
theorem rev_le {l : List Keyed} (h : l.Pairwise le) : l.reverse.Pairwise ge := List.pairwise_reverse.mpr h
theorem rev_mgd {r : Array Keyed} {l : List Keyed} (e : r.toList = l.reverse) (h : l.Perm (a.toList ++ b.toList) ∧ l.Pairwise ge) : Mgd a b r := by
  unfold Mgd
  rw [e]
  exact ⟨(List.reverse_perm _).trans h.1, rev_ge h.2⟩
theorem MH.endB (m : MH a b out na 0) : Mgd a b (a.extract 0 na ++ b.extract 0 0 ++ out.reverse) := by
  have m : MI ge (a.toList ++ b.toList) out.toList (a.toList.take na).reverse [] := m
  refine rev_mgd ?_ m.endB
  rw [Array.toList_append, Array.toList_append, ext_first, ext_first, Array.toList_reverse, List.reverse_append, List.reverse_reverse, List.take_zero, List.append_nil]
theorem MH.endA (m : MH a b out 0 nb) : Mgd a b (a.extract 0 0 ++ b.extract 0 nb ++ out.reverse) := by
  have m : MI ge (a.toList ++ b.toList) out.toList [] (b.toList.take nb).reverse := m
  refine rev_mgd ?_ m.endA
  rw [Array.toList_append, Array.toList_append, ext_first, ext_first, Array.toList_reverse, List.reverse_append, List.reverse_reverse, List.take_zero, List.nil_append]
theorem MH.first (m : MH a b out na 1) (hb : 0 < b.size) (hl : ∀ i, i < a.size → num (nth b 0) ≤ num (nth a i)) : Mgd a b (b.extract 0 1 ++ a.extract 0 na ++ out.reverse) := by
  have m : MI ge (a.toList ++ b.toList) out.toList (a.toList.take na).reverse (b.toList.take 1).reverse := m
  have e : b.toList.take 1 = [nth b 0] := by
    have z := drop_nth (a := b) (i := 0) hb
    rw [List.drop_zero] at z
    rw [z]
    rfl
  rw [e] at m
  have q := m.swap.last fun y hy => by
    obtain ⟨j, _, hj, rfl⟩ := mem_take hy
    exact hl j hj
  refine rev_mgd ?_ q
  rw [Array.toList_append, Array.toList_append, ext_first, ext_first, Array.toList_reverse, e]
  simp only [List.reverse_append, List.reverse_reverse, List.reverse_cons, List.reverse_nil, List.nil_append, List.append_assoc]
theorem take_cut (l : List Keyed) {n k : Nat} (h : k ≤ n) : (l.take n).reverse = ((l.drop k).take (n - k)).reverse ++ (l.take k).reverse := by
  rw [← List.reverse_append]
  congr 1
  obtain ⟨d, rfl⟩ := Nat.exists_eq_add_of_le h
  rw [List.take_add, Nat.add_sub_cancel_left]
theorem ext_rev (a : Array Keyed) (k n : Nat) : (a.extract k n).reverse.toList = ((a.toList.drop k).take (n - k)).reverse := by
  rw [Array.toList_reverse, Array.toList_extract, List.extract_eq_take_drop]
theorem MH.takeA (m : MH a b out na nb) {k : Nat} (hk : k ≤ na) (h : ∀ j, k ≤ j → j < na → j < a.size → ∀ i, i < nb → i < b.size → num (nth b i) ≤ num (nth a j)) : MH a b (out ++ (a.extract k na).reverse) k nb := by
  have m : MI ge (a.toList ++ b.toList) out.toList (a.toList.take na).reverse (b.toList.take nb).reverse := m
  rw [take_cut a.toList hk] at m
  have q := m.a fun x hx y hy => by
    obtain ⟨j, h1, h2, h3, rfl⟩ := mem_mid (List.mem_reverse.mp hx)
    obtain ⟨i, h4, h5, rfl⟩ := mem_take hy
    exact h j h1 (by omega) h3 i h4 h5
  show MI ge _ (out ++ (a.extract k na).reverse).toList _ _
  rw [Array.toList_append, ext_rev]
  exact q
theorem MH.takeB (m : MH a b out na nb) {k : Nat} (hk : k ≤ nb) (h : ∀ j, k ≤ j → j < nb → j < b.size → ∀ i, i < na → i < a.size → num (nth a i) ≤ num (nth b j)) : MH a b (out ++ (b.extract k nb).reverse) na k := by
  have m : MI ge (a.toList ++ b.toList) out.toList (a.toList.take na).reverse (b.toList.take nb).reverse := m
  rw [take_cut b.toList hk] at m
  have q := m.b fun x hx y hy => by
    obtain ⟨j, h1, h2, h3, rfl⟩ := mem_mid (List.mem_reverse.mp hx)
    obtain ⟨i, h4, h5, rfl⟩ := mem_take hy
    exact h j h1 (by omega) h3 i h4 h5
  show MI ge _ (out ++ (b.extract k nb).reverse).toList _ _
  rw [Array.toList_append, ext_rev]
  exact q
theorem one_rev (h0 : 0 < na) (h : na ≤ a.size) : out ++ (a.extract (na - 1) na).reverse = out.push (nth a (na - 1)) := by
  apply Array.toList_inj.mp
  rw [Array.toList_append, ext_rev, drop_nth (by omega), Array.toList_push, show na - (na - 1) = 1 by omega]
  rfl
theorem MH.pushA (m : MH a b out na nb) (h0 : 0 < na) (h : na ≤ a.size) (hle : ∀ i, i < nb → i < b.size → num (nth b i) ≤ num (nth a (na - 1))) : MH a b (out.push (nth a (na - 1))) (na - 1) nb := by
  rw [← one_rev h0 h]
  exact m.takeA (by omega) fun j h1 h2 _ => by rw [show j = na - 1 by omega]; exact hle
theorem MH.pushB (m : MH a b out na nb) (h0 : 0 < nb) (h : nb ≤ b.size) (hle : ∀ i, i < na → i < a.size → num (nth a i) ≤ num (nth b (nb - 1))) : MH a b (out.push (nth b (nb - 1))) na (nb - 1) := by
  rw [← one_rev h0 h]
  exact m.takeB (by omega) fun j h1 h2 _ => by rw [show j = nb - 1 by omega]; exact hle
end
section
variable {prog : Program} {w : World} {A : Around} {E : Value → Shared → Prop} {s : Shared} {st : SortSt} {a b : Array Keyed}
theorem tm_hi {Q : Array Keyed → SortSt → Prop} (hk : kindOf st = oneType') (iA : AllI a) (iB : AllI b) (ha : 0 < a.size) (hb : 0 < b.size) (sA : Rise a 0 a.size) (sB : Rise b 0 b.size)
    (first : ∀ i, i < a.size → num (nth b 0) ≤ num (nth a i)) (last : ∀ i, i < b.size → num (nth b i) ≤ num (nth a (a.size - 1)))
    (h : ∀ r st', Mgd a b r → SameS st st' → Q r st') : wpS (model prog w) A E s (mergeHi' a b) Q st := by
  refine wpS_bind (wpS_lift (wpAny_rule ⟨rfl, ?_⟩))
  refine wpS_bind (tm_elem (by omega) ?_)
  have m0 : MH a b #[nth a (a.size - 1)] (a.size - 1) b.size := by
    have q : MH a b #[] a.size b.size := by
      have e1 : a.toList.take a.size = a.toList := List.take_of_length_le (Nat.le_refl _)
      have e2 : b.toList.take b.size = b.toList := List.take_of_length_le (Nat.le_refl _)
      show MI ge _ ([] : List Keyed) (a.toList.take a.size).reverse (b.toList.take b.size).reverse
      rw [e1, e2]
      exact ⟨by rw [List.nil_append]; exact (List.reverse_perm _).append (List.reverse_perm _), List.Pairwise.nil, rev_le sA.pairwise, rev_le sB.pairwise, fun x hx => (by cases hx), fun x hx => (by cases hx)⟩
    exact q.pushA ha (Nat.le_refl _) fun i _ hi => last i hi
  dsimp only
  by_cases e1 : a.size - 1 = 0
  · rw [if_pos (beq_iff_eq.mpr e1)]
    rw [e1] at m0 ⊢
    exact wpS_pure (h _ _ m0.endA (SameS.refl _))
  rw [if_neg (fun z => e1 (beq_iff_eq.mp z))]
  by_cases e2 : b.size = 1
  · rw [if_pos (beq_iff_eq.mpr e2)]
    have q := MH.first (by rw [e2] at m0; exact m0) hb first
    have e3 : b.extract 0 1 = b.extract := by rw [← e2]
    rw [e3] at q
    exact wpS_pure (h _ _ q (SameS.refl _))
  rw [if_neg (fun z => e2 (beq_iff_eq.mp z))]
  refine wpS_bind (wpS_get ?_)
  refine wpS_bind (wpS_mono (wpS_forRange
    (I := fun x c st' => SameS st st' ∧ ∃ na nb out g, c = (none, na, nb, out, g) ∧ MH a b out na nb ∧ 0 < na ∧ 1 < nb ∧ na ≤ a.size ∧ nb ≤ b.size ∧ x + 1 + na + nb ≤ a.size + b.size)
    (Q := fun c st' => SameS st st' ∧ ∃ r c', c = (some r, c') ∧ Mgd a b r) ?step ?fin ⟨SameS.refl _, _, _, _, _, rfl, m0, by omega, by omega, by omega, by omega, by omega⟩) ?post)
  case post =>
    rintro c st' ⟨ss, r, c', rfl, hr⟩
    exact wpS_pure (h r st' hr ss)
  case fin =>
    rintro c st' ⟨ss, na, nb, out, g, rfl, m, h1, h2, h3, h4, h5⟩
    omega
  case step =>
    rintro x c st' _ hx ⟨ss, na, nb, out, g, rfl, m, h1, h2, h3, h4, h5⟩
    dsimp only
    have hk1 : kindOf st' = oneType' := ss.kind.trans hk
    refine wpS_bind (wpS_mono (wpS_forRange
      (I := fun y c st'' => st'' = st' ∧ ∃ ja jb out ac bc, c = (none, ja, jb, out, ac, bc) ∧ MH a b out ja jb ∧ 0 < ja ∧ 1 < jb ∧ ja ≤ a.size ∧ jb ≤ b.size ∧ y + ja + jb ≤ na + nb)
      (Q := fun c st'' => st'' = st' ∧ ((∃ r c', c = (some r, c') ∧ Mgd a b r) ∨ ∃ ja jb out ac bc, c = (none, ja, jb, out, ac, bc) ∧ MH a b out ja jb ∧ 0 < ja ∧ 1 < jb ∧ ja ≤ a.size ∧ jb ≤ b.size ∧ 1 + ja + jb ≤ na + nb)) ?istep ?ifin ⟨rfl, na, nb, out, 0, 0, rfl, m, h1, h2, h3, h4, by omega⟩) ?ipost)
    case ifin =>
      rintro c st'' ⟨rfl, ja, jb, out, ac, bc, rfl, m, q1, q2, q3, q4, q5⟩
      exact ⟨rfl, .inr ⟨ja, jb, out, ac, bc, rfl, m, q1, q2, q3, q4, by omega⟩⟩
    case istep =>
      rintro y c st'' _ hy ⟨rfl, ja, jb, out, ac, bc, rfl, m, q1, q2, q3, q4, q5⟩
      dsimp only
      refine wpS_bind (tm_elem (by omega) (wpS_bind (tm_elem (by omega) (wpS_bind (tm_lt hk1 (iB _ (by omega)) (iA _ (by omega)) ?_)))))
      by_cases lt : num (nth b (jb - 1)) < num (nth a (ja - 1))
      · rw [decide_eq_true lt]
        dsimp only
        rw [if_pos rfl]
        refine wpS_bind (tm_elem (by omega) ?_)
        have m2 := m.pushA q1 q3 fun i hi hi2 => Int.le_trans (sB i (jb - 1) (Nat.zero_le _) (by omega) (by omega)) (Int.le_of_lt lt)
        by_cases e : ja - 1 = 0
        · rw [if_pos (beq_iff_eq.mpr e)]
          rw [e] at m2 ⊢
          exact wpS_pure ⟨rfl, .inl ⟨_, _, rfl, m2.endA⟩⟩
        · rw [if_neg (fun z => e (beq_iff_eq.mp z))]
          refine wps_ite (fun _ => wpS_pure ⟨rfl, .inr ⟨_, _, _, _, _, rfl, m2, by omega, by omega, by omega, by omega, by omega⟩⟩) fun _ => wpS_pure ⟨rfl, _, _, _, _, _, rfl, m2, by omega, by omega, by omega, by omega, by omega⟩
      · rw [decide_eq_false lt]
        dsimp only
        rw [if_neg Bool.false_ne_true]
        refine wpS_bind (tm_elem (by omega) ?_)
        have m2 := m.pushB (by omega) q4 fun i hi hi2 => Int.le_trans (sA i (ja - 1) (Nat.zero_le _) (by omega) (by omega)) (Int.not_lt.mp lt)
        by_cases e : jb - 1 = 1
        · rw [if_pos (beq_iff_eq.mpr e)]
          rw [e] at m2 ⊢
          exact wpS_pure ⟨rfl, .inl ⟨_, _, rfl, m2.first hb first⟩⟩
        · rw [if_neg (fun z => e (beq_iff_eq.mp z))]
          refine wps_ite (fun _ => wpS_pure ⟨rfl, .inr ⟨_, _, _, _, _, rfl, m2, by omega, by omega, by omega, by omega, by omega⟩⟩) fun _ => wpS_pure ⟨rfl, _, _, _, _, _, rfl, m2, by omega, by omega, by omega, by omega, by omega⟩
    case ipost =>
      rintro c st'' ⟨rfl, ⟨r, c', rfl, hr⟩ | ⟨ja, jb, out, ac, bc, rfl, m, q1, q2, q3, q4, q5⟩⟩
      · exact wpS_pure ⟨ss, r, _, rfl, hr⟩
      dsimp only
      refine wpS_bind (wpS_lift (wpAny_rule ⟨rfl, ?_⟩))
      refine wpS_bind (wpS_mono (wpS_forRange
        (I := fun y c st2 => SameS st'' st2 ∧ ∃ ka kb out g ac bc, c = (none, ka, kb, out, g, ac, bc) ∧ MH a b out ka kb ∧ 0 < ka ∧ 1 < kb ∧ ka ≤ a.size ∧ kb ≤ b.size ∧ ka + kb ≤ ja + jb)
        (Q := fun c st2 => SameS st'' st2 ∧ ((∃ r c', c = (some r, c') ∧ Mgd a b r) ∨ ∃ ka kb out g ac bc, c = (none, ka, kb, out, g, ac, bc) ∧ MH a b out ka kb ∧ 0 < ka ∧ 1 < kb ∧ ka ≤ a.size ∧ kb ≤ b.size ∧ ka + kb ≤ ja + jb)) ?gstep ?gfin ⟨SameS.refl _, ja, jb, out, _, _, _, rfl, m, q1, q2, q3, q4, Nat.le_refl _⟩) ?gpost)
      case gfin =>
        rintro c st2 ⟨s2, w⟩
        exact ⟨s2, .inr w⟩
      case gpost =>
        rintro c st2 ⟨s2, ⟨r, c', rfl, hr⟩ | ⟨ka, kb, out, g, ac, bc, rfl, m, w1, w2, w3, w4, w5⟩⟩
        · exact wpS_pure ⟨ss.trans s2, r, _, rfl, hr⟩
        · dsimp only
          refine wpS_bind (wpS_modify (wpS_pure ⟨(ss.trans s2).trans ⟨rfl, rfl, rfl, rfl⟩, ka, kb, out, _, rfl, m, w1, w2, w3, w4, by omega⟩))
      case gstep =>
        rintro y c st2 _ hy ⟨s2, ka, kb, out, g, ac, bc, rfl, m, w1, w2, w3, w4, w5⟩
        dsimp only
        have s3 : SameS st'' (SortSt.mk' (kindOf st2) (arrOf st2) (pendingOf st2) (if g > 1 then g - 1 else g) (failedOf st2)) := ⟨s2.kind, s2.arr, s2.pend, s2.fail⟩
        have hk3 := s3.kind.trans hk1
        refine wps_ite (fun gg => ?_) (fun gg => ?_)
        all_goals
          first | rw [if_pos gg] at s3 hk3 | rw [if_neg gg] at s3 hk3
          refine wpS_bind (wpS_modify ?_)
          refine wpS_bind (tm_elem (by omega) (wpS_bind (tm_gallop (left := false) (key := nth b (kb - 1)) (arr := a) (base := 0) (n := ka) (hint := ka - 1) hk3 (iB _ (by omega)) iA (by omega) (by omega) (near_mono (sA.sub (Nat.zero_le _) (by omega))) fun k k1 k2 k3 => ?_)))
          dsimp only
          have big : ∀ i, i < k → i < a.size → num (nth a i) ≤ num (nth b (kb - 1)) := fun i h5 h6 => by
            have z := near_right.mp (k2 i h5)
            rw [Nat.zero_add] at z
            exact z
          have m2 := m.takeA (k := k) k1 fun j h5 h6 h7 i h8 h9 => by
            have z := near_rightF.mp (k3 j h5 h6)
            rw [Nat.zero_add] at z
            exact Int.le_trans (sB i (kb - 1) (Nat.zero_le _) (by omega) (by omega)) (Int.le_of_lt z)
          by_cases kp : ka - k > 0
          · rw [if_pos kp]
            by_cases e2 : k = 0
            · rw [if_pos (beq_iff_eq.mpr e2)]
              rw [e2] at m2 ⊢
              exact wpS_pure ⟨s3, .inl ⟨_, _, rfl, m2.endA⟩⟩
            rw [if_neg (fun z => e2 (beq_iff_eq.mp z))]
            refine wpS_bind (tm_elem (by omega) ?_)
            have m3 := m2.pushB (by omega) (by omega) big
            by_cases e3 : kb - 1 = 1
            · rw [if_pos (beq_iff_eq.mpr e3)]
              rw [e3] at m3 ⊢
              exact wpS_pure ⟨s3, .inl ⟨_, _, rfl, m3.first hb first⟩⟩
            rw [if_neg (fun z => e3 (beq_iff_eq.mp z))]
            refine wpS_bind (tm_elem (by omega) (wpS_bind (tm_gallop (left := true) (key := nth a (k - 1)) (arr := b) (base := 0) (n := kb - 1) (hint := kb - 1 - 1) hk3 (iA _ (by omega)) iB (by omega) (by omega) (near_mono (sB.sub (Nat.zero_le _) (by omega))) fun k' u1 u2 u3 => ?_)))
            dsimp only
            have small : ∀ i, i < k' → i < b.size → num (nth b i) ≤ num (nth a (k - 1)) := fun i h5 h6 => by
              have z := near_left.mp (u2 i h5)
              rw [Nat.zero_add] at z
              exact Int.le_of_lt z
            have m4 := m3.takeB (k := k') u1 fun j h5 h6 h7 i h8 h9 => by
              have z := near_leftF.mp (u3 j h5 h6)
              rw [Nat.zero_add] at z
              exact Int.le_trans (sA i (k - 1) (Nat.zero_le _) (by omega) (by omega)) z
            by_cases kp' : kb - 1 - k' > 0
            · rw [if_pos kp']
              by_cases e4 : k' = 1
              · rw [if_pos (beq_iff_eq.mpr e4)]
                rw [e4] at m4 ⊢
                exact wpS_pure ⟨s3, .inl ⟨_, _, rfl, m4.first hb first⟩⟩
              rw [if_neg (fun z => e4 (beq_iff_eq.mp z))]
              by_cases e6 : k' = 0
              · rw [if_pos (beq_iff_eq.mpr e6)]
                rw [e6] at m4 ⊢
                exact wpS_pure ⟨s3, .inl ⟨_, _, rfl, m4.endB⟩⟩
              rw [if_neg (fun z => e6 (beq_iff_eq.mp z))]
              refine wpS_bind (tm_elem (by omega) ?_)
              have m5 := m4.pushA (by omega) (by omega) small
              by_cases e5 : k - 1 = 0
              · rw [if_pos (beq_iff_eq.mpr e5)]
                rw [e5] at m5 ⊢
                exact wpS_pure ⟨s3, .inl ⟨_, _, rfl, m5.endA⟩⟩
              · rw [if_neg (fun z => e5 (beq_iff_eq.mp z))]
                refine wps_ite (fun _ => wpS_pure ⟨s3, .inr ⟨_, _, _, _, _, _, rfl, m5, by omega, by omega, by omega, by omega, by omega⟩⟩) fun _ => wpS_pure ⟨s3, _, _, _, _, _, _, rfl, m5, by omega, by omega, by omega, by omega, by omega⟩
            · rw [if_neg kp']
              obtain rfl : k' = kb - 1 := by omega
              refine wpS_bind (tm_elem (by omega) ?_)
              have m5 := m3.pushA (by omega) (by omega) small
              by_cases e5 : k - 1 = 0
              · rw [if_pos (beq_iff_eq.mpr e5)]
                rw [e5] at m5 ⊢
                exact wpS_pure ⟨s3, .inl ⟨_, _, rfl, m5.endA⟩⟩
              · rw [if_neg (fun z => e5 (beq_iff_eq.mp z))]
                refine wps_ite (fun _ => wpS_pure ⟨s3, .inr ⟨_, _, _, _, _, _, rfl, m5, by omega, by omega, by omega, by omega, by omega⟩⟩) fun _ => wpS_pure ⟨s3, _, _, _, _, _, _, rfl, m5, by omega, by omega, by omega, by omega, by omega⟩
          · rw [if_neg kp]
            obtain rfl : k = ka := by omega
            refine wpS_bind (tm_elem (by omega) ?_)
            have m3 := m.pushB (by omega) (by omega) big
            by_cases e3 : kb - 1 = 1
            · rw [if_pos (beq_iff_eq.mpr e3)]
              rw [e3] at m3 ⊢
              exact wpS_pure ⟨s3, .inl ⟨_, _, rfl, m3.first hb first⟩⟩
            rw [if_neg (fun z => e3 (beq_iff_eq.mp z))]
            refine wpS_bind (tm_elem (by omega) (wpS_bind (tm_gallop (left := true) (key := nth a (k - 1)) (arr := b) (base := 0) (n := kb - 1) (hint := kb - 1 - 1) hk3 (iA _ (by omega)) iB (by omega) (by omega) (near_mono (sB.sub (Nat.zero_le _) (by omega))) fun k' u1 u2 u3 => ?_)))
            dsimp only
            have small : ∀ i, i < k' → i < b.size → num (nth b i) ≤ num (nth a (k - 1)) := fun i h5 h6 => by
              have z := near_left.mp (u2 i h5)
              rw [Nat.zero_add] at z
              exact Int.le_of_lt z
            have m4 := m3.takeB (k := k') u1 fun j h5 h6 h7 i h8 h9 => by
              have z := near_leftF.mp (u3 j h5 h6)
              rw [Nat.zero_add] at z
              exact Int.le_trans (sA i (k - 1) (Nat.zero_le _) (by omega) (by omega)) z
            by_cases kp' : kb - 1 - k' > 0
            · rw [if_pos kp']
              by_cases e4 : k' = 1
              · rw [if_pos (beq_iff_eq.mpr e4)]
                rw [e4] at m4 ⊢
                exact wpS_pure ⟨s3, .inl ⟨_, _, rfl, m4.first hb first⟩⟩
              rw [if_neg (fun z => e4 (beq_iff_eq.mp z))]
              by_cases e6 : k' = 0
              · rw [if_pos (beq_iff_eq.mpr e6)]
                rw [e6] at m4 ⊢
                exact wpS_pure ⟨s3, .inl ⟨_, _, rfl, m4.endB⟩⟩
              rw [if_neg (fun z => e6 (beq_iff_eq.mp z))]
              refine wpS_bind (tm_elem (by omega) ?_)
              have m5 := m4.pushA (by omega) (by omega) small
              by_cases e5 : k - 1 = 0
              · rw [if_pos (beq_iff_eq.mpr e5)]
                rw [e5] at m5 ⊢
                exact wpS_pure ⟨s3, .inl ⟨_, _, rfl, m5.endA⟩⟩
              · rw [if_neg (fun z => e5 (beq_iff_eq.mp z))]
                refine wps_ite (fun _ => wpS_pure ⟨s3, .inr ⟨_, _, _, _, _, _, rfl, m5, by omega, by omega, by omega, by omega, by omega⟩⟩) fun _ => wpS_pure ⟨s3, _, _, _, _, _, _, rfl, m5, by omega, by omega, by omega, by omega, by omega⟩
            · rw [if_neg kp']
              obtain rfl : k' = kb - 1 := by omega
              refine wpS_bind (tm_elem (by omega) ?_)
              have m5 := m3.pushA (by omega) (by omega) small
              by_cases e5 : k - 1 = 0
              · rw [if_pos (beq_iff_eq.mpr e5)]
                rw [e5] at m5 ⊢
                exact wpS_pure ⟨s3, .inl ⟨_, _, rfl, m5.endA⟩⟩
              · rw [if_neg (fun z => e5 (beq_iff_eq.mp z))]
                refine wps_ite (fun _ => wpS_pure ⟨s3, .inr ⟨_, _, _, _, _, _, rfl, m5, by omega, by omega, by omega, by omega, by omega⟩⟩) fun _ => wpS_pure ⟨s3, _, _, _, _, _, _, rfl, m5, by omega, by omega, by omega, by omega, by omega⟩
end
end L2T
end
section
set_option Elab.async false
set_option linter.all false
set_option maxRecDepth 100000
set_option maxHeartbeats 4000000
namespace L2T
open PySem PySem.Spec PyProof.Rows
theorem nth_mem {a : Array Keyed} {i : Nat} (h : i < a.size) : nth a i ∈ a.toList := by
  have q := drop_nth h
  exact List.mem_of_mem_drop (i := i) (by rw [q]; exact List.mem_cons_self)
theorem AllI.of_mem {a : Array Keyed} (h : ∀ x ∈ a.toList, IsI x) : AllI a := fun i hi => h _ (nth_mem hi)
theorem AllI.mem {a : Array Keyed} (h : AllI a) : ∀ x ∈ a.toList, IsI x := fun x hx => by
  obtain ⟨j, hj, rfl⟩ := mem_nth hx
  exact h j hj
theorem AllI.perm {a b : Array Keyed} (h : AllI a) (p : b.Perm a) : AllI b := .of_mem fun x hx => h.mem x ((Array.perm_iff_toList_perm.mp p).mem_iff.mp hx)
theorem nth_ext {a : Array Keyed} {i j t : Nat} (h : i + t < j) (hj : j ≤ a.size) : nth (a.extract i j) t = nth a (i + t) := by
  refine nth_of ?_
  rw [Array.getElem?_extract, if_pos (by omega), nth_some (by omega)]
theorem size_ext {a : Array Keyed} {i j : Nat} (hj : j ≤ a.size) : (a.extract i j).size = j - i := by
  rw [Array.size_extract]
  omega
theorem Rise.of_pairwise {a : Array Keyed} (h : a.toList.Pairwise le) : Rise a 0 a.size := by
  intro i j _ hij hj
  rcases Nat.lt_or_ge i j with lt | ge
  · have q := List.pairwise_iff_getElem.mp h i j (by exact Nat.lt_trans lt hj) (by exact hj) lt
    have e1 := nth_some (arr := a) (i := i) (Nat.lt_trans lt hj)
    have e2 := nth_some (arr := a) (i := j) hj
    rw [← Array.getElem?_toList, List.getElem?_eq_getElem (by exact Nat.lt_trans lt hj)] at e1
    rw [← Array.getElem?_toList, List.getElem?_eq_getElem (by exact hj)] at e2
    rw [Option.some.inj e1, Option.some.inj e2] at q
    exact q
  · rw [show i = j by omega]
    exact Int.le_refl _
def lay (xs : Array Keyed) (k : Nat) (l : List (Keyed × Nat)) : Array Keyed := l.foldl (fun a x => a.setIfInBounds (k + x.2) x.1) xs
theorem lay_get : ∀ (l : List Keyed) (xs : Array Keyed) (k j i : Nat), k + j + l.length ≤ xs.size → (lay xs k (l.zipIdx j))[i]? = if k + j ≤ i ∧ i < k + j + l.length then l[i - (k + j)]? else xs[i]?
  | [], xs, k, j, i, _ => by
    rw [if_neg (by simp only [List.length_nil]; omega)]
    rfl
  | x :: l, xs, k, j, i, h => by
    rw [List.length_cons] at h
    have ih := lay_get l (xs.setIfInBounds (k + j) x) k (j + 1) i (by rw [Array.size_setIfInBounds]; omega)
    show (lay (xs.setIfInBounds (k + j) x) k (l.zipIdx (j + 1)))[i]? = _
    rw [ih, Array.getElem?_setIfInBounds]
    rw [List.length_cons]
    rcases Nat.lt_trichotomy i (k + j) with c | c | c
    · rw [if_neg (by omega), if_neg (by omega), if_neg (by omega)]
    · rw [if_neg (by omega), if_pos (by omega), if_pos (by omega), if_pos (by omega), c, Nat.sub_self]
      rfl
    · by_cases d : i < k + j + (l.length + 1)
      · rw [if_pos (by omega), if_pos (by omega), show i - (k + j) = (i - (k + (j + 1))) + 1 by omega, List.getElem?_cons_succ]
      · rw [if_neg (by omega), if_neg (by omega), if_neg (by omega)]
theorem lay_list (l : List Keyed) (xs : Array Keyed) (k : Nat) (h : k + l.length ≤ xs.size) : (lay xs k l.zipIdx).toList = xs.toList.take k ++ (l ++ xs.toList.drop (k + l.length)) := by
  refine List.ext_getElem? fun i => ?_
  have hz : xs.toList.length = xs.size := rfl
  rw [Array.getElem?_toList, lay_get l xs k 0 i (by omega), Nat.add_zero]
  have tl : (xs.toList.take k).length = k := by rw [List.length_take]; omega
  rcases Nat.lt_or_ge i k with c | c
  · rw [if_neg (by omega), List.getElem?_append_left (by omega), List.getElem?_take_of_lt c, Array.getElem?_toList]
  · rw [List.getElem?_append_right (by omega), tl]
    rcases Nat.lt_or_ge i (k + l.length) with d | d
    · rw [if_pos ⟨c, d⟩, List.getElem?_append_left (by omega)]
    · rw [if_neg (by omega), List.getElem?_append_right (by omega), List.getElem?_drop, Array.getElem?_toList]
      congr 1
      omega
theorem nth_lay {l : List Keyed} {xs : Array Keyed} {k i : Nat} (h : k + l.length ≤ xs.size) (hi : i < k ∨ k + l.length ≤ i) : nth (lay xs k l.zipIdx) i = nth xs i := by
  unfold nth
  rw [Array.getD_eq_getD_getElem?, Array.getD_eq_getD_getElem?, lay_get l xs k 0 i (by omega), if_neg (by omega)]
theorem nth_laid {m xs : Array Keyed} {k i : Nat} (h : k + m.size ≤ xs.size) (h1 : k ≤ i) (h2 : i < k + m.size) : nth (lay xs k m.toList.zipIdx) i = nth m (i - k) := by
  have hz : m.toList.length = m.size := rfl
  refine nth_of ?_
  rw [lay_get m.toList xs k 0 i (by omega), if_pos (by omega), Nat.add_zero, Array.getElem?_toList, nth_some (by omega)]
section
variable {prog : Program} {w : World} {A : Around} {E : Value → Shared → Prop} {s : Shared} {st : SortSt}
theorem tm_set {st' : SortSt} {Q : PUnit → SortSt → Prop} (h : Q ⟨⟩ st') : wpS (model prog w) A E s (set st' : StateT SortSt Sem PUnit) Q st := by
  unfold wpS
  rw [StateT.run_set]
  exact wpAny_pure ⟨rfl, h⟩
theorem tm_ltAt {i j : Nat} {Q : Option Bool → SortSt → Prop} (hk : kindOf st = oneType') (hA : AllI (arrOf st)) (hi : i < (arrOf st).size) (hj : j < (arrOf st).size) (h : Q (some (decide (num (nth (arrOf st) i) < num (nth (arrOf st) j)))) st) : wpS (model prog w) A E s (ltAt' i j) Q st :=
  wpS_bind (wpS_get (wpS_bind (tm_elem hi (wpS_bind (tm_elem hj (tm_lt hk (hA _ hi) (hA _ hj) h))))))
theorem tm_mergeAt {i sa na pw sb nb pw2 : Nat} {Q : Bool → SortSt → Prop} (hk : kindOf st = oneType') (hf : failedOf st = none) (hA : AllI (arrOf st)) (p1 : (pendingOf st)[i]? = some (sa, na, pw)) (p2 : (pendingOf st)[i + 1]? = some (sb, nb, pw2))
    (hs : sb = sa + na) (h1 : 0 < na) (h2 : 0 < nb) (hz : sb + nb ≤ (arrOf st).size) (rA : Rise (arrOf st) sa sb) (rB : Rise (arrOf st) sb (sb + nb))
    (h : ∀ st', (arrOf st').Perm (arrOf st) → kindOf st' = kindOf st → failedOf st' = none → pendingOf st' = ((pendingOf st).setIfInBounds i (sa, na + nb, pw)).eraseIdxIfInBounds (i + 1) → (∀ j, j < sa ∨ sb + nb ≤ j → nth (arrOf st') j = nth (arrOf st) j) → Rise (arrOf st') sa (sb + nb) → Q true st') :
    wpS (model prog w) A E s (mergeAt' i) Q st := by
  obtain ⟨kd, xs, pn, gl, fl⟩ := st
  have hk : kd = oneType' := hk
  have hf : fl = none := hf
  have hA : AllI xs := hA
  have p1 : pn[i]? = some (sa, na, pw) := p1
  have p2 : pn[i + 1]? = some (sb, nb, pw2) := p2
  have hz : sb + nb ≤ xs.size := hz
  have rA : Rise xs sa sb := rA
  have rB : Rise xs sb (sb + nb) := rB
  have h : ∀ st', (arrOf st').Perm xs → kindOf st' = kd → failedOf st' = none → pendingOf st' = (pn.setIfInBounds i (sa, na + nb, pw)).eraseIdxIfInBounds (i + 1) → (∀ j, j < sa ∨ sb + nb ≤ j → nth (arrOf st') j = nth xs j) → Rise (arrOf st') sa (sb + nb) → Q true st' := h
  refine wpS_bind (wpS_get ?_)
  dsimp only
  rw [p1, p2]
  dsimp only
  refine wpS_bind (tm_set ?_)
  refine wpS_bind (tm_elem (by omega) (wpS_bind (tm_gallop (left := false) (key := nth xs sb) (arr := xs) (base := sa) (n := na) (hint := 0) hk (hA _ (by omega)) hA (by omega) (by omega) (near_mono (rA.sub (Nat.le_refl _) (by omega))) fun k k1 k2 k3 => ?_)))
  dsimp only
  have low : ∀ j, sa ≤ j → j < sa + k → num (nth xs j) ≤ num (nth xs sb) := fun j q1 q2 => by
    have z := near_right.mp (k2 (j - sa) (by omega))
    rw [show sa + (j - sa) = j by omega] at z
    exact z
  have high : ∀ j, sa + k ≤ j → j < sb → num (nth xs sb) < num (nth xs j) := fun j q1 q2 => by
    have z := near_rightF.mp (k3 (j - sa) (by omega) (by omega))
    rw [show sa + (j - sa) = j by omega] at z
    exact z
  by_cases e1 : na - k = 0
  · rw [if_pos (beq_iff_eq.mpr e1)]
    refine wpS_pure (h _ (Array.Perm.refl _) rfl hf rfl (fun j _ => rfl) ?_)
    show Rise xs sa (sb + nb)
    intro i' j' q1 q2 q3
    rcases Nat.lt_or_ge j' sb with c | c
    · exact rA i' j' q1 q2 c
    · rcases Nat.lt_or_ge i' sb with d | d
      · exact Int.le_trans (low i' q1 (by omega)) (rB sb j' (Nat.le_refl _) c q3)
      · exact rB i' j' d q2 q3
  rw [if_neg (fun z => e1 (beq_iff_eq.mp z))]
  refine wpS_bind (tm_elem (by omega) (wpS_bind (tm_gallop (left := true) (key := nth xs (sa + k + (na - k) - 1)) (arr := xs) (base := sb) (n := nb) (hint := nb - 1) hk (hA _ (by omega)) hA (by omega) (by omega) (near_mono rB) fun m u1 u2 u3 => ?_)))
  dsimp only
  rw [show sa + k + (na - k) - 1 = sb - 1 by omega] at u2 u3
  have lowB : ∀ j, sb ≤ j → j < sb + m → num (nth xs j) < num (nth xs (sb - 1)) := fun j q1 q2 => by
    have z := near_left.mp (u2 (j - sb) (by omega))
    rw [show sb + (j - sb) = j by omega] at z
    exact z
  have highB : ∀ j, sb + m ≤ j → j < sb + nb → num (nth xs (sb - 1)) ≤ num (nth xs j) := fun j q1 q2 => by
    have z := near_leftF.mp (u3 (j - sb) (by omega) (by omega))
    rw [show sb + (j - sb) = j by omega] at z
    exact z
  by_cases e2 : m = 0
  · have z1 := highB sb (by omega) (by omega)
    have z2 := high (sb - 1) (by omega) (by omega)
    omega
  rw [if_neg (fun z => e2 (beq_iff_eq.mp z))]
  have zx : (xs.extract (sa + k) sb).size = sb - (sa + k) := size_ext (by omega)
  have zy : (xs.extract sb (sb + m)).size = m := by rw [size_ext (by omega)]; omega
  have nx : ∀ t, t < sb - (sa + k) → nth (xs.extract (sa + k) sb) t = nth xs (sa + k + t) := fun t ht => nth_ext (by omega) (by omega)
  have ny : ∀ t, t < m → nth (xs.extract sb (sb + m)) t = nth xs (sb + t) := fun t ht => nth_ext (by omega) (by omega)
  have iX : AllI (xs.extract (sa + k) sb) := fun t ht => by rw [nx t (by omega)]; exact hA _ (by omega)
  have iY : AllI (xs.extract sb (sb + m)) := fun t ht => by rw [ny t (by omega)]; exact hA _ (by omega)
  have sX : Rise (xs.extract (sa + k) sb) 0 (xs.extract (sa + k) sb).size := fun t u _ q2 q3 => by rw [nx t (by omega), nx u (by omega)]; exact rA _ _ (by omega) (by omega) (by omega)
  have sY : Rise (xs.extract sb (sb + m)) 0 (xs.extract sb (sb + m)).size := fun t u _ q2 q3 => by rw [ny t (by omega), ny u (by omega)]; exact rB _ _ (by omega) (by omega) (by omega)
  have first : ∀ t, t < (xs.extract (sa + k) sb).size → num (nth (xs.extract sb (sb + m)) 0) ≤ num (nth (xs.extract (sa + k) sb) t) := fun t ht => by
    rw [ny 0 (by omega), nx t (by omega)]
    exact Int.le_of_lt (high _ (by omega) (by omega))
  have last : ∀ t, t < (xs.extract sb (sb + m)).size → num (nth (xs.extract sb (sb + m)) t) ≤ num (nth (xs.extract (sa + k) sb) ((xs.extract (sa + k) sb).size - 1)) := fun t ht => by
    rw [ny t (by omega), nx _ (by omega), show sa + k + ((xs.extract (sa + k) sb).size - 1) = sb - 1 by omega]
    exact Int.le_of_lt (lowB _ (by omega) (by omega))
  have fin : ∀ (r : Array Keyed) (st3 : SortSt), Mgd (xs.extract (sa + k) sb) (xs.extract sb (sb + m)) r → SameS (SortSt.mk' kd xs ((pn.setIfInBounds i (sa, na + nb, pw)).eraseIdxIfInBounds (i + 1)) gl fl) st3 →
      Q (failedOf st3).isNone (SortSt.mk' (kindOf st3) (lay (arrOf st3) (sa + k) r.toList.zipIdx) (pendingOf st3) (gallopOf st3) (failedOf st3)) := by
    intro r st3 ⟨rp, rs⟩ ss
    have ef : failedOf st3 = none := ss.fail.trans hf
    have ea : arrOf st3 = xs := ss.arr
    have zr : r.size = sb - (sa + k) + m := by
      have z := rp.length_eq
      rw [List.length_append] at z
      have z1 : (xs.extract (sa + k) sb).toList.length = sb - (sa + k) := zx
      have z2 : (xs.extract sb (sb + m)).toList.length = m := zy
      have z3 : r.toList.length = r.size := rfl
      omega
    have hr : sa + k + r.size ≤ xs.size := by omega
    have rr := Rise.of_pairwise rs
    have within : ∀ t, t < r.size → num (nth xs sb) ≤ num (nth r t) ∧ num (nth r t) ≤ num (nth xs (sb - 1)) := fun t ht => by
      have q := rp.mem_iff.mp (nth_mem ht)
      rcases List.mem_append.mp q with q | q
      · obtain ⟨j, hj, e⟩ := mem_nth q
        rw [e, nx j (by omega)]
        exact ⟨Int.le_of_lt (high _ (by omega) (by omega)), rA _ _ (by omega) (by omega) (by omega)⟩
      · obtain ⟨j, hj, e⟩ := mem_nth q
        rw [e, ny j (by omega)]
        exact ⟨rB _ _ (by omega) (by omega) (by omega), Int.le_of_lt (lowB _ (by omega) (by omega))⟩
    rw [ef, ea]
    have hzl : r.toList.length = r.size := rfl
    have n1 : ∀ j, j < sa + k ∨ sa + k + r.size ≤ j → nth (lay xs (sa + k) r.toList.zipIdx) j = nth xs j := fun j hj => nth_lay (by omega) (by omega)
    have n2 : ∀ j, sa + k ≤ j → j < sa + k + r.size → nth (lay xs (sa + k) r.toList.zipIdx) j = nth r (j - (sa + k)) := fun j q1 q2 => nth_laid hr q1 q2
    refine h _ ?_ ss.kind rfl ss.pend (fun j hj => n1 j (by omega)) ?_
    · show (lay xs (sa + k) r.toList.zipIdx).Perm xs
      rw [Array.perm_iff_toList_perm, lay_list _ _ _ (by omega)]
      have e : xs.toList = xs.toList.take (sa + k) ++ ((xs.extract (sa + k) sb).toList ++ (xs.extract sb (sb + m)).toList ++ xs.toList.drop (sa + k + r.size)) := by
        have e1 : (xs.extract (sa + k) sb).toList = (xs.toList.drop (sa + k)).take (sb - (sa + k)) := by
          have q := ext_to xs (sa + k) (sb - (sa + k))
          rw [show sa + k + (sb - (sa + k)) = sb by omega] at q
          exact q
        have e2 : (xs.extract sb (sb + m)).toList = ((xs.toList.drop (sa + k)).drop (sb - (sa + k))).take m := by
          rw [ext_to, List.drop_drop, show sa + k + (sb - (sa + k)) = sb by omega]
        rw [e1, e2, ← List.take_add, ← zr, show xs.toList.drop (sa + k + r.size) = (xs.toList.drop (sa + k)).drop r.size by rw [List.drop_drop], List.take_append_drop, List.take_append_drop]
      refine List.Perm.trans ?_ (List.Perm.of_eq e.symm)
      exact List.Perm.append_left _ (List.Perm.append_right _ rp)
    · show Rise (lay xs (sa + k) r.toList.zipIdx) sa (sb + nb)
      intro i' j' q1 q2 q3
      rcases Nat.lt_or_ge i' (sa + k) with c | c
      · rw [n1 i' (.inl c)]
        rcases Nat.lt_or_ge j' (sa + k) with d | d
        · rw [n1 j' (.inl d)]
          exact rA _ _ q1 q2 (by omega)
        · rcases Nat.lt_or_ge j' (sa + k + r.size) with f | f
          · rw [n2 j' d f]
            exact Int.le_trans (low i' q1 c) (within _ (by omega)).1
          · rw [n1 j' (.inr f)]
            exact Int.le_trans (low i' q1 c) (rB sb j' (Nat.le_refl _) (by omega) q3)
      · rcases Nat.lt_or_ge i' (sa + k + r.size) with d | d
        · rw [n2 i' c d]
          rcases Nat.lt_or_ge j' (sa + k + r.size) with f | f
          · rw [n2 j' (by omega) f]
            exact rr _ _ (Nat.zero_le _) (by omega) (by omega)
          · rw [n1 j' (.inr f)]
            exact Int.le_trans (within _ (by omega)).2 (highB j' (by omega) q3)
        · rw [n1 i' (.inr d), n1 j' (.inr (by omega))]
          exact rB _ _ (by omega) q2 q3
  refine wps_ite (fun _ => ?_) (fun _ => ?_)
  · refine wpS_bind (tm_lo hk iX iY (by omega) (by omega) sX sY first last fun r st3 hr ss => ?_)
    exact wpS_bind (wpS_modify (wpS_bind (wpS_get (wpS_pure (fin r st3 hr ss)))))
  · refine wpS_bind (tm_hi hk iX iY (by omega) (by omega) sX sY first last fun r st3 hr ss => ?_)
    exact wpS_bind (wpS_modify (wpS_bind (wpS_get (wpS_pure (fin r st3 hr ss)))))
end
end L2T
end
section
set_option Elab.async false
set_option linter.all false
set_option maxRecDepth 100000
set_option maxHeartbeats 4000000
namespace L2T
open PySem PySem.Spec PyProof.Rows
def Fall (a : Array Keyed) (lo hi : Nat) : Prop := ∀ i j, lo ≤ i → i ≤ j → j < hi → num (nth a j) ≤ num (nth a i)
structure Kp (lo : Nat) (st st' : SortSt) : Prop where
  perm : (arrOf st').Perm (arrOf st)
  kind : kindOf st' = kindOf st
  pend : pendingOf st' = pendingOf st
  fail : failedOf st' = failedOf st
  low : ∀ i, i < lo → nth (arrOf st') i = nth (arrOf st) i
theorem Kp.refl (lo : Nat) (st : SortSt) : Kp lo st st := ⟨Array.Perm.refl _, rfl, rfl, rfl, fun _ _ => rfl⟩
theorem Kp.trans {lo : Nat} {s1 s2 s3 : SortSt} (a : Kp lo s1 s2) (b : Kp lo s2 s3) : Kp lo s1 s3 :=
  ⟨b.perm.trans a.perm, b.kind.trans a.kind, b.pend.trans a.pend, b.fail.trans a.fail, fun i h => (b.low i h).trans (a.low i h)⟩
theorem Kp.size {lo : Nat} {s1 s2 : SortSt} (a : Kp lo s1 s2) : (arrOf s2).size = (arrOf s1).size := a.perm.size_eq
theorem nth_mirror {xs : Array Keyed} {i j : Nat} (hj : j ≤ xs.size) (k : Nat) : nth (mirror xs i j ((j - i) / 2)) k = if i ≤ k ∧ k < j then nth xs (i + j - 1 - k) else nth xs k := by
  have e := getElem?_mirror_all (i := i) hj k
  unfold nth
  rw [Array.getD_eq_getD_getElem?, Array.getD_eq_getD_getElem?, Array.getD_eq_getD_getElem?, e]
  by_cases c : i ≤ k ∧ k < j
  · rw [if_pos c, if_pos c]
  · rw [if_neg c, if_neg c]
theorem num_mirror {xs : Array Keyed} {i j : Nat} (hj : j ≤ xs.size) (h : ∀ k, i ≤ k → k < j → num (nth xs k) = num (nth xs (j - 1))) (k : Nat) : num (nth (mirror xs i j ((j - i) / 2)) k) = num (nth xs k) := by
  rw [nth_mirror hj]
  by_cases c : i ≤ k ∧ k < j
  · rw [if_pos c, h _ (by omega) (by omega), h k c.1 c.2]
  · rw [if_neg c]
theorem Kp.rev {lo : Nat} {st : SortSt} {i j : Nat} (hi : lo ≤ i) (hj : j ≤ (arrOf st).size) : Kp lo st (setArr st (mirror (arrOf st) i j ((j - i) / 2))) :=
  ⟨mirror_perm _ _ _ _, rfl, rfl, rfl, fun k hk => by
    show nth (mirror (arrOf st) i j ((j - i) / 2)) k = _
    rw [nth_mirror hj, if_neg (by omega)]⟩
theorem nth_bubble {xs : Array Keyed} {src d : Nat} (hs : src < xs.size) (hd : d ≤ src) (k : Nat) : nth (bubble xs src d) k = if k = src - d then nth xs src else if src - d < k ∧ k ≤ src then nth xs (k - 1) else nth xs k := by
  have e := getElem?_bubble hs d hd k
  unfold nth
  rw [Array.getD_eq_getD_getElem?, e]
  by_cases c : k = src - d
  · rw [if_pos c, if_pos c, Array.getD_eq_getD_getElem?]
  · rw [if_neg c, if_neg c]
    by_cases c2 : src - d < k ∧ k ≤ src
    · rw [if_pos c2, if_pos c2, Array.getD_eq_getD_getElem?]
    · rw [if_neg c2, if_neg c2, Array.getD_eq_getD_getElem?]
section
variable {prog : Program} {w : World} {A : Around} {E : Value → Shared → Prop} {s : Shared} {st : SortSt}
abbrev Up := Option (Option Nat) × Nat
theorem tm_asc {lo a nrem : Nat} {f : Nat → Up → StateT SortSt Sem (ForInStep Up)} {Q : Up → SortSt → Prop}
    (hf : ∀ x n, f x (none, n) = ltAt' (lo + n) (lo + n - 1) >>= fun r => match r with | some sm => if sm = true then pure (.done (none, n)) else pure (.yield (none, n + 1)) | none => pure (.done (some none, n)))
    (hk : kindOf st = oneType') (hA : AllI (arrOf st)) (ha : 1 ≤ a) (han : a ≤ nrem) (hz : lo + nrem ≤ (arrOf st).size) (hs : Rise (arrOf st) lo (lo + a))
    (h : ∀ m, a ≤ m → m ≤ nrem → Rise (arrOf st) lo (lo + m) → (m = nrem ∨ num (nth (arrOf st) (lo + m)) < num (nth (arrOf st) (lo + m - 1))) → Q (none, m) st) : wpS (model prog w) A E s (forIn [a:nrem] ((none, a) : Up) f) Q st := by
  refine wpS_forRange (I := fun x c st' => st' = st ∧ c = (none, x) ∧ Rise (arrOf st) lo (lo + x)) ?_ ?_ ⟨rfl, rfl, hs⟩
  · rintro x c st' h1 h2 ⟨rfl, rfl, r⟩
    rw [hf]
    refine wpS_bind (tm_ltAt hk hA (by omega) (by omega) ?_)
    by_cases lt : num (nth (arrOf st') (lo + x)) < num (nth (arrOf st') (lo + x - 1))
    · rw [decide_eq_true lt]
      exact wpS_pure (h x h1 (by omega) r (.inr lt))
    · rw [decide_eq_false lt]
      refine wpS_pure ⟨rfl, rfl, fun i j q1 q2 q3 => ?_⟩
      rcases Nat.lt_or_ge j (lo + x) with c | c
      · exact r i j q1 q2 c
      · rcases Nat.lt_or_ge i j with d | d
        · have z := r i (lo + x - 1) q1 (by omega) (by omega)
          rw [show j = lo + x by omega]
          omega
        · rw [show i = j by omega]; exact Int.le_refl _
  · rintro c st' ⟨rfl, rfl, r⟩
    rw [show max a nrem = nrem by omega] at r ⊢
    exact h nrem han (Nat.le_refl _) r (.inl rfl)
abbrev Dn3 := Option (Option Nat) × Nat × Nat
theorem tm_desc {lo a nrem : Nat} {f : Nat → Dn3 → StateT SortSt Sem (ForInStep Dn3)} {Q : Dn3 → SortSt → Prop}
    (hf : ∀ x n q, f x (none, n, q) = ltAt' (lo + n) (lo + n - 1) >>= fun r => match r with
      | some sm => if sm = true then (if q > 0 then reverseSlice' (lo + n - (q + 1)) (lo + n) >>= fun _ => pure (.yield (none, n + 1, 0)) else pure (.yield (none, n + 1, 0)))
          else ltAt' (lo + n - 1) (lo + n) >>= fun r2 => match r2 with | some lg => if lg = true then pure (.done (none, n, q)) else pure (.yield (none, n + 1, q + 1)) | none => pure (.done (some none, n, q))
      | none => pure (.done (some none, n, q)))
    (hk : kindOf st = oneType') (hA : AllI (arrOf st)) (ha : 1 ≤ a) (han : a ≤ nrem) (hz : lo + nrem ≤ (arrOf st).size) (hs : Fall (arrOf st) lo (lo + a))
    (h : ∀ m q st', Kp lo st st' → a ≤ m → m ≤ nrem → Fall (arrOf st') lo (lo + m) → q + 1 ≤ m → (∀ i, lo + m - (q + 1) ≤ i → i < lo + m → num (nth (arrOf st') i) = num (nth (arrOf st') (lo + m - 1))) → Q (none, m, q) st') :
    wpS (model prog w) A E s (forIn [a:nrem] ((none, a, 0) : Dn3) f) Q st := by
  refine wpS_forRange (I := fun x c st' => ∃ q, c = (none, x, q) ∧ Kp lo st st' ∧ Fall (arrOf st') lo (lo + x) ∧ q + 1 ≤ x ∧ ∀ i, lo + x - (q + 1) ≤ i → i < lo + x → num (nth (arrOf st') i) = num (nth (arrOf st') (lo + x - 1))) ?_ ?_ ⟨0, rfl, Kp.refl _ _, hs, by omega, fun i q1 q2 => by rw [show i = lo + a - 1 by omega]⟩
  · rintro x c st' h1 h2 ⟨q, rfl, kp, r, hq, eq⟩
    have hz' : lo + nrem ≤ (arrOf st').size := by rw [kp.size]; exact hz
    have hA' := hA.perm kp.perm
    have hk' := kp.kind.trans hk
    have more : ∀ ys : Array Keyed, (∀ k, num (nth ys k) = num (nth (arrOf st') k)) → num (nth (arrOf st') (lo + x)) ≤ num (nth (arrOf st') (lo + x - 1)) → Fall ys lo (lo + (x + 1)) := fun ys ey lt i j q1 q2 q3 => by
      rw [ey, ey]
      rcases Nat.lt_or_ge j (lo + x) with c | c
      · exact r i j q1 q2 c
      · rcases Nat.lt_or_ge i j with d | d
        · have z := r i (lo + x - 1) q1 (by omega) (by omega)
          rw [show j = lo + x by omega]
          omega
        · rw [show i = j by omega]; exact Int.le_refl _
    rw [hf]
    refine wpS_bind (tm_ltAt hk' hA' (by omega) (by omega) ?_)
    by_cases lt : num (nth (arrOf st') (lo + x)) < num (nth (arrOf st') (lo + x - 1))
    · rw [decide_eq_true lt]
      refine wps_ite (fun _ => ?_) (fun z => absurd rfl z)
      refine wps_ite (fun _ => ?_) (fun _ => ?_)
      · refine wpS_bind (wpS_reverse (wpS_pure ⟨0, rfl, kp.trans (Kp.rev (by omega) (by omega)), ?_, by omega, fun i q1 q2 => by rw [show i = lo + (x + 1) - 1 by omega]⟩))
        exact more _ (num_mirror (by omega) eq) (Int.le_of_lt lt)
      · exact wpS_pure ⟨0, rfl, kp, more _ (fun _ => rfl) (Int.le_of_lt lt), by omega, fun i q1 q2 => by rw [show i = lo + (x + 1) - 1 by omega]⟩
    · rw [decide_eq_false lt]
      refine wps_ite (fun z => nomatch z) (fun _ => ?_)
      refine wpS_bind (tm_ltAt hk' hA' (by omega) (by omega) ?_)
      by_cases lg : num (nth (arrOf st') (lo + x - 1)) < num (nth (arrOf st') (lo + x))
      · rw [decide_eq_true lg]
        exact wpS_pure (h x q st' kp h1 (by omega) r hq eq)
      · rw [decide_eq_false lg]
        have same : num (nth (arrOf st') (lo + x)) = num (nth (arrOf st') (lo + x - 1)) := by omega
        refine wpS_pure ⟨q + 1, rfl, kp, more _ (fun _ => rfl) (by omega), by omega, fun i q1 q2 => ?_⟩
        rw [show lo + (x + 1) - 1 = lo + x by omega]
        rcases Nat.lt_or_ge i (lo + x) with c | c
        · rw [eq i (by omega) c, same]
        · rw [show i = lo + x by omega]
  · rintro c st' ⟨q, rfl, kp, r, hq, eq⟩
    rw [show max a nrem = nrem by omega] at r hq eq ⊢
    exact h nrem q st' kp han (Nat.le_refl _) r hq eq
theorem Fall.rev {xs : Array Keyed} {lo n : Nat} (h : Fall xs lo (lo + n)) (hz : lo + n ≤ xs.size) : Rise (mirror xs lo (lo + n) ((lo + n - lo) / 2)) lo (lo + n) := fun i j q1 q2 q3 => by
  rw [nth_mirror hz, nth_mirror hz, if_pos (by omega), if_pos (by omega)]
  exact h _ _ (by omega) (by omega) (by omega)
theorem tm_countRun {lo nrem : Nat} {Q : Option Nat → SortSt → Prop} (hk : kindOf st = oneType') (hA : AllI (arrOf st)) (h1 : 1 ≤ nrem) (hz : lo + nrem ≤ (arrOf st).size)
    (h : ∀ m st', Kp lo st st' → 1 ≤ m → m ≤ nrem → Rise (arrOf st') lo (lo + m) → Q (some m) st') : wpS (model prog w) A E s (countRun' lo nrem) Q st := by
  refine wpS_bind (tm_asc (lo := lo) (fun x n => bind_congr fun r => by cases r <;> rfl) hk hA (Nat.le_refl 1) h1 hz (fun i j q1 q2 q3 => by rw [show i = j by omega]; exact Int.le_refl _) fun n n1 n2 r hor => ?_)
  dsimp only
  by_cases e : n = nrem
  · rw [if_pos (beq_iff_eq.mpr e)]
    exact wpS_pure (h n st (Kp.refl _ _) n1 n2 r)
  rw [if_neg (fun z => e (beq_iff_eq.mp z))]
  have lt := hor.resolve_left e
  by_cases g : n > 1
  · rw [if_pos g]
    refine wpS_bind (tm_ltAt hk hA (by omega) (by omega) ?_)
    by_cases rose : num (nth (arrOf st) lo) < num (nth (arrOf st) (lo + n - 1))
    · rw [decide_eq_true rose]
      exact wpS_pure (h n st (Kp.refl _ _) n1 n2 r)
    rw [decide_eq_false rose]
    refine wps_ite (fun z => nomatch z) (fun _ => ?_)
    have all : ∀ k, lo ≤ k → k < lo + n → num (nth (arrOf st) k) = num (nth (arrOf st) (lo + n - 1)) := fun k q1 q2 => by
      have z1 := r lo k (Nat.le_refl _) q1 q2
      have z2 := r k (lo + n - 1) q1 (by omega) (by omega)
      omega
    refine wpS_bind (wpS_reverse ?_)
    have nm := num_mirror (xs := arrOf st) (i := lo) (j := lo + n) (by omega) all
    have kp1 : Kp lo st (setArr st (mirror (arrOf st) lo (lo + n) ((lo + n - lo) / 2))) := Kp.rev (Nat.le_refl _) (by omega)
    have fl : Fall (mirror (arrOf st) lo (lo + n) ((lo + n - lo) / 2)) lo (lo + (n + 1)) := fun i j q1 q2 q3 => by
      rw [nm, nm]
      rcases Nat.lt_or_ge j (lo + n) with c | c
      · rw [all j (by omega) c, all i q1 (by omega)]; exact Int.le_refl _
      · rcases Nat.lt_or_ge i j with d | d
        · rw [all i q1 (by omega), show j = lo + n by omega]; exact Int.le_of_lt lt
        · rw [show i = j by omega]; exact Int.le_refl _
    refine wpS_bind (wpS_lift (wpAny_rule ⟨rfl, ?_⟩))
    refine wpS_bind (tm_desc (lo := lo) (fun x n q => bind_congr fun r => by
      cases r with
      | none => rfl
      | some b =>
        cases b with
        | true => rfl
        | false => exact bind_congr fun r2 => by cases r2 <;> rfl) (kp1.kind.trans hk) (hA.perm kp1.perm) (by omega) (by omega) (by rw [kp1.size]; exact hz) fl fun m q st2 kp2 m1 m2 fall hq eq => ?_)
    dsimp only
    have kp2 := kp1.trans kp2
    refine wps_ite (fun _ => ?_) (fun _ => ?_)
    · refine wpS_bind (wpS_reverse ?_)
      have kq := kp2.trans (Kp.rev (st := st2) (lo := lo) (i := lo + m - (q + 1)) (j := lo + m) (by omega) (by have z := kp2.size; omega))
      have fall2 : Fall (mirror (arrOf st2) (lo + m - (q + 1)) (lo + m) ((lo + m - (lo + m - (q + 1))) / 2)) lo (lo + m) := fun i j q1 q2 q3 => by
        rw [num_mirror (by have z := kp2.size; omega) eq, num_mirror (by have z := kp2.size; omega) eq]
        exact fall i j q1 q2 q3
      refine wpS_bind (wpS_reverse ?_)
      have kp3 := kq.trans (Kp.rev (st := setArr st2 (mirror (arrOf st2) (lo + m - (q + 1)) (lo + m) ((lo + m - (lo + m - (q + 1))) / 2))) (lo := lo) (i := lo) (j := lo + m) (Nat.le_refl _) (by have z := kq.size; omega))
      have ri := Fall.rev (n := m) fall2 (by have z := kp2.size; first | omega | (rw [mirror_size]; omega))
      refine wpS_bind (tm_asc (lo := lo) (fun x n => bind_congr fun r => by cases r <;> rfl) (kp3.kind.trans hk) (hA.perm kp3.perm) (by omega) (by omega) (by rw [kp3.size]; exact hz) ri fun m' p1 p2 ri' _ => ?_)
      exact wpS_pure (h m' _ kp3 (by omega) p2 ri')
    · refine wpS_bind (wpS_reverse ?_)
      have kp3 := kp2.trans (Kp.rev (st := st2) (lo := lo) (i := lo) (j := lo + m) (Nat.le_refl _) (by have z := kp2.size; omega))
      have ri := Fall.rev (n := m) fall (by have z := kp2.size; first | omega | (rw [mirror_size]; omega))
      refine wpS_bind (tm_asc (lo := lo) (fun x n => bind_congr fun r => by cases r <;> rfl) (kp3.kind.trans hk) (hA.perm kp3.perm) (by omega) (by omega) (by rw [kp3.size]; exact hz) ri fun m' p1 p2 ri' _ => ?_)
      exact wpS_pure (h m' _ kp3 (by omega) p2 ri')
  · rw [if_neg g]
    have kp1 := Kp.refl lo st
    have fl : Fall (arrOf st) lo (lo + (n + 1)) := fun i j q1 q2 q3 => by
      rcases Nat.lt_or_ge i j with d | d
      · rw [show i = lo by omega, show j = lo + n by omega]
        rw [show lo + n - 1 = lo by omega] at lt
        exact Int.le_of_lt lt
      · rw [show i = j by omega]; exact Int.le_refl _
    refine wpS_bind (wpS_lift (wpAny_rule ⟨rfl, ?_⟩))
    refine wpS_bind (tm_desc (lo := lo) (fun x n q => bind_congr fun r => by
      cases r with
      | none => rfl
      | some b =>
        cases b with
        | true => rfl
        | false => exact bind_congr fun r2 => by cases r2 <;> rfl) (kp1.kind.trans hk) (hA.perm kp1.perm) (by omega) (by omega) (by rw [kp1.size]; exact hz) fl fun m q st2 kp2 m1 m2 fall hq eq => ?_)
    dsimp only
    have kp2 := kp1.trans kp2
    refine wps_ite (fun _ => ?_) (fun _ => ?_)
    · refine wpS_bind (wpS_reverse ?_)
      have kq := kp2.trans (Kp.rev (st := st2) (lo := lo) (i := lo + m - (q + 1)) (j := lo + m) (by omega) (by have z := kp2.size; omega))
      have fall2 : Fall (mirror (arrOf st2) (lo + m - (q + 1)) (lo + m) ((lo + m - (lo + m - (q + 1))) / 2)) lo (lo + m) := fun i j q1 q2 q3 => by
        rw [num_mirror (by have z := kp2.size; omega) eq, num_mirror (by have z := kp2.size; omega) eq]
        exact fall i j q1 q2 q3
      refine wpS_bind (wpS_reverse ?_)
      have kp3 := kq.trans (Kp.rev (st := setArr st2 (mirror (arrOf st2) (lo + m - (q + 1)) (lo + m) ((lo + m - (lo + m - (q + 1))) / 2))) (lo := lo) (i := lo) (j := lo + m) (Nat.le_refl _) (by have z := kq.size; omega))
      have ri := Fall.rev (n := m) fall2 (by have z := kp2.size; first | omega | (rw [mirror_size]; omega))
      refine wpS_bind (tm_asc (lo := lo) (fun x n => bind_congr fun r => by cases r <;> rfl) (kp3.kind.trans hk) (hA.perm kp3.perm) (by omega) (by omega) (by rw [kp3.size]; exact hz) ri fun m' p1 p2 ri' _ => ?_)
      exact wpS_pure (h m' _ kp3 (by omega) p2 ri')
    · refine wpS_bind (wpS_reverse ?_)
      have kp3 := kp2.trans (Kp.rev (st := st2) (lo := lo) (i := lo) (j := lo + m) (Nat.le_refl _) (by have z := kp2.size; omega))
      have ri := Fall.rev (n := m) fall (by have z := kp2.size; first | omega | (rw [mirror_size]; omega))
      refine wpS_bind (tm_asc (lo := lo) (fun x n => bind_congr fun r => by cases r <;> rfl) (kp3.kind.trans hk) (hA.perm kp3.perm) (by omega) (by omega) (by rw [kp3.size]; exact hz) ri fun m' p1 p2 ri' _ => ?_)
      exact wpS_pure (h m' _ kp3 (by omega) p2 ri')
theorem tm_binarySort {lo n ok : Nat} {Q : Bool → SortSt → Prop} (hk : kindOf st = oneType') (hA : AllI (arrOf st)) (hn : ok ≤ n) (hz : lo + n ≤ (arrOf st).size) (r : Rise (arrOf st) lo (lo + ok))
    (h : ∀ st', Kp lo st st' → Rise (arrOf st') lo (lo + n) → Q true st') : wpS (model prog w) A E s (binarySort' lo n ok) Q st := by
  refine wpS_bind (wpS_mono (wpS_forRange (I := fun k c st' => c = (none, ()) ∧ Kp lo st st' ∧ Rise (arrOf st') lo (lo + min k n)) (Q := fun c st' => c = (none, ()) ∧ Kp lo st st' ∧ Rise (arrOf st') lo (lo + n)) ?step ?fin ⟨rfl, Kp.refl _ _, ?init⟩) ?post)
  case init =>
    intro i j q1 q2 q3
    rcases Nat.lt_or_ge i j with d | d
    · exact r i j q1 q2 (by omega)
    · rw [show i = j by omega]; exact Int.le_refl _
  case post =>
    rintro c st' ⟨rfl, kp, r'⟩
    exact wpS_pure (h st' kp r')
  case fin =>
    rintro c st' ⟨hc, kp, r'⟩
    rw [show min (max (max ok 1) n) n = n by omega] at r'
    exact ⟨hc, kp, r'⟩
  case step =>
    rintro k c st' k1 k2 ⟨rfl, kp, r'⟩
    rw [show min k n = k by omega] at r'
    have hA' := hA.perm kp.perm
    have hk' := kp.kind.trans hk
    have zs := kp.size
    refine wpS_bind (wpS_mono (wpS_forRange (I := fun x c st2 => st2 = st' ∧ ∃ l u, c = (none, l, u) ∧ l ≤ u ∧ u ≤ k ∧ u - l ≤ k - x ∧ (∀ i, lo ≤ i → i < lo + l → num (nth (arrOf st') i) ≤ num (nth (arrOf st') (lo + k))) ∧ ∀ i, lo + u ≤ i → i < lo + k → num (nth (arrOf st') (lo + k)) < num (nth (arrOf st') i))
      (Q := fun c st2 => st2 = st' ∧ ∃ l, c = (none, l, l) ∧ l ≤ k ∧ (∀ i, lo ≤ i → i < lo + l → num (nth (arrOf st') i) ≤ num (nth (arrOf st') (lo + k))) ∧ ∀ i, lo + l ≤ i → i < lo + k → num (nth (arrOf st') (lo + k)) < num (nth (arrOf st') i)) ?bstep ?bfin ⟨rfl, 0, k, rfl, Nat.zero_le _, Nat.le_refl _, by omega, fun i q1 q2 => by omega, fun i q1 q2 => by omega⟩) ?bpost)
    case bfin =>
      rintro c st2 ⟨rfl, l, u, rfl, b1, b2, b3, b4, b5⟩
      obtain rfl : l = u := by omega
      exact ⟨rfl, l, rfl, b2, b4, b5⟩
    case bstep =>
      rintro x c st2 _ hx ⟨rfl, l, u, rfl, b1, b2, b3, b4, b5⟩
      dsimp only
      by_cases ge : l ≥ u
      · rw [if_pos ge]
        obtain rfl : l = u := by omega
        exact wpS_pure ⟨rfl, l, rfl, b2, b4, b5⟩
      rw [if_neg ge]
      refine wpS_bind (tm_ltAt hk' hA' (by omega) (by omega) ?_)
      by_cases lt : num (nth (arrOf st2) (lo + k)) < num (nth (arrOf st2) (lo + (l + u) / 2))
      · rw [decide_eq_true lt]
        exact wpS_pure ⟨rfl, l, (l + u) / 2, rfl, by omega, by omega, by omega, b4, fun i q1 q2 => Int.lt_of_lt_of_le lt (r' _ i (by omega) q1 q2)⟩
      · rw [decide_eq_false lt]
        exact wpS_pure ⟨rfl, (l + u) / 2 + 1, u, rfl, by omega, by omega, by omega, fun i q1 q2 => Int.le_trans (r' i (lo + (l + u) / 2) q1 (by omega) (by omega)) (Int.not_lt.mp lt), b5⟩
    case bpost =>
      rintro c st2 ⟨rfl, l, rfl, b2, b4, b5⟩
      have hs : lo + k < (arrOf st2).size := by omega
      have nb := nth_bubble (xs := arrOf st2) (src := lo + k) (d := lo + k - (lo + l)) hs (by omega)
      rw [show lo + k - (lo + k - (lo + l)) = lo + l by omega] at nb
      refine wpS_bind (wpS_modify (wpS_pure ⟨rfl, kp.trans ⟨bubble_perm _ _ _, rfl, rfl, rfl, fun i hi => ?_⟩, ?_⟩))
      · show nth (bubble (arrOf st2) (lo + k) (lo + k - (lo + l))) i = _
        rw [nb, if_neg (by omega), if_neg (by omega)]
      · rw [show min (k + 1) n = k + 1 by omega]
        show Rise (bubble (arrOf st2) (lo + k) (lo + k - (lo + l))) lo (lo + (k + 1))
        intro i j q1 q2 q3
        rw [nb, nb]
        by_cases c1 : i = lo + l
        · rw [if_pos c1]
          by_cases c2 : j = lo + l
          · rw [if_pos c2]; exact Int.le_refl _
          · rw [if_neg c2, if_pos (by omega)]
            exact Int.le_of_lt (b5 _ (by omega) (by omega))
        · rw [if_neg c1]
          by_cases c3 : lo + l < i ∧ i ≤ lo + k
          · rw [if_pos c3, if_neg (by omega), if_pos (by omega)]
            exact r' _ _ (by omega) (by omega) (by omega)
          · rw [if_neg c3]
            by_cases c2 : j = lo + l
            · rw [if_pos c2]
              exact b4 i q1 (by omega)
            · rw [if_neg c2]
              by_cases c4 : lo + l < j ∧ j ≤ lo + k
              · rw [if_pos c4]
                exact r' _ _ q1 (by omega) (by omega)
              · rw [if_neg c4]
                exact r' _ _ q1 q2 (by omega)
end
end L2T
end
section
set_option Elab.async false
set_option linter.all false
set_option maxRecDepth 100000
set_option maxHeartbeats 4000000
namespace L2T
open PySem PySem.Spec PyProof.Rows
abbrev Run := Nat × Nat × Nat
def Chain (xs : Array Keyed) : Nat → List Run → Nat → Prop
  | b, [], e => b = e
  | b, x :: p, e => x.1 = b ∧ 0 < x.2.1 ∧ Rise xs b (b + x.2.1) ∧ Chain xs (b + x.2.1) p e
theorem Chain.len {xs : Array Keyed} : ∀ {p : List Run} {b e : Nat}, Chain xs b p e → b + p.length ≤ e
  | [], b, e, h => by have h : b = e := h; rw [List.length_nil]; omega
  | x :: p, b, e, ⟨_, h1, _, h2⟩ => by have q := h2.len; rw [List.length_cons]; omega
theorem Chain.app {xs : Array Keyed} : ∀ {p q : List Run} {b e : Nat}, Chain xs b (p ++ q) e ↔ ∃ m, Chain xs b p m ∧ Chain xs m q e
  | [], q, b, e => ⟨fun h => ⟨b, rfl, h⟩, fun ⟨m, h1, h2⟩ => by have h1 : b = m := h1; rw [h1]; exact h2⟩
  | x :: p, q, b, e => ⟨fun ⟨h1, h2, h3, h4⟩ => by obtain ⟨m, h5, h6⟩ := Chain.app.mp h4; exact ⟨m, ⟨h1, h2, h3, h5⟩, h6⟩, fun ⟨m, ⟨h1, h2, h3, h5⟩, h6⟩ => ⟨h1, h2, h3, Chain.app.mpr ⟨m, h5, h6⟩⟩⟩
theorem Rise.congr {xs ys : Array Keyed} {b e : Nat} (h : Rise xs b e) (k : ∀ i, b ≤ i → i < e → nth ys i = nth xs i) : Rise ys b e := fun i j q1 q2 q3 => by
  rw [k i q1 (by omega), k j (by omega) q3]
  exact h i j q1 q2 q3
theorem Chain.congr {xs ys : Array Keyed} : ∀ {p : List Run} {b e : Nat}, Chain xs b p e → (∀ i, b ≤ i → i < e → nth ys i = nth xs i) → Chain ys b p e
  | [], _, _, h, _ => h
  | x :: p, b, e, ⟨h1, h2, h3, h4⟩, k => by
    have q := h4.len
    exact ⟨h1, h2, h3.congr fun i q1 q2 => k i q1 (by omega), h4.congr fun i q1 q2 => k i (by omega) q2⟩
theorem split2 {α : Type} {p : List α} {i : Nat} (h : i + 1 < p.length) : ∃ p1 a b p2, p = p1 ++ a :: b :: p2 ∧ p1.length = i := by
  refine ⟨p.take i, p[i], p[i + 1], p.drop (i + 2), ?_, by rw [List.length_take]; omega⟩
  rw [← List.drop_eq_getElem_cons (by omega), ← List.drop_eq_getElem_cons (by omega), List.take_append_drop]
theorem pend_merge {α : Type} (p1 p2 : List α) (a b v : α) : ((p1 ++ a :: b :: p2).toArray.setIfInBounds p1.length v).eraseIdxIfInBounds (p1.length + 1) = (p1 ++ v :: p2).toArray := by
  apply Array.toList_inj.mp
  rw [Array.eraseIdxIfInBounds_eq, dif_pos (by simp)]
  simp only [List.setIfInBounds_toArray, List.eraseIdx_toArray, List.set_append_right _ _ (Nat.le_refl _), Nat.sub_self, List.set_cons_zero]
  rw [List.eraseIdx_append_of_length_le (Nat.le_succ _), Nat.succ_sub (Nat.le_refl _), Nat.sub_self]
  rfl
theorem mod_last {α : Type} {y : α} {f : α → α} : ∀ q : List α, (q ++ [y]).modify q.length f = q ++ [f y]
  | [] => rfl
  | x :: q => by
    rw [List.cons_append, List.length_cons, List.modify_succ_cons, mod_last q]
    rfl
theorem pend_last {α : Type} (q : List α) (y : α) (f : α → α) : (q ++ [y]).toArray.modify ((q ++ [y]).toArray.size - 1) f = (q ++ [f y]).toArray := by
  apply Array.toList_inj.mp
  simp [mod_last]
theorem pend_push {α : Type} (q : List α) (y v : α) (f : α → α) : ((q ++ [y]).toArray.modify ((q ++ [y]).toArray.size - 1) f).push v = (q ++ [f y] ++ [v]).toArray := by
  rw [pend_last, List.push_toArray]
structure SR (a₀ : Array Keyed) (st : SortSt) (p : List Run) (lo : Nat) : Prop where
  perm : (arrOf st).Perm a₀
  kind : kindOf st = oneType'
  fail : failedOf st = none
  pend : pendingOf st = p.toArray
  chain : Chain (arrOf st) 0 p lo
section
variable {prog : Program} {w : World} {A : Around} {E : Value → Shared → Prop} {s : Shared} {st : SortSt} {a₀ : Array Keyed}
theorem tm_merge {p1 p2 : List Run} {a b : Run} {lo : Nat} {Q : Bool → SortSt → Prop} (hI : AllI a₀) (S : SR a₀ st (p1 ++ a :: b :: p2) lo) (hz : lo ≤ a₀.size)
    (h : ∀ st', SR a₀ st' (p1 ++ (a.1, a.2.1 + b.2.1, a.2.2) :: p2) lo → (∀ j, lo ≤ j → nth (arrOf st') j = nth (arrOf st) j) → Q true st') : wpS (model prog w) A E s (mergeAt' p1.length) Q st := by
  obtain ⟨m, c1, c2⟩ := Chain.app.mp S.chain
  obtain ⟨ea, ha, ra, eb, hb, rb, c3⟩ := c2
  obtain ⟨sa, na, pw⟩ := a
  obtain ⟨sb, nb, pw2⟩ := b
  have ea' : sa = m := ea
  have eb' : sb = m + na := eb
  have ha' : 0 < na := ha
  have hb' : 0 < nb := hb
  have ra' : Rise (arrOf st) m (m + na) := ra
  have rb' : Rise (arrOf st) (m + na) (m + na + nb) := rb
  have d3 : Chain (arrOf st) (m + na + nb) p2 lo := c3
  clear ea eb ha hb ra rb c3
  subst ea' eb'
  have l3 := d3.len
  have sz := S.perm.size_eq
  refine tm_mergeAt (sa := sa) (na := na) (pw := pw) (sb := sa + na) (nb := nb) (pw2 := pw2) S.kind S.fail (hI.perm S.perm) ?_ ?_ rfl ha' hb' (by omega) ra' rb' fun st' q1 q2 q3 q4 q5 q6 => ?_
  · rw [S.pend]; simp
  · rw [S.pend]; simp
  · refine h st' ⟨q1.trans S.perm, q2.trans S.kind, q3, ?_, ?_⟩ fun j hj => q5 j (.inr (by omega))
    · rw [q4, S.pend]
      exact pend_merge _ _ _ _ _
    · refine Chain.app.mpr ⟨sa, c1.congr fun i _ q => q5 i (.inl q), rfl, ?_, ?_, ?_⟩
      · show 0 < na + nb
        omega
      · show Rise (arrOf st') sa (sa + (na + nb))
        rw [← Nat.add_assoc]
        exact q6
      · show Chain (arrOf st') (sa + (na + nb)) p2 lo
        rw [← Nat.add_assoc]
        exact d3.congr fun i q _ => q5 i (.inr q)
theorem tm_sortRuns {Q : Unit → SortSt → Prop} (hI : AllI a₀) (hp : (arrOf st).Perm a₀) (hk : kindOf st = oneType') (hf : failedOf st = none) (hn : pendingOf st = #[])
    (h : ∀ st', (arrOf st').Perm a₀ → failedOf st' = none → Rise (arrOf st') 0 a₀.size → Q () st') : wpS (model prog w) A E s sortRuns' Q st := by
  have S0 : SR a₀ st [] 0 := ⟨hp, hk, hf, hn, rfl⟩
  have sz0 := hp.size_eq
  refine wpS_bind (wpS_get ?_)
  dsimp only
  rw [show (arrOf st).size = a₀.size from sz0]
  refine wpS_bind (wpS_mono (wpS_forRange (I := fun x c st' => ∃ lo p, c = (none, lo) ∧ SR a₀ st' p lo ∧ x ≤ lo ∧ lo ≤ a₀.size) (Q := fun c st' => ∃ p, c = (none, a₀.size) ∧ SR a₀ st' p a₀.size) ?step ?fin ⟨0, [], rfl, S0, Nat.le_refl _, Nat.zero_le _⟩) ?post)
  case fin =>
    rintro c st' ⟨lo, p, rfl, S, h1, h2⟩
    obtain rfl : lo = a₀.size := by omega
    exact ⟨p, rfl, S⟩
  case step =>
    rintro x c st' _ hx ⟨lo, p, rfl, S, h1, h2⟩
    dsimp only
    by_cases ge : lo ≥ a₀.size
    · rw [if_pos ge]
      obtain rfl : lo = a₀.size := by omega
      exact wpS_pure ⟨p, rfl, S⟩
    rw [if_neg ge]
    have sz := S.perm.size_eq
    refine wpS_bind (tm_countRun S.kind (hI.perm S.perm) (by omega) (by omega) fun found st1 kp1 f1 f2 r1 => ?_)
    dsimp only
    refine wps_ite (fun lt => ?_) (fun _ => ?_)
    · refine wpS_bind (wpS_lift (wpAny_rule ⟨rfl, ?_⟩))
      refine wpS_bind (tm_binarySort (kp1.kind.trans S.kind) (hI.perm (kp1.perm.trans S.perm)) (by omega) (by rw [kp1.size]; omega) r1 fun st2 kp2 r2 => ?_)
      refine wps_ite (fun z => nomatch z) (fun _ => ?_)
      have kp := kp1.trans kp2
      have hn : 1 ≤ min (a₀.size - lo) (minRun' a₀.size a₀.size 0) := by
        have lt : found < minRun' a₀.size a₀.size 0 := lt
        omega
      have hm : lo + min (a₀.size - lo) (minRun' a₀.size a₀.size 0) ≤ a₀.size := by omega
      have zs := kp.size
      have S2 : SR a₀ st2 p lo := ⟨kp.perm.trans S.perm, kp.kind.trans S.kind, kp.fail.trans S.fail, kp.pend.trans S.pend, S.chain.congr fun i _ q => kp.low i q⟩
      refine wpS_bind (wpS_get ?_)
      rcases List.eq_nil_or_concat p with ep | ⟨q, y, ep⟩
      · subst ep
        have hb : (pendingOf st2).back? = none := by rw [S2.pend]; rfl
        rw [hb]
        dsimp only
        have l0 : 0 = lo := S2.chain
        refine wpS_bind (wpS_modify (wpS_pure ⟨_, [(lo, min (a₀.size - lo) (minRun' a₀.size a₀.size 0), 0)], rfl, ⟨S2.perm, S2.kind, S2.fail, ?_, ?_⟩, by omega, by omega⟩))
        · show (pendingOf st2).push _ = _
          rw [S2.pend]
          rfl
        · exact ⟨l0.symm, by show 0 < min (a₀.size - lo) (minRun' a₀.size a₀.size 0); omega, fun i j q1 q2 (q3 : j < 0 + min (a₀.size - lo) (minRun' a₀.size a₀.size 0)) => r2 i j (by omega) q2 (show j < lo + min (a₀.size - lo) (minRun' a₀.size a₀.size 0) by omega), by show 0 + min (a₀.size - lo) (minRun' a₀.size a₀.size 0) = lo + min (a₀.size - lo) (minRun' a₀.size a₀.size 0); omega⟩
      · rw [List.concat_eq_append] at ep
        subst ep
        obtain ⟨s1, n1, w1⟩ := y
        have hb : (pendingOf st2).back? = some (s1, n1, w1) := by rw [S2.pend]; simp
        rw [hb]
        dsimp only
        refine wpS_bind (wpS_mono (wpS_forRange (I := fun _ c st3 => c = (none, ()) ∧ ∃ q y, SR a₀ st3 (q ++ [y]) lo ∧ ∀ j, lo ≤ j → nth (arrOf st3) j = nth (arrOf st2) j) (Q := fun c st3 => c = (none, ()) ∧ ∃ q y, SR a₀ st3 (q ++ [y]) lo ∧ ∀ j, lo ≤ j → nth (arrOf st3) j = nth (arrOf st2) j) ?cstep (fun _ _ hh => hh) ⟨rfl, q, _, S2, fun _ _ => rfl⟩) ?cpost)
        case cstep =>
          rintro x' c st3 _ _ ⟨rfl, q3, y3, S3, n3⟩
          refine wpS_bind (wpS_get ?_)
          rcases List.eq_nil_or_concat q3 with eq | ⟨q4, z, eq⟩
          · subst eq
            have e : (if (pendingOf st3).size > 1 then (pendingOf st3)[(pendingOf st3).size - 2]? else none) = none := by rw [S3.pend]; rfl
            rw [e]
            exact wpS_pure ⟨rfl, [], y3, S3, n3⟩
          · rw [List.concat_eq_append] at eq
            subst eq
            have ez : (pendingOf st3).size = q4.length + 2 := by rw [S3.pend]; simp
            have e : (if (pendingOf st3).size > 1 then (pendingOf st3)[(pendingOf st3).size - 2]? else none) = some z := by
              rw [if_pos (by omega), ez, Nat.add_sub_cancel, S3.pend]
              simp
            rw [e]
            obtain ⟨z1, z2, z3⟩ := z
            dsimp only
            refine wps_ite (fun _ => wpS_pure ⟨rfl, _, y3, S3, n3⟩) (fun _ => ?_)
            have e2 : (pendingOf st3).size - 2 = q4.length := by omega
            rw [e2]
            rw [List.append_assoc] at S3
            refine wpS_bind (tm_merge (a := (z1, z2, z3)) (b := y3) (p1 := q4) (p2 := []) hI S3 h2 fun st4 S4 n4 => ?_)
            exact wps_ite (fun z => nomatch z) (fun _ => wpS_pure ⟨rfl, q4, _, S4, fun j hj => (n4 j hj).trans (n3 j hj)⟩)
        case cpost =>
          rintro c st3 ⟨rfl, q3, y3, S3, n3⟩
          dsimp only
          refine wpS_bind (wpS_modify (wpS_bind (wpS_modify (wpS_pure ⟨_, q3 ++ [(y3.1, y3.2.1, power' a₀.size (2 * s1 + n1) (2 * s1 + n1 + n1 + min (a₀.size - lo) (minRun' a₀.size a₀.size 0)) a₀.size)] ++ [(lo, min (a₀.size - lo) (minRun' a₀.size a₀.size 0), 0)], rfl, ⟨S3.perm, S3.kind, S3.fail, ?ee1, ?cc1⟩, by omega, by omega⟩))))
          case ee1 => exact Eq.trans (congrArg (fun z : Array Run => (z.modify (z.size - 1) _).push _) S3.pend) (pend_push q3 y3 _ fun x => (x.1, x.2.1, power' a₀.size (2 * s1 + n1) (2 * s1 + n1 + n1 + min (a₀.size - lo) (minRun' a₀.size a₀.size 0)) a₀.size))
          case cc1 =>
            show Chain (arrOf st3) 0 _ _
            obtain ⟨m', d1, d2⟩ := Chain.app.mp S3.chain
            refine Chain.app.mpr ⟨lo, Chain.app.mpr ⟨m', d1, d2⟩, rfl, ?_, ?_, rfl⟩
            · show 0 < min (a₀.size - lo) (minRun' a₀.size a₀.size 0)
              omega
            · exact r2.congr fun i q1 _ => n3 i q1
    · have kp := kp1
      have zs := kp.size
      have S2 : SR a₀ st1 p lo := ⟨kp.perm.trans S.perm, kp.kind.trans S.kind, kp.fail.trans S.fail, kp.pend.trans S.pend, S.chain.congr fun i _ q => kp.low i q⟩
      refine wpS_bind (wpS_get ?_)
      rcases List.eq_nil_or_concat p with ep | ⟨q, y, ep⟩
      · subst ep
        have hb : (pendingOf st1).back? = none := by rw [S2.pend]; rfl
        rw [hb]
        dsimp only
        have l0 : 0 = lo := S2.chain
        refine wpS_bind (wpS_modify (wpS_pure ⟨_, [(lo, found, 0)], rfl, ⟨S2.perm, S2.kind, S2.fail, ?_, ?_⟩, by omega, by omega⟩))
        · show (pendingOf st1).push _ = _
          rw [S2.pend]
          rfl
        · exact ⟨l0.symm, by show 0 < found; omega, fun i j q1 q2 (q3 : j < 0 + found) => r1 i j (by omega) q2 (show j < lo + found by omega), by show 0 + found = lo + found; omega⟩
      · rw [List.concat_eq_append] at ep
        subst ep
        obtain ⟨s1, n1, w1⟩ := y
        have hb : (pendingOf st1).back? = some (s1, n1, w1) := by rw [S2.pend]; simp
        rw [hb]
        dsimp only
        refine wpS_bind (wpS_mono (wpS_forRange (I := fun _ c st3 => c = (none, ()) ∧ ∃ q y, SR a₀ st3 (q ++ [y]) lo ∧ ∀ j, lo ≤ j → nth (arrOf st3) j = nth (arrOf st1) j) (Q := fun c st3 => c = (none, ()) ∧ ∃ q y, SR a₀ st3 (q ++ [y]) lo ∧ ∀ j, lo ≤ j → nth (arrOf st3) j = nth (arrOf st1) j) ?cstep (fun _ _ hh => hh) ⟨rfl, q, _, S2, fun _ _ => rfl⟩) ?cpost)
        case cstep =>
          rintro x' c st3 _ _ ⟨rfl, q3, y3, S3, n3⟩
          refine wpS_bind (wpS_get ?_)
          rcases List.eq_nil_or_concat q3 with eq | ⟨q4, z, eq⟩
          · subst eq
            have e : (if (pendingOf st3).size > 1 then (pendingOf st3)[(pendingOf st3).size - 2]? else none) = none := by rw [S3.pend]; rfl
            rw [e]
            exact wpS_pure ⟨rfl, [], y3, S3, n3⟩
          · rw [List.concat_eq_append] at eq
            subst eq
            have ez : (pendingOf st3).size = q4.length + 2 := by rw [S3.pend]; simp
            have e : (if (pendingOf st3).size > 1 then (pendingOf st3)[(pendingOf st3).size - 2]? else none) = some z := by
              rw [if_pos (by omega), ez, Nat.add_sub_cancel, S3.pend]
              simp
            rw [e]
            obtain ⟨z1, z2, z3⟩ := z
            dsimp only
            refine wps_ite (fun _ => wpS_pure ⟨rfl, _, y3, S3, n3⟩) (fun _ => ?_)
            have e2 : (pendingOf st3).size - 2 = q4.length := by omega
            rw [e2]
            rw [List.append_assoc] at S3
            refine wpS_bind (tm_merge (a := (z1, z2, z3)) (b := y3) (p1 := q4) (p2 := []) hI S3 h2 fun st4 S4 n4 => ?_)
            exact wps_ite (fun z => nomatch z) (fun _ => wpS_pure ⟨rfl, q4, _, S4, fun j hj => (n4 j hj).trans (n3 j hj)⟩)
        case cpost =>
          rintro c st3 ⟨rfl, q3, y3, S3, n3⟩
          dsimp only
          refine wpS_bind (wpS_modify (wpS_bind (wpS_modify (wpS_pure ⟨_, q3 ++ [(y3.1, y3.2.1, power' a₀.size (2 * s1 + n1) (2 * s1 + n1 + n1 + found) a₀.size)] ++ [(lo, found, 0)], rfl, ⟨S3.perm, S3.kind, S3.fail, ?ee2, ?cc2⟩, by omega, by omega⟩))))
          case ee2 => exact Eq.trans (congrArg (fun z : Array Run => (z.modify (z.size - 1) _).push _) S3.pend) (pend_push q3 y3 _ fun x => (x.1, x.2.1, power' a₀.size (2 * s1 + n1) (2 * s1 + n1 + n1 + found) a₀.size))
          case cc2 =>
            show Chain (arrOf st3) 0 _ _
            obtain ⟨m', d1, d2⟩ := Chain.app.mp S3.chain
            refine Chain.app.mpr ⟨lo, Chain.app.mpr ⟨m', d1, d2⟩, rfl, ?_, ?_, rfl⟩
            · show 0 < found
              omega
            · exact r1.congr fun i q1 _ => n3 i q1
  case post =>
    rintro c st' ⟨p, rfl, S⟩
    dsimp only
    have l0 := S.chain.len
    refine wpS_bind (wpS_mono (wpS_forRange (I := fun x c st'' => c = (none, ()) ∧ ∃ p, SR a₀ st'' p a₀.size ∧ (p.length ≤ 1 ∨ p.length + x ≤ a₀.size)) (Q := fun c st'' => c = (none, ()) ∧ ∃ p, SR a₀ st'' p a₀.size ∧ p.length ≤ 1) ?mstep ?mfin ⟨rfl, p, S, .inr (by omega)⟩) ?mpost)
    case mfin =>
      rintro c st'' ⟨rfl, p, S, hl⟩
      exact ⟨rfl, p, S, by omega⟩
    case mpost =>
      rintro c st'' ⟨rfl, p, S, hl⟩
      refine wpS_pure (h st'' S.perm S.fail ?_)
      match p, hl, S.chain with
      | [], _, c =>
        have c : 0 = a₀.size := c
        intro i j q1 q2 q3
        omega
      | [x], _, ⟨_, _, r, e⟩ =>
        have e : 0 + x.2.1 = a₀.size := e
        rw [e] at r
        exact r
      | _ :: _ :: _, hl, _ => simp at hl
    case mstep =>
      rintro x c st'' _ hx ⟨rfl, p, S, hl⟩
      refine wpS_bind (wpS_get ?_)
      have zp : (pendingOf st'').size = p.length := by rw [S.pend]; rfl
      by_cases le : (pendingOf st'').size ≤ 1
      · rw [if_pos le]
        exact wpS_pure ⟨rfl, p, S, by omega⟩
      rw [if_neg le]
      have go : ∀ (i : Nat) (Q' : Bool → SortSt → Prop), i + 1 < p.length → (∀ st3 p', SR a₀ st3 p' a₀.size → p'.length + 1 = p.length → Q' true st3) → wpS (model prog w) A E s (mergeAt' i) Q' st'' := by
        intro i Q' hi hQ
        obtain ⟨p1, a, b, p2, rfl, rfl⟩ := split2 hi
        refine tm_merge hI S (Nat.le_refl _) fun st3 S3 _ => hQ st3 _ S3 ?_
        simp only [List.length_append, List.length_cons]
        omega
      refine wpS_bind (go _ _ ?_ fun st3 p' S3 e3 => wps_ite (fun z => nomatch z) (fun _ => wpS_pure ⟨rfl, p', S3, by omega⟩))
      have hh : ∀ (c : Prop) [Decidable c], (if c then (pendingOf st'').size - 2 - 1 else (pendingOf st'').size - 2) + 1 < p.length := by
        intro c _
        rw [zp] at le ⊢
        split
        · omega
        · omega
      exact hh _
end
end L2T
end
section
set_option Elab.async false
set_option linter.all false
set_option maxRecDepth 100000
set_option maxHeartbeats 4000000
namespace L2
open PySem PySem.Spec PyProof.Rows
theorem K_num (xs : Array Keyed) (i : Nat) : PyProof.Rows.K xs i = L2T.num (L2T.nth xs i) := by
  unfold PyProof.Rows.K L2T.nth L2T.num
  rw [Array.getD_eq_getD_getElem?]
  cases xs[i]? with
  | none => rfl
  | some p => rfl
section
variable {P : Program} {w : World} {A : Around} {E : Value → Shared → Prop} {s : Shared} {a : Addr}
theorem sort_any {vs : List Value} {ns : List Int} {n : Nat} {R : PySem.Fin → Shared → Prop} (ho : s.heap.get? a = some (seqObj "list" vs.toArray n)) (hI : IntsAre vs ns) (hz : vs.length ≤ 4000)
    (h : ∀ (out : Array Value) (ns' : List Int), IntsAre out.toList ns' → ns'.Perm ns → ns'.Pairwise (· ≤ ·) → R (.done (.ret .none)) { s with heap := sortedHeap s.heap a vs out }) : wpAny (model P w) A (Builtin.«list.sort» ⟨[.ref a], []⟩) R E s := by
  rcases Nat.lt_or_ge vs.length 64 with lt | ge
  · exact list_sort_tree ho hI lt h
  have l0 : vs.toArray.size = vs.length := by simp
  have z0 : vs.toArray.size ≤ sizeLine := by rw [l0, sizeLine_eq]; omega
  have la := Heap.lt_size ho
  obtain ⟨v1, v2, rest, rfl⟩ : ∃ v1 v2 rest, vs = v1 :: v2 :: rest := match vs, ge with
    | [], z => absurd z (by simp)
    | [_], z => absurd z (by simp)
    | v1 :: v2 :: rest, _ => ⟨v1, v2, rest, rfl⟩
  generalize ev : v1 :: v2 :: rest = vs at *
  have kk : keyKind' vs.toArray = pure oneType' := by rw [← ev]; exact keyKind_ints (by rw [ev]; exact hI)
  obtain ⟨e1, g1⟩ : ∃ e1, (s.heap.update a (Obj.mapSeq fun _ => #[])).get? a = some (seqObj "list" #[] e1) := ⟨_, get?_update_seq ho fun _ => #[]⟩
  have g2 : (((s.heap.update a (Obj.mapSeq fun _ => #[])).push (seqObj "tuple" vs.toArray 0)).push (seqObj "list" #[] 0)).get? a = some (seqObj "list" #[] e1) := Heap.get?_push_of_some _ (Heap.get?_push_of_some _ g1)
  rw [list_sort_plain]
  refine wpAny_bind (listItems_at ho rfl (wpAny_bind (listUpdate_at ho rfl (wpAny_bind (seqEpoch_at g1 rfl (wpAny_bind (wpAny_newTuple (wpAny_bind (wpAny_newList (wpAny_holding ?_))) ?t1))))  z0 (Nat.zero_le _))))
  case t1 => exact Nat.le_trans (by rw [Array.length_toList]; exact Nat.le_refl _) z0
  dsimp only
  rw [if_neg (by omega), if_neg (by omega), kk]
  refine wpAny_bind (wpAny_pure (wpAny_bind (wpAny_mono (L2T.tm_sortRuns (a₀ := pairsOf vs) (Q := fun _ st' => (arrOf st').Perm (pairsOf vs) ∧ failedOf st' = none ∧ L2T.Rise (arrOf st') 0 (pairsOf vs).size) (L2T.AllI.of_mem fun x hx => hI.intKeys x hx) (Array.Perm.refl _) rfl rfl rfl fun st' q1 q2 q3 => ⟨q1, q2, q3⟩) ?_ fun _ _ z => z)))
  rintro ⟨⟨⟩, st'⟩ s' ⟨rfl, q1, q2, q3⟩
  obtain ⟨ns', r1, r2, r3⟩ := sorted_out hI q1 fun i j hij hj => by rw [K_num, K_num]; exact q3 i j (Nat.zero_le _) hij hj
  have zo : ((arrOf st').map (·.2)).size ≤ sizeLine + 1 := by
    rw [Array.size_map, q1.size_eq, pairsOf_size]
    omega
  dsimp only
  refine wpAny_bind (seqEpoch_at g2 rfl (wpAny_bind (listUpdate_at g2 rfl ?_ (Nat.zero_le _) zo)))
  rw [q2]
  simp only [bne_self_eq_false, Bool.false_eq_true, if_false]
  exact wpAny_pure (h _ ns' r1 r2 r3)
variable {o : Obj} {ks : List Int}
theorem set_sortedB {Q : Value → Shared → Prop} (hh : A.handled = none) (ho : s.heap.get? a = some o) (S : SetIs P w ks o) (hz : ks.length ≤ 4000)
    (h : ∀ h' d tk l c out ns, h'.get? l = some (seqObj "list" out c) → s.heap.objs.size ≤ l → IntsAre out.toList ns → ns.Perm ks → ns.Pairwise (· ≤ ·) → (∀ b q, s.heap.get? b = some q → h'.get? b = some q) → Q (.ref l) { s with heap := h', drawn := d, toks := tk }) :
    wpAny (model P w) A (call (.builtin "sorted") [.ref a]) Q E s := by
  refine Calls.call_function_entry kind_sorted plain_sorted entry_sorted (args_sorted1 _) ?_
  unfold Builtin.«sorted»
  refine wpAny_bind (m := checkCount "sorted" 1 1 _) (wpAny_pure (wpAny_bind (set_collect (by simp [hh]) ho S fun h1 d tk vs ns hI pm sl k1 => ?_)))
  have lv : vs.length ≤ 4000 := by rw [IntsAre.length hI, pm.length_eq]; exact hz
  refine wpAny_bind (wpAny_newList ?_ (by rw [sizeLine_eq]; omega))
  have g1 : (h1.push (seqObj "list" vs.toArray 0)).get? h1.objs.size = some (seqObj "list" vs.toArray 0) := Heap.get?_push_size _ rfl
  refine wpAny_bind (wpAny_holding (wpAny_call_entry slot_list_sort (s := { s with heap := h1.push (seqObj "list" vs.toArray 0), drawn := d, toks := tk }) ⟨_, g1, rfl⟩ entry_list_sort (sort_any g1 hI lv fun out ns' a1 a2 a3 => ⟨_, rfl, ?_⟩) (args_list_sort _)))
  refine wpAny_pure ⟨_, rfl, ?_⟩
  have other : ∀ b q, h1.get? b = some q → (sortedHeap (h1.push (seqObj "list" vs.toArray 0)) h1.objs.size vs out).get? b = some q := fun b q e => by
    have ne : h1.objs.size ≠ b := Nat.ne_of_gt (Heap.lt_size e)
    unfold sortedHeap
    rw [Heap.get?_update_other _ _ ne]
    refine Heap.get?_push_of_some _ (Heap.get?_push_of_some _ ?_)
    rw [Heap.get?_update_other _ _ ne]
    exact Heap.get?_push_of_some _ e
  have self := get?_update_seq (Heap.get?_push_of_some (seqObj "list" #[] 0) (Heap.get?_push_of_some (seqObj "tuple" vs.toArray 0) (get?_update_seq g1 fun _ => #[]))) fun _ => out
  exact h _ d tk _ _ out ns' self (Nat.le_of_lt sl) a1 (a2.trans pm) a3 fun b q e => other b q (k1 b q e)
end
section
variable {X : Cx}
theorem call_sortedB (hc : X.calm = true) : CallR X (.builtin "sorted") (fun xs H Q => ∃ (a : Addr) (ks : List Int), xs = [.ref a] ∧ H a = some (hSt X.prog X.w a ks) ∧ ks.length ≤ 4000 ∧ ∀ (l : Addr) (ns : List Int), H l = none → ns.Perm ks → ns.Pairwise (· ≤ ·) → Q (.ref l) (upd H l (.lst (ns.map V.int)))) := by
  intro pins s σ H xs us Q I r h
  obtain ⟨a, ks, rfl, ha, hz, q⟩ := h
  obtain ⟨u, rfl, rx⟩ := vals1 r
  cases rx
  obtain ⟨o, ho, S⟩ := (I.hok a _ ha).1
  refine set_sortedB (I.ok.hd hc) ho S hz fun h' d tk l c out ns g hs hI pm so k => ?_
  have lz : (ns.map V.int).length ≤ sizeLine := by rw [List.length_map, pm.length_eq, sizeLine_eq]; omega
  refine ⟨.ref l, _, (I.laid (t' := tk) k hs (show ObjOk X.prog X.w _ h' _ (.lst (ns.map V.int)) from ⟨lz, out.toList, c, ints_valsS hI, by simpa using g⟩)).drawnTo d, rfl, q l ns (I.hok.fresh hs) pm so⟩
end
end L2
end
section
set_option Elab.async false
set_option linter.all false
set_option maxRecDepth 100000
set_option maxHeartbeats 8000000
namespace K25
open PySem L2 PyProof.Rows
def top (i : Nat) : Stmt := PySem.Challenge.pw_weirmark_k25_what_is_trimmed.main.body.getD i (.Pass ⟨0, 0, 0, 0⟩)
structure Txt (mg : Str → Option Value) : Prop where
  len : mg "len" = none
  abs : mg "abs" = none
  range : mg "range" = none
  isinstance : mg "isinstance" = none
  int : mg "int" = none
  bool : mg "bool" = none
  str : mg "str" = none
  list : mg "list" = none
  tuple : mg "tuple" = none
  sum : mg "sum" = none
  min : mg "min" = none
  max : mg "max" = none
  set : mg "set" = none
  sorted : mg "sorted" = none
  all : mg "all" = none
  zip : mg "zip" = none
def But (p : Addr) (H H' : Hp) : Prop := ∀ b o, H b = some o → b ≠ p → H' b = some o
theorem But.refl (p : Addr) (H : Hp) : But p H H := fun _ _ h _ => h
theorem But.trans {p : Addr} {H H1 H2 : Hp} (a : But p H H1) (b : But p H1 H2) : But p H H2 := fun c o h n => b c o (a c o h n) n
theorem But.upd (p : Addr) (H : Hp) (o : HO) : But p H (upd H p o) := fun c u h n => by rw [upd_ne n]; exact h
theorem But.new {p D : Addr} {H : Hp} (o : HO) (h : H D = none) : But p H (L2.upd H D o) := fun c u e n => by rw [upd_ne (ne_of_none e h)]; exact e
theorem Same.new {D : Addr} {H : Hp} (o : HO) (h : H D = none) : Same H (upd H D o) := fun c u e => by rw [upd_ne (ne_of_none e h)]; exact e
theorem Same.but {p : Addr} {H H' : Hp} (h : Same H H') : But p H H' := fun c u e _ => h c u e
def Hand (H : Hp) (p c : Addr) : Prop := ∃ (d n : Int) (cs : List Int), H p = some (.lst [.int d, .int n, .ref c]) ∧ H c = some (.lst (cs.map V.int)) ∧ cs ≠ []
theorem Hand.ne {H : Hp} {p c : Addr} (h : Hand H p c) : c ≠ p := by
  obtain ⟨d, n, cs, hp, hc, h0⟩ := h
  refine ne_of hc hp fun z => ?_
  have z : cs.map V.int = [.int d, .int n, .ref c] := by injection z
  match cs, z with
  | [_, _, _], z => simp at z
theorem Hand.set {H : Hp} {p c : Addr} (h : Hand H p c) (d n : Int) : Hand (upd H p (.lst [.int d, .int n, .ref c])) p c := by
  obtain ⟨_, _, cs, hp, hc, h0⟩ := id h
  exact ⟨d, n, cs, upd_same, by rw [upd_ne h.ne]; exact hc, h0⟩
theorem Hand.same {H H' : Hp} {p c : Addr} (h : Hand H p c) (k : Same H H') : Hand H' p c := by
  obtain ⟨d, n, cs, hp, hc, h0⟩ := h
  exact ⟨d, n, cs, k _ _ hp, k _ _ hc, h0⟩
theorem Hand.at {H : Hp} {p c : Addr} (h : Hand H p c) : ∃ o, H p = some o := by
  obtain ⟨d, n, cs, hp, _⟩ := h
  exact ⟨_, hp⟩
theorem Hand.new {H : Hp} {p c D : Addr} (h : Hand H p c) (o : HO) (e : H D = none) : Hand (upd H D o) p c := h.same (Same.new o e)
theorem Hand.free {H H' : Hp} {p c b : Addr} (h : Hand H' p c) (k : But p H H') (e : H' b = none) : H b = none := by
  obtain ⟨o', hp⟩ := h.at
  cases q : H b with
  | none => rfl
  | some o =>
    have : b ≠ p := fun z => by rw [z, hp] at e; cases e
    rw [k b o q this] at e; cases e
theorem Hand.nef {H : Hp} {p c D : Addr} (h : Hand H p c) (e : H D = none) : D ≠ p := fun z => by
  obtain ⟨o, hp⟩ := h.at
  rw [z, hp] at e; cases e
def spDraw : Sp := fun vs H Q _ => ∃ (p c : Addr) (many : Int), vs = [.ref p, .int many] ∧ Hand H p c ∧ 0 < many ∧ many < 1073741824 ∧ ∀ (r : Int) (H' : Hp), 0 ≤ r → r < many → Hand H' p c → But p H H' → Q (.int r) H'
def spOpen (K : PySem.W.Frag) : Sp := fun vs H Q _ => ∃ (a : Addr) (ns : List Int) (pl : Int), vs = [.ref a, .int pl] ∧ SqL K H a (ns.map V.int) ∧ ns.length ≤ 63 ∧ 0 ≤ pl ∧ pl ≤ 1000 ∧ ∀ (p c : Addr) (H' : Hp), H p = none → Hand H' p c → Same H H' → Q (.ref p) H'
def spFar : Sp := fun vs H Q _ => ∃ (p c : Addr) (bound : Int), vs = [.ref p, .int bound] ∧ Hand H p c ∧ 0 < bound ∧ ∀ (r : Int) (H' : Hp), 0 ≤ r → r < bound → Hand H' p c → But p H H' → Q (.int r) H'
abbrev s_draw : Stmt := top 20
theorem sc_draw : FnScope ["_law_hand", "_law_many", "_law_got", "_law_cell", "_law_number"] ["_law_hand", "_law_many"] (defScope s_draw) := ⟨rfl, rfl, rfl, by decide +kernel, rfl, by decide +kernel, by decide +kernel⟩
abbrev s_open : Stmt := top 19
theorem sc_open : FnScope ["_law_script", "_law_place", "_law_cells", "_law_at", "_law_digits"] ["_law_script", "_law_place"] (defScope s_open) := ⟨rfl, rfl, rfl, by decide +kernel, rfl, by decide +kernel, by decide +kernel⟩
abbrev s_far : Stmt := top 21
theorem sc_far : FnScope ["_law_hand", "_law_bound", "_law_total", "_law_k"] ["_law_hand", "_law_bound"] (defScope s_far) := ⟨rfl, rfl, rfl, by decide +kernel, rfl, by decide +kernel, by decide +kernel⟩
theorem at_mod (cs : List Int) (h0 : cs ≠ []) (n : Int) : ∃ x : Int, atI (cs.map V.int) (n % ((cs.map V.int).length : Int)) = some (.int x) := by
  have hl := List.length_pos_iff.mpr h0
  have e : (cs.map V.int).length = cs.length := List.length_map ..
  have h1 := Int.emod_nonneg n (b := ((cs.map V.int).length : Int)) (by omega)
  have h2 := Int.emod_lt_of_pos n (b := ((cs.map V.int).length : Int)) (by omega)
  obtain ⟨j, hj⟩ := Int.eq_ofNat_of_zero_le h1
  rw [hj]
  have hlt : j < cs.length := by omega
  exact ⟨cs[j], atI_nat (by rw [List.getElem?_map, List.getElem?_eq_getElem hlt]; rfl)⟩
theorem mulR {i j : Int} (h1 : -(2 ^ 64) < j) (h2 : j < 2 ^ 64) : CMul i j := .inr ⟨h1, h2⟩
theorem mulM {i a m : Int} (h0 : 0 < m := by decide) (h1 : m ≤ 2147483647 := by decide) : CMul i (a % m) := by
  have b1 := Int.emod_nonneg a (b := m) (by omega)
  have b2 := Int.emod_lt_of_pos a h0
  exact .inr ⟨by omega, by omega⟩
theorem pos1 : (0 : Int) < 2147483647 := by decide
theorem pos2 : (0 : Int) < 998244353 := by decide
theorem pos3 : (0 : Int) < 1000000007 := by decide
theorem mulL {i j : Int} (h1 : -(2 ^ 64) < i) (h2 : i < 2 ^ 64) : CMul i j := .inl ⟨h1, h2⟩
section
variable {P : Program} {w : World} {K : PySem.W.Frag} {mg : Str → Option Value} {base : Heap}
theorem ok_draw {f : Addr} {fd : FuncData} (L : Lk K mg "_law_draw" s_draw ["_law_hand", "_law_many"] f fd) (T : Txt mg) : Callee P w K mg base "_law_draw" ["_law_hand", "_law_many"] 1 spDraw := by
  refine L.callee (L.F.ok sc_draw (fun vs H Q E h => ?_) (fun cdv A outer s H vs Q E hr h => ?_))
  · obtain ⟨p, c, many, rfl, _⟩ := h
    rfl
  · obtain ⟨p, c, many, rfl, hh, m0, m1, k⟩ := h
    obtain ⟨d, n, cs, hp, hc, h0⟩ := id hh
    refine ⟨_, (QB.p (qb_cn (qs_if (qt_cmpR op_gt (qe_ix ix_list (qv 0) qe_int (fun _ _ => rfl)) qe_int (nomark _)) (qb_cn (qs_set (i := 2) sc_draw.nd rfl (Or.inl rfl) (qe_op op_mod (qe_ix ix_list (qv 0) qe_int (fun _ _ => rfl)) (qv 1)))
      (qb_cn (qs_asg (qe_op op_fdiv (qe_ix ix_list (qv 0) qe_int (fun _ _ => rfl)) (qv 1)) (qg_sub (qv 0) qe_int set_list))
      (qb_one (qs_ret (qv 2))))) qb_nil)
      (qb_cn (qs_augS (qv 0) qe_int get_list qe_int ip_add set_list)
      (qb_cn (qs_set (i := 3) sc_draw.nd rfl (Or.inl rfl) (qe_op op_mod (qe_ix ix_list (qe_ix ix_list (qv 0) qe_int (fun _ _ => rfl)) (qe_op op_mod (qe_ix ix_list (qv 0) qe_int (fun _ _ => rfl)) (qe_callB call_len_seq (by rfl) T.len PySem.boot_len (qa_cn (qe_ix ix_list (qv 0) qe_int (fun _ _ => rfl)) qa_nil))) (fun _ _ => rfl)) qe_int))
      (qb_cn (qs_set (i := 4) sc_draw.nd rfl (Or.inl rfl) (qe_op op_mod (qe_op op_add (qe_op op_add (qe_op op_mul (qv 3) qe_int) (qe_op op_mul (qe_ix ix_list (qv 0) qe_int (fun _ _ => rfl)) qe_int)) qe_int) qe_int))
      (qb_cn (qs_set (i := 4) sc_draw.nd rfl (Or.inl rfl) (qe_op op_mod (qe_op op_add (qe_op op_mul (qv 4) (qv 4)) (qe_ix ix_list (qv 0) qe_int (fun _ _ => rfl))) qe_int))
      (qb_cn (qs_set (i := 4) sc_draw.nd rfl (Or.inl rfl) (qe_op op_mod (qe_op op_add (qe_op op_mul (qv 4) qe_int) qe_int) qe_int))
      (qb_one (qs_ret (qe_op op_mod (qe_op op_fdiv (qe_op op_mod (qe_op op_mul (qv 4) (qv 4)) qe_int) qe_int) (qv 1))))))))))), ?_⟩
    refine ⟨_, rfl, p, _, _, _, rfl, rfl, SqL.of hp, rfl, _, _, rfl, rfl, _, rfl, ?_⟩
    refine ite2 (fun _ => ?_) (fun _ => ?_)
    · refine ⟨_, rfl, p, _, _, _, rfl, rfl, SqL.of hp, rfl, _, rfl, _, _, rfl, rfl, m0, ?_⟩
      refine ⟨_, rfl, p, _, _, _, rfl, rfl, SqL.of hp, rfl, _, rfl, _, _, rfl, rfl, ⟨m0, m1⟩, _, rfl, p, _, _, _, rfl, rfl, hp, rfl, _, rfl, ?_⟩
      exact k _ _ (Int.emod_nonneg _ (by omega)) (Int.emod_lt_of_pos _ m0) (hh.set _ n) (But.upd p H _)
    · refine ⟨_, rfl, p, _, 1, _, rfl, rfl, SqL.of hp, rfl, _, _, rfl, rfl, p, _, _, _, rfl, rfl, hp, rfl, ?_⟩
      have h1 : Hand (upd H p (.lst [.int d, .int (n + 1), .ref c])) p c := hh.set d (n + 1)
      have hp1 : (upd H p (.lst [.int d, .int (n + 1), .ref c])) p = some (.lst [.int d, .int (n + 1), .ref c]) := upd_same
      have hc1 : (upd H p (.lst [.int d, .int (n + 1), .ref c])) c = some (.lst (cs.map V.int)) := by rw [upd_ne hh.ne]; exact hc
      have hb : But p H (upd H p (.lst [.int d, .int (n + 1), .ref c])) := But.upd p H _
      obtain ⟨x, hx⟩ := at_mod cs h0 (n + 1)
      refine ⟨_, rfl, p, _, _, _, rfl, rfl, SqL.of hp1, rfl, _, rfl, p, _, _, _, rfl, rfl, SqL.of hp1, rfl, _, rfl, p, _, _, _, rfl, rfl, SqL.of hp1, rfl, c, _, rfl, .inl (SqL.of hc1), _, _, rfl, rfl, ?_, c, _, _, _, rfl, rfl, SqL.of hc1, hx, _, _, rfl, rfl, pos1, ?_⟩
      · show (0 : Int) < ((cs.map V.int).length : Int)
        rw [List.length_map]
        have := List.length_pos_iff.mpr h0
        omega
      refine ⟨_, rfl, _, _, rfl, rfl, mulR (by decide) (by decide), _, rfl, p, _, _, _, rfl, rfl, SqL.of hp1, rfl, _, _, rfl, rfl, mulR (by decide) (by decide), _, _, rfl, rfl, _, _, rfl, rfl, _, _, rfl, rfl, pos2, ?_⟩
      refine ⟨_, rfl, _, rfl, _, _, rfl, rfl, mulM, _, rfl, p, _, _, _, rfl, rfl, SqL.of hp1, rfl, _, _, rfl, rfl, _, _, rfl, rfl, pos2, ?_⟩
      refine ⟨_, rfl, _, _, rfl, rfl, mulR (by decide) (by decide), _, _, rfl, rfl, _, _, rfl, rfl, pos1, ?_⟩
      refine ⟨_, rfl, _, rfl, _, _, rfl, rfl, mulM, _, _, rfl, rfl, pos3, _, _, rfl, rfl, ⟨by decide, by decide⟩, _, rfl, _, _, rfl, rfl, m0, ?_⟩
      exact k _ _ (Int.emod_nonneg _ (by omega)) (Int.emod_lt_of_pos _ m0) h1 hb
end
theorem flat_ints (ns : List Int) : (ns.map V.int).all flatV = true := by
  rw [List.all_map]
  exact List.all_eq_true.mpr fun _ _ => rfl
theorem cut_ints (ns : List Int) (lo hi : Option Int) : ∃ ms : List Int, cutV (ns.map V.int) lo hi = ms.map V.int ∧ ms.length ≤ ns.length := by
  refine ⟨(ns.drop (HT.sIx (ns.map V.int).length 0 lo)).take (HT.sIx (ns.map V.int).length (ns.map V.int).length hi - HT.sIx (ns.map V.int).length 0 lo), ?_, ?_⟩
  · unfold cutV
    rw [List.map_take, List.map_drop]
  · rw [List.length_take, List.length_drop]
    omega
theorem cut_from (xs : List V) (j : Nat) (h : j ≤ xs.length) : cutV xs (some (j : Int)) none = xs.drop j := by
  unfold cutV
  rw [HT.sIx_nat, HT.sIx_none, Nat.min_eq_left h]
  exact List.take_of_length_le (by rw [List.length_drop]; omega)
theorem cut_to (xs : List V) (j : Nat) (h : j ≤ xs.length) : cutV xs none (some (j : Int)) = xs.take j := by
  unfold cutV
  rw [HT.sIx_nat, HT.sIx_none, Nat.min_eq_left h, List.drop_zero, Nat.sub_zero]
theorem int_at {ns : List Int} {i : Nat} {x : V} (h : (ns.map V.int)[i]? = some x) : ∃ v, x = .int v ∧ ns[i]? = some v := by
  rw [List.getElem?_map] at h
  cases e : ns[i]? with
  | none => rw [e] at h; cases h
  | some v => rw [e] at h; exact ⟨v, (Option.some.inj h).symm, rfl⟩
theorem at_ints {ms : List Int} {i : Int} (h0 : 0 ≤ i) (h1 : i < ms.length) : ∃ v : Int, atI (ms.map V.int) i = some (.int v) := by
  obtain ⟨j, rfl⟩ := Int.eq_ofNat_of_zero_le h0
  have hlt : j < ms.length := by omega
  exact ⟨ms[j], atI_nat (by rw [List.getElem?_map, List.getElem?_eq_getElem hlt]; rfl)⟩
theorem le63 {n : Nat} (h : n ≤ 63) : n ≤ sizeLine := Nat.le_trans h (by decide)
section
variable {P : Program} {w : World} {K : PySem.W.Frag} {mg : Str → Option Value} {base : Heap}
theorem ok_open {f : Addr} {fd : FuncData} (L : Lk K mg "_law_open" s_open ["_law_script", "_law_place"] f fd) (T : Txt mg) : Callee P w K mg base "_law_open" ["_law_script", "_law_place"] 1 (spOpen K) := by
  refine L.callee (L.F.ok sc_open (fun vs H Q E h => ?_) (fun cdv A outer s H vs Q E hr h => ?_))
  · obtain ⟨a, ns, pl, rfl, _⟩ := h
    rfl
  · obtain ⟨a, ns, pl, rfl, hS, hn, p0, p1, k⟩ := h
    have R : ∃ u, PSs ((cxOf CX0 P w K mg base ["_law_script", "_law_place", "_law_cells", "_law_at", "_law_digits"] "_law_open" (defScope s_open) f cdv A outer s H E).nox) ((defBody s_open).drop 2) u ∧ ∀ (e : Addr) (H2 : Hp) (ms : List Int), H2 e = some (.lst (ms.map V.int)) → ms ≠ [] → ms.length ≤ 63 → Same H H2 →
        u { nx := fun _ H' => Q .non H', rt := Q } [some (.ref a), some (.int pl), some (.ref e), none, none] H2 := by
      refine ⟨_, (QB.p (qb_cn (qs_set (i := 3) sc_open.nd rfl (Or.inl rfl) (qe_op op_mod (qv 1) (qe_callB call_len_seq (by rfl) T.len PySem.boot_len (qa_cn (qv 2) qa_nil))))
      (qb_cn (qs_set (i := 4) sc_open.nd rfl (Or.inl rfl) qe_int)
      (qb_cn (qs_if (qw_pt (qw_and (qt_cmpR op_ge (qe_ix ix_list (qv 2) (qv 3) (fun _ _ => rfl)) (qe_op op_pow qe_int qe_int) (nomark _)) (qw_and1 (qt_cmpR op_lt (qv 1) (qe_callB call_len_seq (by rfl) T.len PySem.boot_len (qa_cn (qv 2) qa_nil)) (nomark _))))) (qb_one (qs_set (i := 4) sc_open.nd rfl (Or.inl rfl) (qe_ix ix_list (qv 2) (qv 3) (fun _ _ => rfl)))) qb_nil)
      (qb_one (qs_ret (qe_lst (qa_cn (qv 4) (qa_cn (qe_op op_add qe_int (qe_op op_mul qe_int (qv 1))) (qa_cn (qe_op op_cat (qe_slice sl_list (qv 2) (qo_some (qv 3)) qo_none) (qe_slice sl_list (qv 2) qo_none (qo_some (qv 3)))) qa_nil)))))))))), fun e H2 ms he m0 m1 s2 => ?_⟩
      have hl := List.length_pos_iff.mpr m0
      have el : (ms.map V.int).length = ms.length := List.length_map ..
      have b1 := Int.emod_nonneg pl (b := ((ms.map V.int).length : Int)) (by omega)
      have b2 := Int.emod_lt_of_pos pl (b := ((ms.map V.int).length : Int)) (by omega)
      refine ⟨_, rfl, _, rfl, e, _, rfl, .inl (SqL.of he), _, _, rfl, rfl, ?_, ?_⟩
      · show (0 : Int) < ((ms.map V.int).length : Int)
        omega
      obtain ⟨v, hv⟩ := at_ints (ms := ms) b1 (by omega)
      have fin : ∀ (dg at' : Int), 0 ≤ at' → at' < (ms.length : Int) → tRet (tLst (tCons (tVar 4) (tCons (tOp (rI0 fun i j => .int (i + j)) (tC (.int 1)) (tOp (rI CMul fun i j => .int (i * j)) (tC (.int 101)) (tVar 1))) (tCons (tOp rCat (tSl (rSlL K) (tVar 2) (tPart (tVar 3)) tNoPart) (tSl (rSlL K) (tVar 2) tNoPart (tPart (tVar 3)))) tNil)))) { nx := fun _ H' => Q .non H', rt := Q } [some (.ref a), some (.int pl), some (.ref e), some (.int at'), some (.int dg)] H2 := by
        intro dg at' a0 a1
        obtain ⟨ja, rfl⟩ := Int.eq_ofNat_of_zero_le a0
        have jl : ja < ms.length := by omega
        have e2 := cut_from (ms.map V.int) ja (by rw [List.length_map]; omega)
        have e3 := cut_to (ms.map V.int) ja (by rw [List.length_map]; omega)
        rw [← List.map_drop] at e2
        rw [← List.map_take] at e3
        have l2 : (ms.drop ja).length ≤ ms.length := by rw [List.length_drop]; omega
        have l3 : (ms.take ja).length ≤ ms.length := by rw [List.length_take]; omega
        refine ⟨_, rfl, _, rfl, _, _, rfl, rfl, mulL (by decide) (by decide), _, _, rfl, rfl, _, rfl, _, rfl, _, rfl, e, _, rfl, SqL.of he, fun q hq => ?_⟩
        have he' : (upd H2 q (.lst (cutV (ms.map V.int) (some (ja : Int)) none))) e = some (.lst (ms.map V.int)) := by rw [upd_ne (ne_of_none he hq)]; exact he
        refine ⟨_, rfl, _, rfl, _, rfl, e, _, rfl, SqL.of he', fun q2 hq2 => ?_⟩
        have nq : q ≠ q2 := fun z => by rw [← z, upd_same] at hq2; cases hq2
        have hq' : H2 q2 = none := by rw [upd_ne (Ne.symm nq)] at hq2; exact hq2
        refine ⟨q, q2, _, _, rfl, rfl, by rw [upd_ne nq, upd_same], upd_same, ?_, fun q3 hq3 => ?_⟩
        · rw [e2, e3, List.length_map, List.length_map]
          exact Nat.le_trans (Nat.add_le_add l2 l3) (by have : ms.length + ms.length ≤ 126 := by omega
                                                        exact Nat.le_trans this (by decide))
        refine ⟨by show 3 ≤ sizeLine; decide, fun p hp => ?_⟩
        have s3 : Same H2 (upd (upd (upd H2 q (.lst (cutV (ms.map V.int) (some (ja : Int)) none))) q2 (.lst (cutV (ms.map V.int) none (some (ja : Int))))) q3 (.lst (cutV (ms.map V.int) (some (ja : Int)) none ++ cutV (ms.map V.int) none (some (ja : Int))))) :=
          ((Same.new _ hq).trans (Same.new _ hq2)).trans (Same.new _ hq3)
        have s4 := s3.trans (Same.new (.lst [.int dg, .int (1 + 101 * pl), .ref q3]) hp)
        refine k p q3 _ ((s2.trans s3).free hp) ⟨dg, 1 + 101 * pl, ms.drop ja ++ ms.take ja, upd_same, ?_, ?_⟩ (s2.trans s4)
        · rw [upd_ne (fun z => by rw [← z, upd_same] at hp; cases hp), upd_same, e2, e3, List.map_append]
        · intro z
          have := congrArg List.length z
          rw [List.length_append, List.length_drop, List.length_take, List.length_nil] at this
          omega
      refine ⟨_, rfl, _, rfl, e, _, _, _, rfl, rfl, SqL.of he, hv, _, _, rfl, rfl, ⟨by decide, by decide, by decide⟩, _, _, rfl, rfl, _, rfl, ?_⟩
      refine ite2 (fun _ => ?_) (fun _ => ?_)
      · refine ⟨_, rfl, _, rfl, e, _, rfl, .inl (SqL.of he), _, _, rfl, rfl, _, rfl, ?_⟩
        refine ite2 (fun _ => ?_) (fun _ => ?_)
        · exact ⟨_, rfl, _, rfl, e, _, _, _, rfl, rfl, SqL.of he, hv, fin _ _ b1 (by omega)⟩
        · exact fin _ _ b1 (by omega)
      · refine iteF ?_
        exact fin _ _ b1 (by omega)
    obtain ⟨u, hu, ku⟩ := R
    refine ⟨_, (QB.p (qb_cn (qs_comp (i := 2) ["_law_cell"] [] [] ["_law_script", "_law_place", "_law_cells", "_law_at", "_law_digits"] (defScope s_open).names rfl sc_open.nd rfl (Or.inl rfl) (qi_list (qe_slice sl_list (qv 0) qo_none (qo_some qe_int))) (fun _ _ _ _ _ => (qg_name (i := 0) (show (["_law_cell"] : List Str).Nodup by decide +kernel) rfl (Or.inl rfl))) (fun _ _ _ _ _ => qts_nil) (fun _ _ _ _ _ => (qe_callB call_abs (by rfl) T.abs boot_abs (qa_cn (qv 0) qa_nil))))
      (qb_cn (qs_if (qt_cmpR (op_eqL (hu0 hr)) (qv 2) (qe_lst qa_nil) (nomark _)) (qb_one (qs_set (i := 2) sc_open.nd rfl (Or.inl rfl) (qe_lst (qa_cn qe_int qa_nil)))) qb_nil)
      ⟨hu⟩))), ?_⟩
    obtain ⟨cn, ec, lc⟩ := cut_ints ns none (some 63)
    refine ⟨_, rfl, _, rfl, a, _, rfl, hS, fun q hq => ⟨q, rfl, ⟨_, SqL.of upd_same⟩, fun D hD => ?_⟩⟩
    refine comp_list (K := K) (a := q) (xs := cn.map V.int) (fun i ys H' => (∃ ms : List Int, ys = ms.map V.int ∧ ms.length = i) ∧ Same (upd H q (.lst (cutV (ns.map V.int) none (some 63)))) H') ⟨⟨[], rfl, rfl⟩, Same.new _ hD⟩ (fun i ys H' _ ⟨_, s'⟩ => SqL.of (s' _ _ (by rw [upd_same, ec])))
      (fun ys H' ⟨⟨ms, e1, l1⟩, s'⟩ hD' => ?_) (fun i x ys H' hx ⟨⟨ms, e1, l1⟩, s'⟩ hD' => ?_)
    · subst e1
      have hlm : ms.length ≤ 63 := by rw [l1, List.length_map]; omega
      have s1 : Same H H' := (Same.new _ hq).trans s'
      refine ⟨_, rfl, Nat.zero_le _, fun e he => ⟨D, e, _, _, rfl, rfl, SqL.of (by rw [upd_ne (ne_of_none hD' he)]; exact hD'), SqL.of upd_same, flat_ints ms, rfl, _, rfl, ?_⟩⟩
      have s2 : Same H (upd H' e (.lst [])) := s1.trans (Same.new _ he)
      refine ite2 (fun _ => ?_) (fun hne => ?_)
      · refine ⟨by show 1 ≤ sizeLine; decide, fun d hd => ?_⟩
        exact ku d _ [0] upd_same (by simp) (by show 1 ≤ 63; decide) (s2.trans (Same.new _ hd))
      · refine ku D _ ms (by rw [upd_ne (ne_of_none hD' he)]; exact hD') (fun z => hne ?_) hlm s2
        rw [z]
        rfl
    · obtain ⟨v, rfl, _⟩ := int_at hx
      subst e1
      have hi : i < (cn.map V.int).length := (List.getElem?_eq_some_iff.mp hx).1
      rw [List.length_map] at hi
      refine ⟨rfl, _, rfl, v, rfl, hD', ?_, nx (by rw [List.length_map]; exact hi) ⟨⟨ms ++ [if v < 0 then -v else v], by rw [List.map_append]; rfl, by rw [List.length_append, l1]; rfl⟩, ?_⟩⟩
      · rw [List.length_map, l1]
        exact Nat.lt_of_lt_of_le hi (Nat.le_trans lc (Nat.le_trans hn (by decide)))
      · intro b o e
        rw [upd_ne (fun z => by rw [z, hD] at e; cases e)]
        exact s' b o e
theorem ok_far {f : Addr} {fd : FuncData} (L : Lk K mg "_law_far" s_far ["_law_hand", "_law_bound"] f fd) (T : Txt mg) (C__law_draw : Callee P w K mg base "_law_draw" ["_law_hand", "_law_many"] 1 spDraw) : Callee P w K mg base "_law_far" ["_law_hand", "_law_bound"] 2 spFar := by
  refine L.callee (L.F.ok sc_far (fun vs H Q E h => ?_) (fun cdv A outer s H vs Q E hr h => ?_))
  · obtain ⟨p, c, many, rfl, _⟩ := h
    rfl
  · obtain ⟨p, c, bound, rfl, hh, m0, k⟩ := h
    refine ⟨_, (QB.p (qb_cn (qs_set (i := 2) sc_far.nd rfl (Or.inl rfl) qe_int)
      (qb_cn (qs_for PassesOwn.never rfl (qi_range1 rfl T.range (qa_cn qe_int qa_nil)) (qg_name (i := 3) sc_far.nd rfl (Or.inl rfl)) (qb_one (qs_set (i := 2) sc_far.nd rfl (Or.inl rfl) (qe_op op_add (qe_op op_mul (qv 2) qe_int) (qe_callee C__law_draw (hr.mono (by first | decide | omega)) (by rfl) (qa_cn (qv 0) (qa_cn qe_int qa_nil)))))))
      (qb_one (qs_ret (qe_op op_mod (qv 2) (qv 1))))))), ?_⟩
    refine ⟨11, rfl, by decide, by decide, for_range (n := 11) (fun i σ H' => ∃ (t : Int) (v : Option V), σ = [some (.ref p), some (.int bound), some (.int t), v] ∧ Hand H' p c ∧ But p H H') ⟨0, none, rfl, hh, But.refl p H⟩ ?_ ?_⟩
    · rintro i σ H' hi ⟨t, v, rfl, h1, b1⟩
      refine ⟨_, rfl, _, _, rfl, rfl, mulR (by decide) (by decide), _, rfl, p, c, 1000003, rfl, h1, by decide, by decide, fun r H2 r0 r1 h2 b2 => ?_⟩
      exact ⟨_, _, rfl, rfl, _, _, rfl, h2, b1.trans b2⟩
    · rintro σ H' ⟨t, v, rfl, h1, b1⟩
      refine ⟨_, rfl, _, rfl, _, _, rfl, rfl, m0, ?_⟩
      exact k _ _ (Int.emod_nonneg _ (by omega)) (Int.emod_lt_of_pos _ m0) h1 b1
end
end K25
end
section
set_option Elab.async false
set_option linter.all false
set_option maxRecDepth 100000
set_option maxHeartbeats 4000000
namespace K25
open PySem L2 PyProof.Rows
abbrev s_known : Stmt := top 8
theorem sc_known : FnScope ["things"] ["things"] (defScope s_known) := ⟨rfl, rfl, rfl, by decide +kernel, rfl, by decide +kernel, by decide +kernel⟩
abbrev s_unlike_values : Stmt := top 9
theorem sc_unlike_values : FnScope ["part", "values"] ["part", "values"] (defScope s_unlike_values) := ⟨rfl, rfl, rfl, by decide +kernel, rfl, by decide +kernel, by decide +kernel⟩
abbrev s_Count_word : Stmt := inClass (top 4) 0
theorem sc_Count_word : FnScope ["self"] ["self"] (defScope s_Count_word) := ⟨rfl, rfl, rfl, by decide +kernel, rfl, by decide +kernel, by decide +kernel⟩
abbrev s_Total_word : Stmt := inClass (top 5) 0
theorem sc_Total_word : FnScope ["self"] ["self"] (defScope s_Total_word) := ⟨rfl, rfl, rfl, by decide +kernel, rfl, by decide +kernel, by decide +kernel⟩
abbrev s_Least_word : Stmt := inClass (top 10) 0
theorem sc_Least_word : FnScope ["self"] ["self"] (defScope s_Least_word) := ⟨rfl, rfl, rfl, by decide +kernel, rfl, by decide +kernel, by decide +kernel⟩
abbrev s_Greatest_word : Stmt := inClass (top 11) 0
theorem sc_Greatest_word : FnScope ["self"] ["self"] (defScope s_Greatest_word) := ⟨rfl, rfl, rfl, by decide +kernel, rfl, by decide +kernel, by decide +kernel⟩
abbrev s_Last_word : Stmt := inClass (top 6) 0
theorem sc_Last_word : FnScope ["self"] ["self"] (defScope s_Last_word) := ⟨rfl, rfl, rfl, by decide +kernel, rfl, by decide +kernel, by decide +kernel⟩
abbrev s_Unlike_word : Stmt := inClass (top 12) 0
theorem sc_Unlike_word : FnScope ["self"] ["self"] (defScope s_Unlike_word) := ⟨rfl, rfl, rfl, by decide +kernel, rfl, by decide +kernel, by decide +kernel⟩
abbrev s_Count_weighs : Stmt := inClass (top 4) 4
theorem sc_Count_weighs : FnScope ["self", "part", "value"] ["self", "part", "value"] (defScope s_Count_weighs) := ⟨rfl, rfl, rfl, by decide +kernel, rfl, by decide +kernel, by decide +kernel⟩
abbrev s_Total_weighs : Stmt := inClass (top 5) 4
theorem sc_Total_weighs : FnScope ["self", "part", "value"] ["self", "part", "value"] (defScope s_Total_weighs) := ⟨rfl, rfl, rfl, by decide +kernel, rfl, by decide +kernel, by decide +kernel⟩
abbrev s_Least_weighs : Stmt := inClass (top 10) 4
theorem sc_Least_weighs : FnScope ["self", "part", "value"] ["self", "part", "value"] (defScope s_Least_weighs) := ⟨rfl, rfl, rfl, by decide +kernel, rfl, by decide +kernel, by decide +kernel⟩
abbrev s_Greatest_weighs : Stmt := inClass (top 11) 4
theorem sc_Greatest_weighs : FnScope ["self", "part", "value"] ["self", "part", "value"] (defScope s_Greatest_weighs) := ⟨rfl, rfl, rfl, by decide +kernel, rfl, by decide +kernel, by decide +kernel⟩
abbrev s_Last_weighs : Stmt := inClass (top 6) 4
theorem sc_Last_weighs : FnScope ["self", "part", "value"] ["self", "part", "value"] (defScope s_Last_weighs) := ⟨rfl, rfl, rfl, by decide +kernel, rfl, by decide +kernel, by decide +kernel⟩
abbrev s_Unlike_weighs : Stmt := inClass (top 12) 4
theorem sc_Unlike_weighs : FnScope ["self", "part", "value"] ["self", "part", "value"] (defScope s_Unlike_weighs) := ⟨rfl, rfl, rfl, by decide +kernel, rfl, by decide +kernel, by decide +kernel⟩
abbrev s_Count_trimmed : Stmt := inClass (top 4) 5
theorem sc_Count_trimmed : FnScope ["self", "part", "value"] ["self", "part", "value"] (defScope s_Count_trimmed) := ⟨rfl, rfl, rfl, by decide +kernel, rfl, by decide +kernel, by decide +kernel⟩
abbrev s_Total_trimmed : Stmt := inClass (top 5) 5
theorem sc_Total_trimmed : FnScope ["self", "part", "value"] ["self", "part", "value"] (defScope s_Total_trimmed) := ⟨rfl, rfl, rfl, by decide +kernel, rfl, by decide +kernel, by decide +kernel⟩
abbrev s_Least_trimmed : Stmt := inClass (top 10) 5
theorem sc_Least_trimmed : FnScope ["self", "part", "value"] ["self", "part", "value"] (defScope s_Least_trimmed) := ⟨rfl, rfl, rfl, by decide +kernel, rfl, by decide +kernel, by decide +kernel⟩
abbrev s_Greatest_trimmed : Stmt := inClass (top 11) 5
theorem sc_Greatest_trimmed : FnScope ["self", "part", "value"] ["self", "part", "value"] (defScope s_Greatest_trimmed) := ⟨rfl, rfl, rfl, by decide +kernel, rfl, by decide +kernel, by decide +kernel⟩
abbrev s_Last_trimmed : Stmt := inClass (top 6) 5
theorem sc_Last_trimmed : FnScope ["self", "part", "value"] ["self", "part", "value"] (defScope s_Last_trimmed) := ⟨rfl, rfl, rfl, by decide +kernel, rfl, by decide +kernel, by decide +kernel⟩
abbrev s_Unlike_trimmed : Stmt := inClass (top 12) 5
theorem sc_Unlike_trimmed : FnScope ["self", "part", "value"] ["self", "part", "value"] (defScope s_Unlike_trimmed) := ⟨rfl, rfl, rfl, by decide +kernel, rfl, by decide +kernel, by decide +kernel⟩
abbrev s_Count_behind : Stmt := inClass (top 4) 2
theorem sc_Count_behind : FnScope ["self", "part", "value"] ["self", "part", "value"] (defScope s_Count_behind) := ⟨rfl, rfl, rfl, by decide +kernel, rfl, by decide +kernel, by decide +kernel⟩
abbrev s_Total_behind : Stmt := inClass (top 5) 2
theorem sc_Total_behind : FnScope ["self", "part", "value"] ["self", "part", "value"] (defScope s_Total_behind) := ⟨rfl, rfl, rfl, by decide +kernel, rfl, by decide +kernel, by decide +kernel⟩
abbrev s_Least_behind : Stmt := inClass (top 10) 2
theorem sc_Least_behind : FnScope ["self", "part", "value"] ["self", "part", "value"] (defScope s_Least_behind) := ⟨rfl, rfl, rfl, by decide +kernel, rfl, by decide +kernel, by decide +kernel⟩
abbrev s_Greatest_behind : Stmt := inClass (top 11) 2
theorem sc_Greatest_behind : FnScope ["self", "part", "value"] ["self", "part", "value"] (defScope s_Greatest_behind) := ⟨rfl, rfl, rfl, by decide +kernel, rfl, by decide +kernel, by decide +kernel⟩
abbrev s_Last_behind : Stmt := inClass (top 6) 2
theorem sc_Last_behind : FnScope ["self", "part", "value"] ["self", "part", "value"] (defScope s_Last_behind) := ⟨rfl, rfl, rfl, by decide +kernel, rfl, by decide +kernel, by decide +kernel⟩
abbrev s_Unlike_behind : Stmt := inClass (top 12) 2
theorem sc_Unlike_behind : FnScope ["self", "part", "value"] ["self", "part", "value"] (defScope s_Unlike_behind) := ⟨rfl, rfl, rfl, by decide +kernel, rfl, by decide +kernel, by decide +kernel⟩
abbrev s_Count_shown : Stmt := inClass (top 4) 3
theorem sc_Count_shown : FnScope ["self", "part", "values"] ["self", "part", "values"] (defScope s_Count_shown) := ⟨rfl, rfl, rfl, by decide +kernel, rfl, by decide +kernel, by decide +kernel⟩
abbrev s_Total_shown : Stmt := inClass (top 5) 3
theorem sc_Total_shown : FnScope ["self", "part", "values"] ["self", "part", "values"] (defScope s_Total_shown) := ⟨rfl, rfl, rfl, by decide +kernel, rfl, by decide +kernel, by decide +kernel⟩
abbrev s_Least_shown : Stmt := inClass (top 10) 3
theorem sc_Least_shown : FnScope ["self", "part", "values"] ["self", "part", "values"] (defScope s_Least_shown) := ⟨rfl, rfl, rfl, by decide +kernel, rfl, by decide +kernel, by decide +kernel⟩
abbrev s_Greatest_shown : Stmt := inClass (top 11) 3
theorem sc_Greatest_shown : FnScope ["self", "part", "values"] ["self", "part", "values"] (defScope s_Greatest_shown) := ⟨rfl, rfl, rfl, by decide +kernel, rfl, by decide +kernel, by decide +kernel⟩
abbrev s_Last_shown : Stmt := inClass (top 6) 3
theorem sc_Last_shown : FnScope ["self", "part", "values"] ["self", "part", "values"] (defScope s_Last_shown) := ⟨rfl, rfl, rfl, by decide +kernel, rfl, by decide +kernel, by decide +kernel⟩
abbrev s_Unlike_shown : Stmt := inClass (top 12) 3
theorem sc_Unlike_shown : FnScope ["self", "part", "values"] ["self", "part", "values"] (defScope s_Unlike_shown) := ⟨rfl, rfl, rfl, by decide +kernel, rfl, by decide +kernel, by decide +kernel⟩
def wordAt : Nat → Str
  | 0 => "count"
  | 1 => "total"
  | 2 => "least"
  | 3 => "greatest"
  | 4 => "last"
  | _ => "unlike"
def Amt : Nat → List Int → Int → Prop
  | 0, ns, v => v = ns.length
  | 1, ns, v => v = ns.sum
  | 2, ns, v => v ∈ ns ∧ ∀ a ∈ ns, v ≤ a
  | 3, ns, v => v ∈ ns ∧ ∀ a ∈ ns, a ≤ v
  | 4, ns, v => ns.getLast? = some v
  | _, ns, v => v = Dn ns
theorem Amt.uniq : ∀ {i : Nat} {ns : List Int} {v u : Int}, Amt i ns v → Amt i ns u → v = u
  | 0, _, _, _, a, b => a.trans b.symm
  | 1, _, _, _, a, b => a.trans b.symm
  | 2, _, _, _, a, b => Int.le_antisymm (a.2 _ b.1) (b.2 _ a.1)
  | 3, _, _, _, a, b => Int.le_antisymm (b.2 _ a.1) (a.2 _ b.1)
  | 4, _, _, _, a, b => Option.some.inj (a.symm.trans b)
  | _ + 5, _, _, _, a, b => a.trans b.symm
theorem at_last {ns : List Int} (h : ns ≠ []) : ∃ v, atI (ns.map V.int) (-1) = some (.int v) ∧ ns.getLast? = some v := by
  rcases List.eq_nil_or_concat ns with z | ⟨l, x, z⟩
  · exact absurd z h
  · rw [List.concat_eq_append] at z
    subst z
    refine ⟨x, ?_, List.getLast?_concat⟩
    rw [List.map_append]
    exact atI_last _ _
def toV : Option Int → V
  | none => .non
  | some i => .int i
def PartI (H : Hp) (i : Nat) (A : List Int) (pv : V) : Prop := (A = [] ∧ pv = .non) ∨ (A ≠ [] ∧ ((i < 5 ∧ ∃ v, pv = .int v ∧ Amt i A v) ∨ (5 ≤ i ∧ ∃ (t : Addr) (ks : List Int), pv = .ref t ∧ H t = some (.tup (ks.map V.int)) ∧ ks.Perm (A.foldl addK []) ∧ ks.Pairwise (· ≤ ·))))
theorem PartI.mono {H H' : Hp} {i : Nat} {A : List Int} {pv : V} (h : PartI H i A pv) (s : Same H H') : PartI H' i A pv := by
  rcases h with h | ⟨h0, h | ⟨h5, t, ks, e, ht, pm⟩⟩
  · exact .inl h
  · exact .inr ⟨h0, .inl h⟩
  · exact .inr ⟨h0, .inr ⟨h5, t, ks, e, s _ _ ht, pm⟩⟩
def weighB : Nat → List Int → Int → Bool
  | 0, _, _ => true
  | 1, A, x => A.isEmpty || x != 0
  | 2, A, x => A.all fun a => decide (x < a)
  | 3, A, x => A.all fun a => decide (a < x)
  | 4, _, _ => true
  | _, A, x => !A.contains x
def spKnown : Sp := fun vs H Q _ => ∃ (l : Addr) (os : List (Option Int)), vs = [.ref l] ∧ H l = some (.lst (os.map toV)) ∧ os.length ≤ 900 ∧ ∀ (q : Addr) (H' : Hp), H q = none → H' q = some (.lst ((os.filterMap id).map V.int)) → Same H H' → Q (.ref q) H'
def spUnlike : Sp := fun vs H Q _ => ∃ (pv : V) (pre : List Int) (l : Addr) (os : List (Option Int)), vs = [pv, .ref l] ∧ ((pv = .non ∧ pre = []) ∨ ∃ t, pv = .ref t ∧ H t = some (.tup (pre.map V.int))) ∧ H l = some (.lst (os.map toV)) ∧ os.length ≤ 400 ∧ pre.length ≤ 400 ∧ Dn (pre ++ os.filterMap id) ≤ 4000 ∧
  ∀ (q : Addr) (ks : List Int) (H' : Hp), H' q = some (.lst (ks.map V.int)) → ks.Perm ((pre ++ os.filterMap id).foldl addK []) → ks.Pairwise (· ≤ ·) → Same H H' → Q (.ref q) H'
def AmtO (i : Nat) (A : List Int) (os : List (Option Int)) (v : Int) : Prop := if i = 0 then v = ((A.length + os.length : Nat) : Int) else Amt i (A ++ os.filterMap id) v
def spWord (i : Nat) : Sp := fun vs H Q _ => ∃ a : Addr, vs = [.ref a] ∧ Q (.str (wordAt i)) H
def spWeighs (i : Nat) : Sp := fun vs H Q _ => ∃ (a : Addr) (pv : V) (A : List Int) (x : Int), vs = [.ref a, pv, .int x] ∧ PartI H i A pv ∧ Q (.bl (weighB i A x)) H
def spShown (i : Nat) : Sp := fun vs H Q _ => ∃ (a : Addr) (pv : V) (A : List Int) (l : Addr) (os : List (Option Int)), vs = [.ref a, pv, .ref l] ∧ PartI H i A pv ∧ H l = some (.lst (os.map toV)) ∧ (i = 1 ∨ i = 4 → ∃ ns : List Int, os = ns.map some) ∧ A.length ≤ 400 ∧ os.length ≤ 400 ∧ (i = 0 ∨ A ++ os.filterMap id ≠ []) ∧ Dn (A ++ os.filterMap id) ≤ 4000 ∧ ∀ (v : Int) (H' : Hp), AmtO i A os v → Same H H' → Q (.int v) H'
section
variable {P : Program} {w : World} {K : PySem.W.Frag} {mg : Str → Option Value} {base : Heap} {C : Addr} {f : Addr} {fd : FuncData}
theorem opt_at {os : List (Option Int)} {i : Nat} {x : V} (h : (os.map toV)[i]? = some x) : ∃ o, x = toV o ∧ os[i]? = some o := by
  rw [List.getElem?_map] at h
  cases e : os[i]? with
  | none => rw [e] at h; cases h
  | some o => rw [e] at h; exact ⟨o, (Option.some.inj h).symm, rfl⟩
theorem ok_known (L : Lk K mg "known" s_known ["things"] f fd) (T : Txt mg) : Callee P w K mg base "known" ["things"] 1 spKnown := by
  refine L.callee (L.F.ok sc_known (fun vs H Q E h => ?_) (fun cdv A outer s H vs Q E hr h => ?_))
  · obtain ⟨l, ns, rfl, _⟩ := h
    rfl
  · obtain ⟨l, os, rfl, hl, hn, k⟩ := h
    have hqq : QB ((cxOf CX0 P w K mg base ["things"] "known" (defScope s_known) f cdv A outer s H E).nox) (defBody s_known) _ := (qb_one (qs_ret (qe_comp ["thing"] [] [] ["things"] (defScope s_known).names rfl (qi_list (qv 0)) (fun _ _ _ _ _ => (qg_name (i := 0) (show (["thing"] : List Str).Nodup by decide +kernel) rfl (Or.inl rfl))) (fun _ _ _ _ _ => (qts_one (qt_cmpR op_notN (qv 0) qe_non (nomark _)))) (fun _ _ _ _ _ => (qv 0)))))
    (with_reducible refine ⟨_, hqq.p, ?_⟩)
    refine ⟨_, rfl, l, rfl, ⟨_, SqL.of hl⟩, fun D hD => ?_⟩
    refine comp_list (K := K) (a := l) (xs := os.map toV) (fun i ys H' => ys = ((os.take i).filterMap id).map V.int ∧ Same H H') ⟨rfl, Same.new _ hD⟩ (fun i ys H' _ ⟨_, s'⟩ => SqL.of (s' _ _ hl))
      (fun ys H' ⟨e1, s'⟩ hD' => ?_) (fun i x ys H' hx ⟨e1, s'⟩ hD' => ?_)
    · rw [List.length_map, List.take_length] at e1
      subst e1
      exact k D H' hD hD' s'
    · obtain ⟨o, rfl, hv⟩ := opt_at hx
      subst e1
      have hi : i < os.length := (List.getElem?_eq_some_iff.mp hv).1
      have tk : os.take (i + 1) = os.take i ++ [o] := by rw [List.take_add_one, hv]; rfl
      refine ⟨rfl, _, rfl, rfl, _, rfl, ?_⟩
      cases o with
      | none =>
        show (if (!decide (V.non = V.non)) = true then _ else _)
        rw [decide_eq_true rfl]
        refine iteF ⟨hD', nx (by rw [List.length_map]; exact hi) ⟨?_, s'⟩⟩
        rw [tk, List.filterMap_append]
        simp
      | some v =>
        show (if (!decide (V.int v = V.non)) = true then _ else _)
        rw [if_pos (by simp)]
        refine ⟨_, rfl, hD', ?_, nx (by rw [List.length_map]; exact hi) ⟨?_, ?_⟩⟩
        · rw [List.length_map]
          have h1 : ((os.take i).filterMap id).length ≤ (os.take i).length := List.length_filterMap_le _ _
          rw [List.length_take] at h1
          exact Nat.lt_of_le_of_lt (Nat.le_trans h1 (Nat.min_le_left _ _)) (Nat.lt_of_lt_of_le hi (Nat.le_trans hn (by decide)))
        · rw [tk, List.filterMap_append, List.map_append]
          rfl
        · intro b o e
          rw [upd_ne (fun z => by rw [z, hD] at e; cases e)]
          exact s' b o e
theorem some_map (ns : List Int) : ns.map V.int = (ns.map some).map toV ∧ (ns.map some).filterMap id = ns := by
  refine ⟨by rw [List.map_map]; rfl, ?_⟩
  rw [List.filterMap_map]
  exact List.filterMap_some
theorem ok_unlike (L : Lk K mg "unlike_values" s_unlike_values ["part", "values"] f fd) (T : Txt mg) (C_known : Callee P w K mg base "known" ["things"] 1 spKnown) : Callee P w K mg base "unlike_values" ["part", "values"] 2 spUnlike := by
  refine L.callee (L.F.ok sc_unlike_values (fun vs H Q E h => ?_) (fun cdv A outer s H vs Q E hr h => ?_))
  · obtain ⟨pv, pre, l, os, rfl, _⟩ := h
    rfl
  · obtain ⟨pv, pre, l, os, rfl, hp, hl, hn, hpr, hd, k⟩ := h
    have hnn : (os.filterMap id).length ≤ 400 := Nat.le_trans (List.length_filterMap_le _ _) hn
    have hqq : QB ((cxOf CX0 P w K mg base ["part", "values"] "unlike_values" (defScope s_unlike_values) f cdv A outer s H E).nox) (defBody s_unlike_values) _ := (qb_one (qs_ret (qe_callB (call_sortedB rfl) (by rfl) T.sorted boot_sorted (qa_cn (qe_callTy (call_setL rfl) (by rfl) T.set boot_set (qa_cn (qe_op op_cat (qe_callTy call_list_of (by rfl) T.list boot_list (qa_cn (qe_orG (qv 0) (qe_one (qe_tup qa_nil))) qa_nil)) (qe_callee C_known (hr.mono (by first | decide | omega)) (by rfl) (qa_cn (qv 1) qa_nil))) qa_nil)) qa_nil))))
    (with_reducible refine ⟨_, hqq.p, ?_⟩)
    rcases hp with ⟨rfl, rfl⟩ | ⟨t, rfl, ht⟩
    · refine ⟨_, rfl, false, rfl, Nat.zero_le _, fun t ht => ⟨t, [], rfl, .inr (SqT.of upd_same), fun e he => ?_⟩⟩
      have s1 : Same H (upd (upd H t (.tup [])) e (.lst [])) := (Same.new _ ht).trans (Same.new _ he)
      refine ⟨_, rfl, l, os, rfl, s1 _ _ hl, by omega, fun q H2 nq hq s2 => ?_⟩
      refine ⟨e, q, _, _, rfl, rfl, s2 _ _ upd_same, hq, ?_, fun u hu => ⟨u, [] ++ os.filterMap id, rfl, SqL.of ?_, ?_, fun a ha => ⟨a, _, rfl, upd_same, hd, fun r ks hr pm so => ?_⟩⟩⟩
      · simp only [List.length_map]; exact Nat.le_trans (Nat.add_le_add hpr hnn) (by decide)
      · rw [upd_same, List.map_append]; rfl
      · have : scanBound = 4096 := rfl
        rw [List.length_append]
        omega
      · exact k r ks _ upd_same pm so (((s1.trans s2).trans (Same.new _ hu)).trans ((Same.new _ ha).trans (Same.new _ hr)))
    · by_cases pe : pre = []
      · subst pe
        refine ⟨_, rfl, false, .inr (.inl ⟨_, SqT.of ht, rfl⟩), Nat.zero_le _, fun t2 ht2 => ⟨t2, [], rfl, .inr (SqT.of upd_same), fun e he => ?_⟩⟩
        have s1 : Same H (upd (upd H t2 (.tup [])) e (.lst [])) := (Same.new _ ht2).trans (Same.new _ he)
        refine ⟨_, rfl, l, os, rfl, s1 _ _ hl, by omega, fun q H2 nq hq s2 => ?_⟩
        refine ⟨e, q, _, _, rfl, rfl, s2 _ _ upd_same, hq, ?_, fun u hu => ⟨u, [] ++ os.filterMap id, rfl, SqL.of ?_, ?_, fun a ha => ⟨a, _, rfl, upd_same, hd, fun r ks hr pm so => ?_⟩⟩⟩
        · simp only [List.length_map]; exact Nat.le_trans (Nat.add_le_add hpr hnn) (by decide)
        · rw [upd_same, List.map_append]; rfl
        · have : scanBound = 4096 := rfl
          rw [List.length_append]
          omega
        · exact k r ks _ upd_same pm so (((s1.trans s2).trans (Same.new _ hu)).trans ((Same.new _ ha).trans (Same.new _ hr)))
      · have ne : (!(pre.map V.int).isEmpty) = true := by
          cases pre with
          | nil => exact absurd rfl pe
          | cons a b => rfl
        refine ⟨_, rfl, true, .inr (.inl ⟨_, SqT.of ht, ne.symm⟩), iteT ⟨t, _, rfl, .inr (SqT.of ht), fun e he => ?_⟩⟩
        have s1 : Same H (upd H e (.lst (pre.map V.int))) := Same.new _ he
        refine ⟨_, rfl, l, os, rfl, s1 _ _ hl, by omega, fun q H2 nq hq s2 => ?_⟩
        refine ⟨e, q, _, _, rfl, rfl, s2 _ _ upd_same, hq, ?_, fun u hu => ⟨u, pre ++ os.filterMap id, rfl, SqL.of ?_, ?_, fun a ha => ⟨a, _, rfl, upd_same, hd, fun r ks hr pm so => ?_⟩⟩⟩
        · simp only [List.length_map]; exact Nat.le_trans (Nat.add_le_add hpr hnn) (by decide)
        · rw [upd_same, List.map_append]
        · have : scanBound = 4096 := rfl
          rw [List.length_append]
          omega
        · exact k r ks _ upd_same pm so (((s1.trans s2).trans (Same.new _ hu)).trans ((Same.new _ ha).trans (Same.new _ hr)))
end
end K25
end
section
set_option Elab.async false
set_option linter.all false
set_option maxRecDepth 100000
set_option maxHeartbeats 4000000
namespace K25
open PySem L2 PyProof.Rows
theorem inV_ints (x : Int) (ks : List Int) : inV (.int x) (ks.map V.int) = ks.contains x := by
  unfold inV
  rw [List.any_map]
  induction ks with
  | nil => rfl
  | cons a b ih =>
    rw [List.any_cons, List.contains_cons, ih]
    show (a == x || _) = (x == a || _)
    rw [Bool.beq_comm]
theorem perm_has {A ks : List Int} (pm : ks.Perm (A.foldl addK [])) (x : Int) : ks.contains x = A.contains x := by
  have : x ∈ ks ↔ x ∈ A := by rw [pm.mem_iff, fold_mem]; simp
  rw [Bool.eq_iff_iff, List.contains_iff_mem, List.contains_iff_mem]
  exact this
theorem all_lt {A : List Int} {v x : Int} (h : Amt 2 A v) : (A.all fun a => decide (x < a)) = decide (x < v) := by
  rw [Bool.eq_iff_iff, List.all_eq_true, decide_eq_true_eq]
  refine ⟨fun z => of_decide_eq_true (z v h.1), fun z a m => decide_eq_true ?_⟩
  have := h.2 a m
  omega
theorem all_gt {A : List Int} {v x : Int} (h : Amt 3 A v) : (A.all fun a => decide (a < x)) = decide (v < x) := by
  rw [Bool.eq_iff_iff, List.all_eq_true, decide_eq_true_eq]
  refine ⟨fun z => of_decide_eq_true (z v h.1), fun z a m => decide_eq_true ?_⟩
  have := h.2 a m
  omega
theorem isE {A : List Int} (h : A ≠ []) : A.isEmpty = false := by cases A with | nil => exact absurd rfl h | cons _ _ => rfl
theorem PartI.num {H : Hp} {i : Nat} {A : List Int} {pv : V} (h : PartI H i A pv) (hi : i < 5) : (A = [] ∧ pv = .non) ∨ (A ≠ [] ∧ ∃ v, pv = .int v ∧ Amt i A v) := by
  rcases h with h | ⟨h0, ⟨_, h⟩ | ⟨h5, _⟩⟩
  · exact .inl h
  · exact .inr ⟨h0, h⟩
  · omega
theorem PartI.tup {H : Hp} {A : List Int} {pv : V} (h : PartI H 5 A pv) : (A = [] ∧ pv = .non) ∨ (A ≠ [] ∧ ∃ (t : Addr) (ks : List Int), pv = .ref t ∧ H t = some (.tup (ks.map V.int)) ∧ ks.Perm (A.foldl addK []) ∧ ks.Pairwise (· ≤ ·)) := by
  rcases h with h | ⟨h0, ⟨h5, _⟩ | ⟨_, h⟩⟩
  · exact .inl h
  · omega
  · exact .inr ⟨h0, h⟩
section
variable {P : Program} {w : World} {K : PySem.W.Frag} {mg : Str → Option Value} {base : Heap} {C : Addr} {f : Addr} {fd : FuncData}
theorem ok_w0 (L : MLk K C "word" "Count.word" s_Count_word ["self"] f fd) : MCallee P w K mg base C "word" ["self"] 1 (spWord 0) := by
  refine L.callee (L.F.ok sc_Count_word (fun vs H Q E h => ?_) (fun cdv A outer s H vs Q E hr h => ?_))
  · obtain ⟨l, rfl, _⟩ := h
    rfl
  · obtain ⟨l, rfl, k⟩ := h
    have hqq : QB ((cxOf CX0 P w K mg base ["self"] "Count.word" (defScope s_Count_word) f cdv A outer s H E).nox) (defBody s_Count_word) _ := (qb_one (qs_ret qe_str))
    (with_reducible refine ⟨_, hqq.p, ?_⟩)
    exact k
theorem ok_w1 (L : MLk K C "word" "Total.word" s_Total_word ["self"] f fd) : MCallee P w K mg base C "word" ["self"] 1 (spWord 1) := by
  refine L.callee (L.F.ok sc_Total_word (fun vs H Q E h => ?_) (fun cdv A outer s H vs Q E hr h => ?_))
  · obtain ⟨l, rfl, _⟩ := h
    rfl
  · obtain ⟨l, rfl, k⟩ := h
    have hqq : QB ((cxOf CX0 P w K mg base ["self"] "Total.word" (defScope s_Total_word) f cdv A outer s H E).nox) (defBody s_Total_word) _ := (qb_one (qs_ret qe_str))
    (with_reducible refine ⟨_, hqq.p, ?_⟩)
    exact k
theorem ok_w2 (L : MLk K C "word" "Least.word" s_Least_word ["self"] f fd) : MCallee P w K mg base C "word" ["self"] 1 (spWord 2) := by
  refine L.callee (L.F.ok sc_Least_word (fun vs H Q E h => ?_) (fun cdv A outer s H vs Q E hr h => ?_))
  · obtain ⟨l, rfl, _⟩ := h
    rfl
  · obtain ⟨l, rfl, k⟩ := h
    have hqq : QB ((cxOf CX0 P w K mg base ["self"] "Least.word" (defScope s_Least_word) f cdv A outer s H E).nox) (defBody s_Least_word) _ := (qb_one (qs_ret qe_str))
    (with_reducible refine ⟨_, hqq.p, ?_⟩)
    exact k
theorem ok_w3 (L : MLk K C "word" "Greatest.word" s_Greatest_word ["self"] f fd) : MCallee P w K mg base C "word" ["self"] 1 (spWord 3) := by
  refine L.callee (L.F.ok sc_Greatest_word (fun vs H Q E h => ?_) (fun cdv A outer s H vs Q E hr h => ?_))
  · obtain ⟨l, rfl, _⟩ := h
    rfl
  · obtain ⟨l, rfl, k⟩ := h
    have hqq : QB ((cxOf CX0 P w K mg base ["self"] "Greatest.word" (defScope s_Greatest_word) f cdv A outer s H E).nox) (defBody s_Greatest_word) _ := (qb_one (qs_ret qe_str))
    (with_reducible refine ⟨_, hqq.p, ?_⟩)
    exact k
theorem ok_w4 (L : MLk K C "word" "Last.word" s_Last_word ["self"] f fd) : MCallee P w K mg base C "word" ["self"] 1 (spWord 4) := by
  refine L.callee (L.F.ok sc_Last_word (fun vs H Q E h => ?_) (fun cdv A outer s H vs Q E hr h => ?_))
  · obtain ⟨l, rfl, _⟩ := h
    rfl
  · obtain ⟨l, rfl, k⟩ := h
    have hqq : QB ((cxOf CX0 P w K mg base ["self"] "Last.word" (defScope s_Last_word) f cdv A outer s H E).nox) (defBody s_Last_word) _ := (qb_one (qs_ret qe_str))
    (with_reducible refine ⟨_, hqq.p, ?_⟩)
    exact k
theorem ok_w5 (L : MLk K C "word" "Unlike.word" s_Unlike_word ["self"] f fd) : MCallee P w K mg base C "word" ["self"] 1 (spWord 5) := by
  refine L.callee (L.F.ok sc_Unlike_word (fun vs H Q E h => ?_) (fun cdv A outer s H vs Q E hr h => ?_))
  · obtain ⟨l, rfl, _⟩ := h
    rfl
  · obtain ⟨l, rfl, k⟩ := h
    have hqq : QB ((cxOf CX0 P w K mg base ["self"] "Unlike.word" (defScope s_Unlike_word) f cdv A outer s H E).nox) (defBody s_Unlike_word) _ := (qb_one (qs_ret qe_str))
    (with_reducible refine ⟨_, hqq.p, ?_⟩)
    exact k
theorem ok_g0 (T : Txt mg) (L : MLk K C "weighs" "Count.weighs" s_Count_weighs ["self", "part", "value"] f fd) : MCallee P w K mg base C "weighs" ["self", "part", "value"] 3 (spWeighs 0) := by
  refine L.callee (L.F.ok sc_Count_weighs (fun vs H Q E h => ?_) (fun cdv A outer s H vs Q E hr h => ?_))
  · obtain ⟨a, pv, B, x, rfl, _⟩ := h
    rfl
  · obtain ⟨a, pv, B, x, rfl, hp, k⟩ := h
    have hqq : QB ((cxOf CX0 P w K mg base ["self", "part", "value"] "Count.weighs" (defScope s_Count_weighs) f cdv A outer s H E).nox) (defBody s_Count_weighs) _ := (qb_one (qs_ret qe_bl))
    (with_reducible refine ⟨_, hqq.p, ?_⟩)
    exact k
theorem ok_g1 (T : Txt mg) (L : MLk K C "weighs" "Total.weighs" s_Total_weighs ["self", "part", "value"] f fd) : MCallee P w K mg base C "weighs" ["self", "part", "value"] 3 (spWeighs 1) := by
  refine L.callee (L.F.ok sc_Total_weighs (fun vs H Q E h => ?_) (fun cdv A outer s H vs Q E hr h => ?_))
  · obtain ⟨a, pv, B, x, rfl, _⟩ := h
    rfl
  · obtain ⟨a, pv, B, x, rfl, hp, k⟩ := h
    have hqq : QB ((cxOf CX0 P w K mg base ["self", "part", "value"] "Total.weighs" (defScope s_Total_weighs) f cdv A outer s H E).nox) (defBody s_Total_weighs) _ := (qb_one (qs_ret (qe_or (qe_cmpR op_isN (qv 1) qe_non (nomark _)) (qe_one (qe_cmpR op_ne (qv 2) qe_int (nomark _))))))
    (with_reducible refine ⟨_, hqq.p, ?_⟩)
    rcases hp.num (by decide) with ⟨rfl, rfl⟩ | ⟨h0, v, rfl, am⟩
    · exact ⟨_, rfl, rfl, true, rfl, k⟩
    · refine ⟨_, rfl, rfl, false, rfl, iteF ⟨_, rfl, rfl, ?_⟩⟩
      rw [dec_int]
      have e : weighB 1 B x = !(x == 0) := by show (B.isEmpty || x != 0) = _; rw [isE h0]; rfl
      rw [e] at k
      exact k
theorem ok_g2 (T : Txt mg) (L : MLk K C "weighs" "Least.weighs" s_Least_weighs ["self", "part", "value"] f fd) : MCallee P w K mg base C "weighs" ["self", "part", "value"] 3 (spWeighs 2) := by
  refine L.callee (L.F.ok sc_Least_weighs (fun vs H Q E h => ?_) (fun cdv A outer s H vs Q E hr h => ?_))
  · obtain ⟨a, pv, B, x, rfl, _⟩ := h
    rfl
  · obtain ⟨a, pv, B, x, rfl, hp, k⟩ := h
    have hqq : QB ((cxOf CX0 P w K mg base ["self", "part", "value"] "Least.weighs" (defScope s_Least_weighs) f cdv A outer s H E).nox) (defBody s_Least_weighs) _ := (qb_one (qs_ret (qe_or (qe_cmpR op_isN (qv 1) qe_non (nomark _)) (qe_one (qe_cmpR op_lt (qv 2) (qv 1) (nomark _))))))
    (with_reducible refine ⟨_, hqq.p, ?_⟩)
    rcases hp.num (by decide) with ⟨rfl, rfl⟩ | ⟨h0, v, rfl, am⟩
    · exact ⟨_, rfl, rfl, true, rfl, k⟩
    · refine ⟨_, rfl, rfl, false, rfl, iteF ⟨_, rfl, _, rfl, _, _, rfl, rfl, ?_⟩⟩
      rw [show weighB 2 B x = decide (x < v) from all_lt am] at k
      exact k
theorem ok_g3 (T : Txt mg) (L : MLk K C "weighs" "Greatest.weighs" s_Greatest_weighs ["self", "part", "value"] f fd) : MCallee P w K mg base C "weighs" ["self", "part", "value"] 3 (spWeighs 3) := by
  refine L.callee (L.F.ok sc_Greatest_weighs (fun vs H Q E h => ?_) (fun cdv A outer s H vs Q E hr h => ?_))
  · obtain ⟨a, pv, B, x, rfl, _⟩ := h
    rfl
  · obtain ⟨a, pv, B, x, rfl, hp, k⟩ := h
    have hqq : QB ((cxOf CX0 P w K mg base ["self", "part", "value"] "Greatest.weighs" (defScope s_Greatest_weighs) f cdv A outer s H E).nox) (defBody s_Greatest_weighs) _ := (qb_one (qs_ret (qe_or (qe_cmpR op_isN (qv 1) qe_non (nomark _)) (qe_one (qe_cmpR op_gt (qv 2) (qv 1) (nomark _))))))
    (with_reducible refine ⟨_, hqq.p, ?_⟩)
    rcases hp.num (by decide) with ⟨rfl, rfl⟩ | ⟨h0, v, rfl, am⟩
    · exact ⟨_, rfl, rfl, true, rfl, k⟩
    · refine ⟨_, rfl, rfl, false, rfl, iteF ⟨_, rfl, _, rfl, _, _, rfl, rfl, ?_⟩⟩
      rw [show weighB 3 B x = decide (v < x) from all_gt am] at k
      exact k
theorem ok_g4 (T : Txt mg) (L : MLk K C "weighs" "Last.weighs" s_Last_weighs ["self", "part", "value"] f fd) : MCallee P w K mg base C "weighs" ["self", "part", "value"] 3 (spWeighs 4) := by
  refine L.callee (L.F.ok sc_Last_weighs (fun vs H Q E h => ?_) (fun cdv A outer s H vs Q E hr h => ?_))
  · obtain ⟨a, pv, B, x, rfl, _⟩ := h
    rfl
  · obtain ⟨a, pv, B, x, rfl, hp, k⟩ := h
    have hqq : QB ((cxOf CX0 P w K mg base ["self", "part", "value"] "Last.weighs" (defScope s_Last_weighs) f cdv A outer s H E).nox) (defBody s_Last_weighs) _ := (qb_one (qs_ret qe_bl))
    (with_reducible refine ⟨_, hqq.p, ?_⟩)
    exact k
theorem ok_g5 (T : Txt mg) (L : MLk K C "weighs" "Unlike.weighs" s_Unlike_weighs ["self", "part", "value"] f fd) : MCallee P w K mg base C "weighs" ["self", "part", "value"] 3 (spWeighs 5) := by
  refine L.callee (L.F.ok sc_Unlike_weighs (fun vs H Q E h => ?_) (fun cdv A outer s H vs Q E hr h => ?_))
  · obtain ⟨a, pv, B, x, rfl, _⟩ := h
    rfl
  · obtain ⟨a, pv, B, x, rfl, hp, k⟩ := h
    have hqq : QB ((cxOf CX0 P w K mg base ["self", "part", "value"] "Unlike.weighs" (defScope s_Unlike_weighs) f cdv A outer s H E).nox) (defBody s_Unlike_weighs) _ := (qb_one (qs_ret (qe_or (qe_cmpR op_isN (qv 1) qe_non (nomark _)) (qe_one (qe_cmpR op_notIn_seq (qv 2) (qv 1) rfl)))))
    (with_reducible refine ⟨_, hqq.p, ?_⟩)
    rcases hp.tup with ⟨rfl, rfl⟩ | ⟨h0, t, ks, rfl, ht, pm, _⟩
    · exact ⟨_, rfl, rfl, true, rfl, k⟩
    · refine ⟨_, rfl, rfl, false, rfl, iteF ⟨_, rfl, _, rfl, t, _, rfl, .inr (SqT.of ht), rfl, flat_ints ks, ?_⟩⟩
      rw [show weighB 5 B x = !B.contains x from rfl, ← perm_has pm x, ← inV_ints] at k
      exact k
end
end K25
end
section
set_option Elab.async false
set_option linter.all false
set_option maxRecDepth 100000
set_option maxHeartbeats 4000000
namespace K25
open PySem L2 PyProof.Rows
theorem Same.refl' (H : Hp) : Same H H := fun _ _ e => e
theorem amt_min {A ns : List Int} {m M : Int} (am : A ≠ [] → Amt 2 A m) (m1 : M ∈ (if A = [] then ns else m :: ns)) (m2 : ∀ a ∈ (if A = [] then ns else m :: ns), M ≤ a) : Amt 2 (A ++ ns) M := by
  by_cases h : A = []
  · subst h
    simp only [if_true] at m1 m2
    exact ⟨m1, m2⟩
  · rw [if_neg h] at m1 m2
    have a := am h
    refine ⟨?_, fun x hx => ?_⟩
    · rcases List.mem_cons.mp m1 with rfl | z
      · exact List.mem_append_left _ a.1
      · exact List.mem_append_right _ z
    · rcases List.mem_append.mp hx with z | z
      · exact Int.le_trans (m2 m List.mem_cons_self) (a.2 x z)
      · exact m2 x (List.mem_cons_of_mem _ z)
theorem amt_max {A ns : List Int} {m M : Int} (am : A ≠ [] → Amt 3 A m) (m1 : M ∈ (if A = [] then ns else m :: ns)) (m2 : ∀ a ∈ (if A = [] then ns else m :: ns), a ≤ M) : Amt 3 (A ++ ns) M := by
  by_cases h : A = []
  · subst h
    simp only [if_true] at m1 m2
    exact ⟨m1, m2⟩
  · rw [if_neg h] at m1 m2
    have a := am h
    refine ⟨?_, fun x hx => ?_⟩
    · rcases List.mem_cons.mp m1 with rfl | z
      · exact List.mem_append_left _ a.1
      · exact List.mem_append_right _ z
    · rcases List.mem_append.mp hx with z | z
      · exact Int.le_trans (a.2 x z) (m2 m List.mem_cons_self)
      · exact m2 x (List.mem_cons_of_mem _ z)
theorem last_app {A ns : List Int} (h : ns ≠ []) : (A ++ ns).getLast? = ns.getLast? := by
  rw [List.getLast?_append]
  cases e : ns.getLast? with
  | none => exact absurd (List.getLast?_eq_none_iff.mp e) h
  | some v => rfl
theorem Dn_perm {A ns ks : List Int} (pm : ks.Perm (A.foldl addK [])) : Dn (ks ++ ns) = Dn (A ++ ns) := by
  have m : ∀ x, x ∈ (ks ++ ns).foldl addK [] ↔ x ∈ (A ++ ns).foldl addK [] := fun x => by
    rw [fold_mem, fold_mem, List.mem_append, List.mem_append, pm.mem_iff, fold_mem]
    simp
  refine Nat.le_antisymm (len_of_sub (fold_nodup _ List.nodup_nil) fun x h => (m x).mp h) (len_of_sub (fold_nodup _ List.nodup_nil) fun x h => (m x).mpr h)
theorem os_of (A : List Int) (m : Int) (os : List (Option Int)) : ((if A = [] then none else some m) :: os).filterMap id = if A = [] then os.filterMap id else m :: os.filterMap id := by
  by_cases h : A = []
  · rw [if_pos h, if_pos h, List.filterMap_cons_none rfl]
  · rw [if_neg h, if_neg h, List.filterMap_cons_some (f := id) (a := some m) (b := m) rfl]
theorem ints_of {H : Hp} {l : Addr} {os : List (Option Int)} {n : Nat} (hl : H l = some (.lst (os.map toV))) (h2 : os.length ≤ n) (h : ∃ ns : List Int, os = ns.map some) : ∃ ns : List Int, os = ns.map some ∧ os.filterMap id = ns ∧ H l = some (.lst (ns.map V.int)) ∧ ns.length ≤ n := by
  obtain ⟨ns, rfl⟩ := h
  rw [List.length_map] at h2
  rw [← (some_map ns).1] at hl
  exact ⟨ns, rfl, (some_map ns).2, hl, h2⟩
theorem AmtO.of {i : Nat} {A : List Int} {os : List (Option Int)} {v : Int} (hi : i ≠ 0) (h : Amt i (A ++ os.filterMap id) v) : AmtO i A os v := by
  unfold AmtO
  rw [if_neg hi]
  exact h
theorem AmtO.plain {i : Nat} {A ns : List Int} {v : Int} (h : AmtO i A (ns.map some) v) : Amt i (A ++ ns) v := by
  unfold AmtO at h
  by_cases e : i = 0
  · subst e
    rw [if_pos rfl, List.length_map] at h
    show v = ((A ++ ns).length : Nat)
    rw [List.length_append]
    exact h
  · rw [if_neg e, (some_map ns).2] at h
    exact h
section
variable {P : Program} {w : World} {K : PySem.W.Frag} {mg : Str → Option Value} {base : Heap} {C : Addr} {f : Addr} {fd : FuncData}
theorem ok_s0 (T : Txt mg) (L : MLk K C "shown" "Count.shown" s_Count_shown ["self", "part", "values"] f fd) : MCallee P w K mg base C "shown" ["self", "part", "values"] 3 (spShown 0) := by
  refine L.callee (L.F.ok sc_Count_shown (fun vs H Q E h => ?_) (fun cdv A outer s H vs Q E hr h => ?_))
  · obtain ⟨a, pv, B, l, os, rfl, _⟩ := h
    rfl
  · obtain ⟨a, pv, B, l, os, rfl, hp, hl, hor, h1, h2, hne, hd, k⟩ := h
    have hqq : QB ((cxOf CX0 P w K mg base ["self", "part", "values"] "Count.shown" (defScope s_Count_shown) f cdv A outer s H E).nox) (defBody s_Count_shown) _ := (qb_one (qs_ret (qe_op op_add (qe_orG (qv 1) (qe_one qe_int)) (qe_callB call_len_seq (by rfl) T.len PySem.boot_len (qa_cn (qv 2) qa_nil)))))
    (with_reducible refine ⟨_, hqq.p, ?_⟩)
    rcases hp.num (by decide) with ⟨rfl, rfl⟩ | ⟨b0, v, rfl, am⟩
    · refine ⟨_, rfl, false, rfl, iteF ⟨_, rfl, l, _, rfl, .inl (SqL.of hl), _, _, rfl, rfl, k _ _ ?_ (Same.refl' H)⟩⟩
      show (0 : Int) + (((os.map toV).length : Nat) : Int) = ((0 + os.length : Nat) : Int)
      rw [List.length_map]
      omega
    · have e : v = B.length := am
      have hl0 := List.length_pos_iff.mpr b0
      have tv : (v != 0) = true := by rw [bne_iff_ne]; omega
      refine ⟨_, rfl, true, tv.symm, iteT ⟨_, rfl, l, _, rfl, .inl (SqL.of hl), _, _, rfl, rfl, k _ _ ?_ (Same.refl' H)⟩⟩
      show v + (((os.map toV).length : Nat) : Int) = ((B.length + os.length : Nat) : Int)
      rw [List.length_map, e]
      omega
theorem ok_s1 (T : Txt mg) (L : MLk K C "shown" "Total.shown" s_Total_shown ["self", "part", "values"] f fd) : MCallee P w K mg base C "shown" ["self", "part", "values"] 3 (spShown 1) := by
  refine L.callee (L.F.ok sc_Total_shown (fun vs H Q E h => ?_) (fun cdv A outer s H vs Q E hr h => ?_))
  · obtain ⟨a, pv, B, l, os, rfl, _⟩ := h
    rfl
  · obtain ⟨a, pv, B, l, os, rfl, hp, hl, hor, h1, h2, hne, hd, k⟩ := h
    have hqq : QB ((cxOf CX0 P w K mg base ["self", "part", "values"] "Total.shown" (defScope s_Total_shown) f cdv A outer s H E).nox) (defBody s_Total_shown) _ := (qb_one (qs_ret (qe_op op_add (qe_orG (qv 1) (qe_one qe_int)) (qe_callB (call_sum_list hr.hd) (by rfl) T.sum boot_sum (qa_cn (qv 2) qa_nil)))))
    (with_reducible refine ⟨_, hqq.p, ?_⟩)
    obtain ⟨ns, e0, eo, hl, h2⟩ := ints_of hl h2 (hor (.inl rfl))
    have fin0 : ∀ v, Amt 1 (B ++ ns) v → AmtO 1 B os v := fun v h => .of (by decide) (by rw [eo]; exact h)
    rcases hp.num (by decide) with ⟨rfl, rfl⟩ | ⟨b0, v, rfl, am⟩
    · refine ⟨_, rfl, false, rfl, iteF ⟨_, rfl, l, ns, rfl, SqL.of hl, _, _, rfl, rfl, k _ _ (fin0 _ ?_) (Same.refl' H)⟩⟩
      show (0 : Int) + ns.sum = ([] ++ ns : List Int).sum
      rw [List.nil_append]
      omega
    · have e : v = B.sum := am
      have fin : Amt 1 (B ++ ns) (v + ns.sum) := by show v + ns.sum = (B ++ ns).sum; rw [List.sum_append, e]
      refine ⟨_, rfl, (v != 0), rfl, ite2 (fun _ => ?_) (fun z => ?_)⟩
      · exact ⟨_, rfl, l, ns, rfl, SqL.of hl, _, _, rfl, rfl, k _ _ (fin0 _ fin) (Same.refl' H)⟩
      · have z : v = 0 := by simpa using z
        rw [z] at fin
        exact ⟨_, rfl, l, ns, rfl, SqL.of hl, _, _, rfl, rfl, k _ _ (fin0 _ fin) (Same.refl' H)⟩
theorem ok_s2 (T : Txt mg) (C_known : Callee P w K mg base "known" ["things"] 1 spKnown) (L : MLk K C "shown" "Least.shown" s_Least_shown ["self", "part", "values"] f fd) : MCallee P w K mg base C "shown" ["self", "part", "values"] 3 (spShown 2) := by
  refine L.callee (L.F.ok sc_Least_shown (fun vs H Q E h => ?_) (fun cdv A outer s H vs Q E hr h => ?_))
  · obtain ⟨a, pv, B, l, os, rfl, _⟩ := h
    rfl
  · obtain ⟨a, pv, B, l, os, rfl, hp, hl, hor, h1, h2, hne, hd, k⟩ := h
    have hne := hne.resolve_left (by decide)
    have hqq : QB ((cxOf CX0 P w K mg base ["self", "part", "values"] "Least.shown" (defScope s_Least_shown) f cdv A outer s H E).nox) (defBody s_Least_shown) _ := (qb_one (qs_ret (qe_callB (call_min_list hr.hd) (by rfl) T.min boot_min (qa_cn (qe_callee C_known (hr.mono (by first | decide | omega)) (by rfl) (qa_cn (qe_op op_cat (qe_lst (qa_cn (qv 1) qa_nil)) (qv 2)) qa_nil)) qa_nil))))
    (with_reducible refine ⟨_, hqq.p, ?_⟩)
    obtain ⟨m, am, ep⟩ : ∃ m : Int, (B ≠ [] → Amt 2 B m) ∧ pv = toV (if B = [] then none else some m) := by
      rcases hp.num (by decide) with ⟨rfl, rfl⟩ | ⟨b0, v, rfl, am⟩
      · exact ⟨0, fun z => absurd rfl z, rfl⟩
      · exact ⟨v, fun _ => am, by rw [if_neg b0]; rfl⟩
    subst ep
    refine ⟨_, rfl, by show 1 ≤ sizeLine; decide, fun e he => ⟨_, rfl, e, l, _, os.map toV, rfl, rfl, upd_same, ?_, ?_, fun u hu => ?_⟩⟩
    · rw [upd_ne (ne_of_none hl he)]; exact hl
    · rw [List.length_map]; exact Nat.le_trans (Nat.add_le_add_left h2 1) (by decide)
    have s1 : Same H (upd (upd H e (.lst [toV (if B = [] then none else some m)])) u (.lst ([toV (if B = [] then none else some m)] ++ os.map toV))) := (Same.new _ he).trans (Same.new _ hu)
    refine ⟨u, (if B = [] then none else some m) :: os, rfl, ?_, ?_, fun q H2 nq hq s2 => ?_⟩
    · rw [upd_same]; rfl
    · rw [List.length_cons]; omega
    rw [os_of] at hq
    refine ⟨q, _, rfl, SqL.of hq, ?_, fun M m1 m2 => k _ _ (.of (by decide) (amt_min am m1 m2)) (s1.trans s2)⟩
    by_cases b0 : B = []
    · rw [if_pos b0]
      intro z
      rw [b0, z] at hne
      exact hne rfl
    · rw [if_neg b0]
      exact List.cons_ne_nil _ _
theorem ok_s3 (T : Txt mg) (C_known : Callee P w K mg base "known" ["things"] 1 spKnown) (L : MLk K C "shown" "Greatest.shown" s_Greatest_shown ["self", "part", "values"] f fd) : MCallee P w K mg base C "shown" ["self", "part", "values"] 3 (spShown 3) := by
  refine L.callee (L.F.ok sc_Greatest_shown (fun vs H Q E h => ?_) (fun cdv A outer s H vs Q E hr h => ?_))
  · obtain ⟨a, pv, B, l, os, rfl, _⟩ := h
    rfl
  · obtain ⟨a, pv, B, l, os, rfl, hp, hl, hor, h1, h2, hne, hd, k⟩ := h
    have hne := hne.resolve_left (by decide)
    have hqq : QB ((cxOf CX0 P w K mg base ["self", "part", "values"] "Greatest.shown" (defScope s_Greatest_shown) f cdv A outer s H E).nox) (defBody s_Greatest_shown) _ := (qb_one (qs_ret (qe_callB (call_max_list hr.hd) (by rfl) T.max boot_max (qa_cn (qe_callee C_known (hr.mono (by first | decide | omega)) (by rfl) (qa_cn (qe_op op_cat (qe_lst (qa_cn (qv 1) qa_nil)) (qv 2)) qa_nil)) qa_nil))))
    (with_reducible refine ⟨_, hqq.p, ?_⟩)
    obtain ⟨m, am, ep⟩ : ∃ m : Int, (B ≠ [] → Amt 3 B m) ∧ pv = toV (if B = [] then none else some m) := by
      rcases hp.num (by decide) with ⟨rfl, rfl⟩ | ⟨b0, v, rfl, am⟩
      · exact ⟨0, fun z => absurd rfl z, rfl⟩
      · exact ⟨v, fun _ => am, by rw [if_neg b0]; rfl⟩
    subst ep
    refine ⟨_, rfl, by show 1 ≤ sizeLine; decide, fun e he => ⟨_, rfl, e, l, _, os.map toV, rfl, rfl, upd_same, ?_, ?_, fun u hu => ?_⟩⟩
    · rw [upd_ne (ne_of_none hl he)]; exact hl
    · rw [List.length_map]; exact Nat.le_trans (Nat.add_le_add_left h2 1) (by decide)
    have s1 : Same H (upd (upd H e (.lst [toV (if B = [] then none else some m)])) u (.lst ([toV (if B = [] then none else some m)] ++ os.map toV))) := (Same.new _ he).trans (Same.new _ hu)
    refine ⟨u, (if B = [] then none else some m) :: os, rfl, ?_, ?_, fun q H2 nq hq s2 => ?_⟩
    · rw [upd_same]; rfl
    · rw [List.length_cons]; omega
    rw [os_of] at hq
    refine ⟨q, _, rfl, SqL.of hq, ?_, fun M m1 m2 => k _ _ (.of (by decide) (amt_max am m1 m2)) (s1.trans s2)⟩
    by_cases b0 : B = []
    · rw [if_pos b0]
      intro z
      rw [b0, z] at hne
      exact hne rfl
    · rw [if_neg b0]
      exact List.cons_ne_nil _ _
theorem ok_s4 (T : Txt mg) (L : MLk K C "shown" "Last.shown" s_Last_shown ["self", "part", "values"] f fd) : MCallee P w K mg base C "shown" ["self", "part", "values"] 3 (spShown 4) := by
  refine L.callee (L.F.ok sc_Last_shown (fun vs H Q E h => ?_) (fun cdv A outer s H vs Q E hr h => ?_))
  · obtain ⟨a, pv, B, l, os, rfl, _⟩ := h
    rfl
  · obtain ⟨a, pv, B, l, os, rfl, hp, hl, hor, h1, h2, hne, hd, k⟩ := h
    have hqq : QB ((cxOf CX0 P w K mg base ["self", "part", "values"] "Last.shown" (defScope s_Last_shown) f cdv A outer s H E).nox) (defBody s_Last_shown) _ := (qb_one (qs_ret (qe_ifExp ⟨pt_truth (QE.p (qv 2)) (fun _ => rfl)⟩ (qe_ix ix_list (qv 2) (qe_un un_neg qe_int) (fun _ _ => rfl)) (qv 1))))
    (with_reducible refine ⟨_, hqq.p, ?_⟩)
    obtain ⟨ns, e0, eo, hl, h2⟩ := ints_of hl h2 (hor (.inr rfl))
    have hne := hne.resolve_left (by decide)
    rw [eo] at hne
    have fin0 : ∀ v, Amt 4 (B ++ ns) v → AmtO 4 B os v := fun v h => .of (by decide) (by rw [eo]; exact h)
    by_cases n0 : ns = []
    · subst n0
      rcases hp.num (by decide) with ⟨rfl, rfl⟩ | ⟨b0, v, rfl, am⟩
      · exact absurd rfl hne
      · refine ⟨_, rfl, false, .inl ⟨_, SqL.of hl, rfl⟩, iteF ⟨_, rfl, k _ _ (fin0 _ ?_) (Same.refl' H)⟩⟩
        rw [List.append_nil]
        exact am
    · obtain ⟨v, e1, e2⟩ := at_last n0
      have ne : (!(ns.map V.int).isEmpty) = true := by
        cases ns with
        | nil => exact absurd rfl n0
        | cons a b => rfl
      refine ⟨_, rfl, true, .inl ⟨_, SqL.of hl, ne.symm⟩, iteT ⟨_, rfl, _, rfl, l, _, _, _, rfl, rfl, SqL.of hl, e1, k _ _ (fin0 _ ?_) (Same.refl' H)⟩⟩
      show (B ++ ns).getLast? = some v
      rw [last_app n0]
      exact e2
theorem ok_s5 (T : Txt mg) (C_unlike_values : Callee P w K mg base "unlike_values" ["part", "values"] 2 spUnlike) (L : MLk K C "shown" "Unlike.shown" s_Unlike_shown ["self", "part", "values"] f fd) : MCallee P w K mg base C "shown" ["self", "part", "values"] 3 (spShown 5) := by
  refine L.callee (L.F.ok sc_Unlike_shown (fun vs H Q E h => ?_) (fun cdv A outer s H vs Q E hr h => ?_))
  · obtain ⟨a, pv, B, l, os, rfl, _⟩ := h
    rfl
  · obtain ⟨a, pv, B, l, os, rfl, hp, hl, hor, h1, h2, hne, hd, k⟩ := h
    have hqq : QB ((cxOf CX0 P w K mg base ["self", "part", "values"] "Unlike.shown" (defScope s_Unlike_shown) f cdv A outer s H E).nox) (defBody s_Unlike_shown) _ := (qb_one (qs_ret (qe_callB call_len_seq (by rfl) T.len PySem.boot_len (qa_cn (qe_callee C_unlike_values (hr.mono (by first | decide | omega)) (by rfl) (qa_cn (qv 1) (qa_cn (qv 2) qa_nil))) qa_nil))))
    (with_reducible refine ⟨_, hqq.p, ?_⟩)
    rcases hp.tup with ⟨rfl, rfl⟩ | ⟨b0, t, ks, rfl, ht, pm, so⟩
    · refine ⟨_, rfl, _, rfl, .non, [], l, os, rfl, .inl ⟨rfl, rfl⟩, hl, h2, Nat.zero_le _, hd, fun q ms H' hq hk _ s1 => ⟨q, _, rfl, .inl (SqL.of hq), k _ _ (.of (by decide) ?_) s1⟩⟩
      show (((ms.map V.int).length : Nat) : Int) = Dn ([] ++ os.filterMap id)
      rw [List.length_map, hk.length_eq]
      rfl
    · have hk : ks.length ≤ 400 := by
        have := pm.length_eq
        have := fold_len B []
        simp at this
        omega
      refine ⟨_, rfl, _, rfl, .ref t, ks, l, os, rfl, .inr ⟨t, rfl, ht⟩, hl, h2, hk, by rw [Dn_perm pm]; exact hd, fun q ms H' hq hk _ s1 => ⟨q, _, rfl, .inl (SqL.of hq), k _ _ (.of (by decide) ?_) s1⟩⟩
      show (((ms.map V.int).length : Nat) : Int) = Dn (B ++ os.filterMap id)
      rw [List.length_map, hk.length_eq, ← Dn_perm pm]
      rfl
end
end K25
end
section
set_option Elab.async false
set_option linter.all false
set_option maxRecDepth 100000
set_option maxHeartbeats 4000000
namespace K25
open PySem L2 PyProof.Rows
abbrev s_values : Stmt := top 22
theorem sc_values : FnScope ["_law_hand", "_law_least", "_law_most", "_law_values_here", "_law_wide", "_law_k", "_law_value"] ["_law_hand", "_law_least", "_law_most"] (defScope s_values) := ⟨rfl, rfl, rfl, by decide +kernel, rfl, by decide +kernel, by decide +kernel⟩
abbrev s_word : Stmt := top 23
theorem sc_word : FnScope ["_law_k"] ["_law_k"] (defScope s_word) := ⟨rfl, rfl, rfl, by decide +kernel, rfl, by decide +kernel, by decide +kernel⟩
abbrev s_sum : Stmt := top 24
theorem sc_sum : FnScope ["_law_word_here", "_law_turn"] ["_law_word_here", "_law_turn"] (defScope s_sum) := ⟨rfl, rfl, rfl, by decide +kernel, rfl, by decide +kernel, by decide +kernel⟩
abbrev s_amount : Stmt := top 25
theorem sc_amount : FnScope ["_law_word_here", "_law_values_here"] ["_law_word_here", "_law_values_here"] (defScope s_amount) := ⟨rfl, rfl, rfl, by decide +kernel, rfl, by decide +kernel, by decide +kernel⟩
abbrev s_whole : Stmt := top 26
theorem sc_whole : FnScope ["_law_found"] ["_law_found"] (defScope s_whole) := ⟨rfl, rfl, rfl, by decide +kernel, rfl, by decide +kernel, by decide +kernel⟩
abbrev s_is : Stmt := top 27
theorem sc_is : FnScope ["_law_found", "_law_due"] ["_law_found", "_law_due"] (defScope s_is) := ⟨rfl, rfl, rfl, by decide +kernel, rfl, by decide +kernel, by decide +kernel⟩
abbrev s_sum_of : Stmt := top 17
theorem sc_sum_of : FnScope ["word", "total"] ["word"] (defScope s_sum_of) := ⟨rfl, rfl, rfl, by decide +kernel, rfl, by decide +kernel, by decide +kernel⟩
abbrev s_part : Stmt := top 28
theorem sc_part : FnScope ["_law_word_here", "_law_values_here"] ["_law_word_here", "_law_values_here"] (defScope s_part) := ⟨rfl, rfl, rfl, by decide +kernel, rfl, by decide +kernel, by decide +kernel⟩
def Nums (H : Hp) (l : Addr) (ns : List Int) : Prop := H l = some (.lst (ns.map V.int)) ∧ ns ≠ [] ∧ ns.length ≤ 900 ∧ Dn ns ≤ 4000
structure RX (K : PySem.W.Frag) (mg : Str → Option Value) (c : Nat → Addr) (S : Addr) : Prop where
  m0 : MkN K mg "Count" (c 0)
  m1 : MkN K mg "Total" (c 1)
  m2 : MkN K mg "Least" (c 2)
  m3 : MkN K mg "Greatest" (c 3)
  m4 : MkN K mg "Last" (c 4)
  m5 : MkN K mg "Unlike" (c 5)
  cl : ∀ i, i < 6 → Cls K (c i)
  mS : mg "Sum" = some (.ref S)
  tyI : ∀ i, i < 6 → PySem.W.findIn K (.ref (c i)) "__class__" = some (some (.builtin "object.__class__")) ∧ PySem.W.specialIn K (.builtin "object.__class__") "__get__" = some (some (.builtin "getset_descriptor.__get__")) ∧ PySem.W.takesIn K (.builtin "object.__class__") = some true ∧ PySem.W.mroIn K (c i) (.type "object") = some true
  iso : ∀ i, i < 6 → PySem.W.kitOne K (.ref (c i)) (.ref S) = some true
def spValues : Sp := fun vs H Q _ => ∃ (p c : Addr) (least most : Int), vs = [.ref p, .int least, .int most] ∧ Hand H p c ∧ 0 ≤ least ∧ least ≤ most ∧ most ≤ 60 ∧
  ∀ (q : Addr) (ns : List Int) (H' : Hp), H q = none → H' q = some (.lst (ns.map V.int)) → least ≤ ns.length → (ns.length : Int) ≤ most → Hand H' p c → But p H H' → Q (.ref q) H'
def spWordL : Sp := fun vs H Q _ => ∃ k : Nat, vs = [.int k] ∧ ∀ H', Same H H' → Q (.str (wordAt (k % 6))) H'
def spAmount : Sp := fun vs H Q _ => ∃ (i : Nat) (l : Addr) (ns : List Int), i < 6 ∧ vs = [.str (wordAt i), .ref l] ∧ Nums H l ns ∧ ∀ (v : Int) (H' : Hp), Amt i ns v → Same H H' → Q (.int v) H'
def spWhole : Sp := fun vs H Q _ => ∃ v : Int, vs = [.int v] ∧ Q (.bl true) H
def spIs : Sp := fun vs H Q _ => ∃ v : Int, vs = [.int v, .int v] ∧ Q (.bl true) H
def spSumOf (c : Nat → Addr) : Sp := fun vs H Q _ => ∃ i : Nat, i < 6 ∧ vs = [.str (wordAt i)] ∧ ∀ x dx H', H x = none → H' x = some (.ins (c i) dx []) → Same H H' → Q (.ref x) H'
def spSum (c : Nat → Addr) : Sp := fun vs H Q _ => ∃ (i : Nat) (k : Int), i < 6 ∧ vs = [.str (wordAt i), .int k] ∧ ∀ x dx H', H x = none → H' x = some (.ins (c i) dx []) → Same H H' → Q (.ref x) H'
def spPart : Sp := fun vs H Q _ => ∃ (i : Nat) (l : Addr) (A : List Int), i < 6 ∧ vs = [.str (wordAt i), .ref l] ∧ H l = some (.lst (A.map V.int)) ∧ A.length ≤ 400 ∧ ∀ pv H', PartI H' i A pv → Same H H' → Q pv H'
theorem made {H : Hp} {x dx C : Addr} (hx : H x = none) (hd : H dx = none) : Same H (upd (upd H dx (.own x)) x (.ins C dx [])) ∧ (upd (upd H dx (.own x)) x (.ins C dx [])) x = some (.ins C dx []) :=
  ⟨fun b o e => by rw [upd_ne (ne_of_none e hx), upd_ne (ne_of_none e hd)]; exact e, upd_same⟩
theorem weigh_nil (x : Int) : ∀ {i : Nat}, i < 6 → weighB i [] x = true
  | 0, _ => rfl | 1, _ => rfl | 2, _ => rfl | 3, _ => rfl | 4, _ => rfl | 5, _ => rfl
  | n + 6, h => absurd h (by omega)
theorem none_of {H H' : Hp} {x : Addr} (s : Same H H') (h : H' x = none) : H x = none := by
  cases e : H x with
  | none => rfl
  | some o => rw [s x o e] at h; cases h
theorem six {c : Nat → Addr} {H H1 H2 H3 H4 H5 H6 HQ : Hp} {x0 x1 x2 x3 x4 x5 d0 d1 d2 d3 d4 d5 : Addr} (m0 : Same H H1 ∧ H1 x0 = some (.ins (c 0) d0 [])) (m1 : Same H1 H2 ∧ H2 x1 = some (.ins (c 1) d1 [])) (m2 : Same H2 H3 ∧ H3 x2 = some (.ins (c 2) d2 [])) (m3 : Same H3 H4 ∧ H4 x3 = some (.ins (c 3) d3 [])) (m4 : Same H4 H5 ∧ H5 x4 = some (.ins (c 4) d4 [])) (m5 : Same H5 H6 ∧ H6 x5 = some (.ins (c 5) d5 []))
    (e5 : Same H6 HQ) (hx0 : H x0 = none) (hx1 : H1 x1 = none) (hx2 : H2 x2 = none) (hx3 : H3 x3 = none) (hx4 : H4 x4 = none) (hx5 : H5 x5 = none) (m : Nat) (y : V) (hy : [V.ref x0, .ref x1, .ref x2, .ref x3, .ref x4, .ref x5][m]? = some y) : ∃ x dx, y = .ref x ∧ m < 6 ∧ H x = none ∧ HQ x = some (.ins (c m) dx []) := by
  have e4 := m5.1.trans e5
  have e3 := m4.1.trans e4
  have e2 := m3.1.trans e3
  have e1 := m2.1.trans e2
  have e0 := m1.1.trans e1
  have f2 := m0.1.trans m1.1
  have f3 := f2.trans m2.1
  have f4 := f3.trans m3.1
  match m, hy with
  | 0, hy => exact ⟨x0, d0, (Option.some.inj hy).symm, by decide, hx0, e0 _ _ m0.2⟩
  | 1, hy => exact ⟨x1, d1, (Option.some.inj hy).symm, by decide, none_of m0.1 hx1, e1 _ _ m1.2⟩
  | 2, hy => exact ⟨x2, d2, (Option.some.inj hy).symm, by decide, none_of f2 hx2, e2 _ _ m2.2⟩
  | 3, hy => exact ⟨x3, d3, (Option.some.inj hy).symm, by decide, none_of f3 hx3, e3 _ _ m3.2⟩
  | 4, hy => exact ⟨x4, d4, (Option.some.inj hy).symm, by decide, none_of f4 hx4, e4 _ _ m4.2⟩
  | 5, hy => exact ⟨x5, d5, (Option.some.inj hy).symm, by decide, none_of (f4.trans m4.1) hx5, e5 _ _ m5.2⟩
  | m + 6, hy => cases hy
theorem word_inj : ∀ {i j : Nat}, i < 6 → j < 6 → (decide (V.str (wordAt i) = V.str (wordAt j))) = decide (i = j) := by
  intro i j hi hj
  match i, hi with
  | 0, _ => match j, hj with | 0, _ | 1, _ | 2, _ | 3, _ | 4, _ | 5, _ => rfl
  | 1, _ => match j, hj with | 0, _ | 1, _ | 2, _ | 3, _ | 4, _ | 5, _ => rfl
  | 2, _ => match j, hj with | 0, _ | 1, _ | 2, _ | 3, _ | 4, _ | 5, _ => rfl
  | 3, _ => match j, hj with | 0, _ | 1, _ | 2, _ | 3, _ | 4, _ | 5, _ => rfl
  | 4, _ => match j, hj with | 0, _ | 1, _ | 2, _ | 3, _ | 4, _ | 5, _ => rfl
  | 5, _ => match j, hj with | 0, _ | 1, _ | 2, _ | 3, _ | 4, _ | 5, _ => rfl
theorem Hand.nec {H : Hp} {p c D : Addr} (h : Hand H p c) (e : H D = none) : D ≠ c := fun z => by
  obtain ⟨_, _, _, _, hc, _⟩ := h
  rw [z, hc] at e; cases e
theorem Hand.other {H : Hp} {p c q : Addr} {o : HO} (h : Hand H p c) (n1 : q ≠ p) (n2 : q ≠ c) : Hand (upd H q o) p c := by
  obtain ⟨d, n, cs, hp, hc, h0⟩ := h
  exact ⟨d, n, cs, by rw [upd_ne (Ne.symm n1)]; exact hp, by rw [upd_ne (Ne.symm n2)]; exact hc, h0⟩
theorem But.put {p q : Addr} {H H' : Hp} {o : HO} (b : But p H H') (hq : H q = none) : But p H (L2.upd H' q o) := fun x u e n => by rw [upd_ne (ne_of_none e hq)]; exact b x u e n
theorem at0 {x : V} {xs : List V} : atI (x :: xs) 0 = some x := by
  unfold atI ixN
  simp
theorem ix0 {x : V} {xs : List V} : ixN (x :: xs).length 0 = some 0 := by
  unfold ixN
  simp
def tApp (K : PySem.W.Frag) : TS := tDrop (tBM K "list" rAppend (tVar 3) (tCons (tVar 6) tNil))
def tNear (K : PySem.W.Frag) : TS := tIfS (tAnd (tTest (tOp (rI0 fun i j => V.bl (decide (i < j))) (tVar 4) (tC (V.int 2)))) (tAnd (tTest (tOp (rI0 fun i j => V.bl (decide (j < i))) (tVar 5) (tC (V.int 0)))) (tTest (tOp rEq (tCall spDraw [] E0 (tCons (tVar 0) (tCons (tC (V.int 3)) tNil))) (tC (V.int 0))))))
  (tAsg (tOp (rI0 fun i j => V.int (i - j)) (tOp (rI0 fun i j => V.int (i + j)) (tOp (rIxL K) (tVar 3) (tCall spDraw [] E0 (tCons (tVar 0) (tCons (tVar 5) tNil)))) (tCall spDraw [] E0 (tCons (tVar 0) (tCons (tC (V.int 3)) tNil)))) (tC (V.int 1))) (gName 6)) tNext
section
variable {K : PySem.W.Frag} {D : Ends} {p c q : Addr} {a b x v : V} {ns : List Int} {wide v : Int} {H : Hp}
theorem app_end {σ : L2.St} (h3 : σ[3]? = some (some (.ref q))) (h6 : σ[6]? = some (some (.int v))) (hq : H q = some (.lst (ns.map V.int))) (hn : ns.length ≤ 60) (k : D.nx σ (upd H q (.lst ((ns ++ [v]).map V.int)))) : tApp K D σ H := by
  refine ⟨_, h3, ?_, _, h6, q, _, _, rfl, rfl, hq, ?_, ?_⟩
  · exact .inl ⟨rfl, _, SqL.of hq⟩
  · rw [List.length_map]
    exact Nat.lt_of_le_of_lt hn (by decide)
  · rw [List.map_append] at k
    exact k
theorem near_end {i : Nat} (hp : Hand H p c) (hqp : q ≠ p) (hn : ns.length = i) (hi : i ≤ 60) (hq : H q = some (.lst (ns.map V.int))) (k : ∀ (u : Int) (H4 : Hp), Hand H4 p c → But p H H4 → tApp K D [some (.ref p), some a, some b, some (.ref q), some (.int wide), some (.int i), some (.int u)] H4) :
    tSeq (tNear K) (tApp K) D [some (.ref p), some a, some b, some (.ref q), some (.int wide), some (.int i), some (.int v)] H := by
  refine ⟨_, rfl, _, _, rfl, rfl, _, rfl, ?_⟩
  refine ite2 (fun _ => ?_) (fun _ => k v H hp (But.refl p H))
  refine ⟨_, rfl, _, _, rfl, rfl, _, rfl, ?_⟩
  refine ite2 (fun i0 => ?_) (fun _ => k v H hp (But.refl p H))
  have i0 : (0 : Int) < i := by simpa using i0
  refine ⟨_, rfl, p, c, 3, rfl, hp, by decide, by decide, fun r H2 r0 r1 h2 b2 => ⟨rfl, _, rfl, ?_⟩⟩
  refine ite2 (fun _ => ?_) (fun _ => k v H2 h2 b2)
  refine ⟨_, rfl, _, rfl, _, rfl, p, c, i, rfl, h2, i0, by omega, fun r2 H3 r20 r21 h3 b3 => ?_⟩
  have q3 := b3 _ _ (b2 _ _ hq hqp) hqp
  obtain ⟨x, ex⟩ := at_ints (ms := ns) r20 (by omega)
  refine ⟨q, _, _, _, rfl, rfl, SqL.of q3, ex, _, rfl, p, c, 3, rfl, h3, by decide, by decide, fun r4 H4 r40 r41 h4 b4 => ⟨_, _, rfl, rfl, _, _, rfl, rfl, ?_⟩⟩
  exact k _ H4 h4 ((b2.trans b3).trans b4)
end
section
variable {P : Program} {w : World} {K : PySem.W.Frag} {mg : Str → Option Value} {base : Heap} {C : Addr} {f : Addr} {fd : FuncData} {c : Nat → Addr} {S : Addr}
theorem ok_word (L : Lk K mg "_law_word" s_word ["_law_k"] f fd) (T : Txt mg) : Callee P w K mg base "_law_word" ["_law_k"] 1 spWordL := by
  refine L.callee (L.F.ok sc_word (fun vs H Q E h => ?_) (fun cdv A outer s H vs Q E hr h => ?_))
  · obtain ⟨k, rfl, _⟩ := h
    rfl
  · obtain ⟨k, rfl, kq⟩ := h
    have hqq : QB ((cxOf CX0 P w K mg base ["_law_k"] "_law_word" (defScope s_word) f cdv A outer s H E).nox) (defBody s_word) _ := (qb_one (qs_ret (qe_ix ix_tup (qe_tup (qa_cn qe_str (qa_cn qe_str (qa_cn qe_str (qa_cn qe_str (qa_cn qe_str (qa_cn qe_str qa_nil))))))) (qe_op op_mod (qv 0) qe_int) (fun _ _ => rfl))))
    (with_reducible refine ⟨_, hqq.p, ?_⟩)
    refine ⟨by show 6 ≤ sizeLine; decide, fun t ht => ⟨_, rfl, _, _, rfl, rfl, (by show (0 : Int) < 6; decide), t, _, _, _, rfl, rfl, SqT.of upd_same, ?_, kq _ (Same.new _ ht)⟩⟩
    have e : ((k : Int) % 6) = ((k % 6 : Nat) : Int) := by omega
    rw [e]
    refine atI_nat ?_
    have : k % 6 < 6 := Nat.mod_lt _ (by decide)
    generalize k % 6 = j at this
    match j, this with
    | 0, _ => rfl
    | 1, _ => rfl
    | 2, _ => rfl
    | 3, _ => rfl
    | 4, _ => rfl
    | 5, _ => rfl
theorem ok_whole (L : Lk K mg "_law_whole" s_whole ["_law_found"] f fd) (T : Txt mg) : Callee P w K mg base "_law_whole" ["_law_found"] 1 spWhole := by
  refine L.callee (L.F.ok sc_whole (fun vs H Q E h => ?_) (fun cdv A outer s H vs Q E hr h => ?_))
  · obtain ⟨k, rfl, _⟩ := h
    rfl
  · obtain ⟨v, rfl, k⟩ := h
    have hqq : QB ((cxOf CX0 P w K mg base ["_law_found"] "_law_whole" (defScope s_whole) f cdv A outer s H E).nox) (defBody s_whole) _ := (qb_one (qs_ret (qe_and (qe_callB call_isinst (by rfl) T.isinstance boot_isinstance (qa_cn (qv 0) (qa_cn (qe_bltn (v := .ty "int") (by rfl) T.int boot_int rfl) qa_nil))) (qe_one (qe_not (qe_callB call_isinst (by rfl) T.isinstance boot_isinstance (qa_cn (qv 0) (qa_cn (qe_bltn (v := .ty "bool") (by rfl) T.bool boot_bool rfl) qa_nil))))))))
    (with_reducible refine ⟨_, hqq.p, ?_⟩)
    exact ⟨_, rfl, .int v, "int", .type "int", true, rfl, .int v, rfl, _, rfl, iteT ⟨_, rfl, .int v, "bool", .type "int", false, rfl, .int v, rfl, _, rfl, k⟩⟩
theorem ok_is (L : Lk K mg "_law_is" s_is ["_law_found", "_law_due"] f fd) (T : Txt mg) (C__law_whole : Callee P w K mg base "_law_whole" ["_law_found"] 1 spWhole) : Callee P w K mg base "_law_is" ["_law_found", "_law_due"] 2 spIs := by
  refine L.callee (L.F.ok sc_is (fun vs H Q E h => ?_) (fun cdv A outer s H vs Q E hr h => ?_))
  · obtain ⟨k, rfl, _⟩ := h
    rfl
  · obtain ⟨v, rfl, k⟩ := h
    have hqq : QB ((cxOf CX0 P w K mg base ["_law_found", "_law_due"] "_law_is" (defScope s_is) f cdv A outer s H E).nox) (defBody s_is) _ := (qb_one (qs_ret (qe_and (qe_callee C__law_whole (hr.mono (by first | decide | omega)) (by rfl) (qa_cn (qv 0) qa_nil)) (qe_one (qe_cmpR op_eq (qv 0) (qv 1) (nomark _))))))
    (with_reducible refine ⟨_, hqq.p, ?_⟩)
    refine ⟨_, rfl, v, rfl, _, rfl, iteT ⟨_, rfl, _, rfl, rfl, ?_⟩⟩
    rw [decide_eq_true rfl]
    exact k
theorem ok_amount (L : Lk K mg "_law_amount" s_amount ["_law_word_here", "_law_values_here"] f fd) (T : Txt mg) : Callee P w K mg base "_law_amount" ["_law_word_here", "_law_values_here"] 1 spAmount := by
  refine L.callee (L.F.ok sc_amount (fun vs H Q E h => ?_) (fun cdv A outer s H vs Q E hr h => ?_))
  · obtain ⟨i, l, ns, _, rfl, _⟩ := h
    rfl
  · obtain ⟨i, l, ns, hi, rfl, ⟨hl, h0, h1, h2⟩, k⟩ := h
    have hqq : QB ((cxOf CX0 P w K mg base ["_law_word_here", "_law_values_here"] "_law_amount" (defScope s_amount) f cdv A outer s H E).nox) (defBody s_amount) _ := (qb_cn (qs_if (qt_cmpR op_eq (qv 0) qe_str (nomark _)) (qb_one (qs_ret (qe_callB call_len_seq (by rfl) T.len PySem.boot_len (qa_cn (qv 1) qa_nil)))) qb_nil)
      (qb_cn (qs_if (qt_cmpR op_eq (qv 0) qe_str (nomark _)) (qb_one (qs_ret (qe_callB (call_sum_list hr.hd) (by rfl) T.sum boot_sum (qa_cn (qv 1) qa_nil)))) qb_nil)
      (qb_cn (qs_if (qt_cmpR op_eq (qv 0) qe_str (nomark _)) (qb_one (qs_ret (qe_callB (call_min_list hr.hd) (by rfl) T.min boot_min (qa_cn (qv 1) qa_nil)))) qb_nil)
      (qb_cn (qs_if (qt_cmpR op_eq (qv 0) qe_str (nomark _)) (qb_one (qs_ret (qe_callB (call_max_list hr.hd) (by rfl) T.max boot_max (qa_cn (qv 1) qa_nil)))) qb_nil)
      (qb_cn (qs_if (qt_cmpR op_eq (qv 0) qe_str (nomark _)) (qb_one (qs_ret (qe_ix ix_list (qv 1) (qe_un un_neg qe_int) (fun _ _ => rfl)))) qb_nil)
      (qb_one (qs_ret (qe_callB call_lenS (by rfl) T.len PySem.boot_len (qa_cn (qe_callTy (call_setL rfl) (by rfl) T.set boot_set (qa_cn (qv 1) qa_nil)) qa_nil)))))))))
    (with_reducible refine ⟨_, hqq.p, ?_⟩)
    obtain ⟨v, e1, e2⟩ := at_last h0
    match i, hi, k with
    | 0, _, k => exact ⟨_, rfl, rfl, _, rfl, iteT ⟨_, rfl, l, _, rfl, .inl (SqL.of hl), k _ _ (by show (((ns.map V.int).length : Nat) : Int) = _; rw [List.length_map]) (fun _ _ e => e)⟩⟩
    | 1, _, k => exact ⟨_, rfl, rfl, _, rfl, iteF ⟨_, rfl, rfl, _, rfl, iteT ⟨_, rfl, l, ns, rfl, SqL.of hl, k _ _ rfl (fun _ _ e => e)⟩⟩⟩
    | 2, _, k => exact ⟨_, rfl, rfl, _, rfl, iteF ⟨_, rfl, rfl, _, rfl, iteF ⟨_, rfl, rfl, _, rfl, iteT ⟨_, rfl, l, ns, rfl, SqL.of hl, h0, fun M m1 m2 => k _ _ ⟨m1, m2⟩ (fun _ _ e => e)⟩⟩⟩⟩
    | 3, _, k => exact ⟨_, rfl, rfl, _, rfl, iteF ⟨_, rfl, rfl, _, rfl, iteF ⟨_, rfl, rfl, _, rfl, iteF ⟨_, rfl, rfl, _, rfl, iteT ⟨_, rfl, l, ns, rfl, SqL.of hl, h0, fun M m1 m2 => k _ _ ⟨m1, m2⟩ (fun _ _ e => e)⟩⟩⟩⟩⟩
    | 4, _, k => exact ⟨_, rfl, rfl, _, rfl, iteF ⟨_, rfl, rfl, _, rfl, iteF ⟨_, rfl, rfl, _, rfl, iteF ⟨_, rfl, rfl, _, rfl, iteF ⟨_, rfl, rfl, _, rfl, iteT ⟨_, rfl, _, rfl, l, _, _, _, rfl, rfl, SqL.of hl, e1, k _ _ e2 (fun _ _ e => e)⟩⟩⟩⟩⟩⟩
    | 5, _, k => exact ⟨_, rfl, rfl, _, rfl, iteF ⟨_, rfl, rfl, _, rfl, iteF ⟨_, rfl, rfl, _, rfl, iteF ⟨_, rfl, rfl, _, rfl, iteF ⟨_, rfl, rfl, _, rfl, iteF ⟨_, rfl, l, ns, rfl, SqL.of hl, (by have : scanBound = 4096 := rfl; omega), fun a ha => ⟨a, _, rfl, upd_same, k _ _ rfl (Same.new _ ha)⟩⟩⟩⟩⟩⟩⟩
theorem ok_values (L : Lk K mg "_law_values" s_values ["_law_hand", "_law_least", "_law_most"] f fd) (T : Txt mg) (C__law_draw : Callee P w K mg base "_law_draw" ["_law_hand", "_law_many"] 1 spDraw) (C__law_far : Callee P w K mg base "_law_far" ["_law_hand", "_law_bound"] 2 spFar) : Callee P w K mg base "_law_values" ["_law_hand", "_law_least", "_law_most"] 3 spValues := by
  refine L.callee (L.F.ok sc_values (fun vs H Q E h => ?_) (fun cdv A outer s H vs Q E hr h => ?_))
  · obtain ⟨p, c, a, b, rfl, _⟩ := h
    rfl
  · obtain ⟨p, c, least, most, rfl, hh, l0, l1, l2, k⟩ := h
    have hqq : QB ((cxOf CX0 P w K mg base ["_law_hand", "_law_least", "_law_most", "_law_values_here", "_law_wide", "_law_k", "_law_value"] "_law_values" (defScope s_values) f cdv A outer s H E).nox) (defBody s_values) _ := (qb_cn (qs_set (i := 3) sc_values.nd rfl (Or.inl rfl) (qe_lst qa_nil))
      (qb_cn (qs_set (i := 4) sc_values.nd rfl (Or.inl rfl) (qe_callee C__law_draw (hr.mono (by first | decide | omega)) (by rfl) (qa_cn (qv 0) (qa_cn qe_int qa_nil))))
      (qb_cn (qs_for PassesOwn.never rfl (qi_range1 rfl T.range (qa_cn (qe_op op_add (qv 1) (qe_callee C__law_draw (hr.mono (by first | decide | omega)) (by rfl) (qa_cn (qv 0) (qa_cn (qe_op op_add (qe_op op_sub (qv 2) (qv 1)) qe_int) qa_nil)))) qa_nil)) (qg_name (i := 5) sc_values.nd rfl (Or.inl rfl)) (qb_cn (qs_set (i := 6) sc_values.nd rfl (Or.inl rfl) (qe_op op_sub (qe_callee C__law_draw (hr.mono (by first | decide | omega)) (by rfl) (qa_cn (qv 0) (qa_cn qe_int qa_nil))) qe_int))
      (qb_cn (qs_if (qw_pt (qw_and (qt_cmpR op_eq (qv 4) qe_int (nomark _)) (qw_and1 (qt_cmpR op_eq (qe_callee C__law_draw (hr.mono (by first | decide | omega)) (by rfl) (qa_cn (qv 0) (qa_cn qe_int qa_nil))) qe_int (nomark _))))) (qb_one (qs_set (i := 6) sc_values.nd rfl (Or.inl rfl) (qe_op op_sub (qe_callee C__law_far (hr.mono (by first | decide | omega)) (by rfl) (qa_cn (qv 0) (qa_cn (qe_op op_mul qe_int (qe_op op_pow qe_int qe_int)) qa_nil))) (qe_op op_pow qe_int qe_int)))) qb_nil)
      (qb_cn (qs_if (qw_pt (qw_and (qt_cmpR op_lt (qv 4) qe_int (nomark _)) (qw_and (qt_cmpR op_gt (qv 5) qe_int (nomark _)) (qw_and1 (qt_cmpR op_eq (qe_callee C__law_draw (hr.mono (by first | decide | omega)) (by rfl) (qa_cn (qv 0) (qa_cn qe_int qa_nil))) qe_int (nomark _)))))) (qb_one (qs_set (i := 6) sc_values.nd rfl (Or.inl rfl) (qe_op op_sub (qe_op op_add (qe_ix ix_list (qv 3) (qe_callee C__law_draw (hr.mono (by first | decide | omega)) (by rfl) (qa_cn (qv 0) (qa_cn (qv 5) qa_nil))) (fun _ _ => rfl)) (qe_callee C__law_draw (hr.mono (by first | decide | omega)) (by rfl) (qa_cn (qv 0) (qa_cn qe_int qa_nil)))) qe_int))) qb_nil)
      (qb_one (qs_expr (qe_bm PySem.F.plainAttrs_list PySem.F.slot_list_append PySem.F.type_list_append mt_append (qv 3) (qa_cn (qv 6) qa_nil))))))))
      (qb_one (qs_ret (qv 3))))))
    (with_reducible refine ⟨_, hqq.p, ?_⟩)
    refine ⟨Nat.zero_le _, fun q hq => ?_⟩
    refine ⟨_, rfl, p, c, 4, rfl, hh.new _ hq, by decide, by decide, fun wide H1 w0 w1 h1 b1 => ?_⟩
    have q1 : H1 q = some (.lst []) := b1 _ _ upd_same (hh.nef hq)
    refine ⟨_, rfl, _, rfl, _, rfl, _, rfl, _, _, rfl, rfl, _, _, rfl, rfl, p, c, most - least + 1, rfl, h1, by omega, by omega, fun d H2 d0 d1 h2 b2 => ⟨_, _, rfl, rfl, ?_⟩⟩
    have q2 : H2 q = some (.lst []) := b2 _ _ q1 (hh.nef hq)
    have b12 : But p H H2 := ((But.new _ hq).trans b1).trans b2
    refine ⟨_, rfl, by omega, by omega, for_range (n := (least + d).toNat) (fun i σ H' => ∃ (ns : List Int) (u v : Option V), σ = [some (.ref p), some (.int least), some (.int most), some (.ref q), some (.int wide), u, v] ∧ ns.length = i ∧ H' q = some (.lst (ns.map V.int)) ∧ Hand H' p c ∧ But p H H') ⟨[], none, none, rfl, rfl, q2, h2, b12⟩ ?_ ?_⟩
    · rintro i σ H' hi ⟨ns, u, v, rfl, hn, hq', h', b'⟩
      refine ⟨_, rfl, p, c, 7, rfl, h', by decide, by decide, fun r H3 r0 r1 h3 b3 => ⟨_, _, rfl, rfl, ?_⟩⟩
      have b3' : But p H H3 := b'.trans b3
      have ei : (0 + (i : Int)) = i := Int.zero_add _
      rw [ei]
      have q3 := b3 _ _ hq' (hh.nef hq)
      have hi' : i ≤ 60 := by omega
      have fin : ∀ (D : Ends) (v : Int) (H4 : Hp), D.nx = (fun σ H' => ∃ (ns : List Int) (u v : Option V), σ = [some (.ref p), some (.int least), some (.int most), some (.ref q), some (.int wide), u, v] ∧ ns.length = i + 1 ∧ H' q = some (.lst (ns.map V.int)) ∧ Hand H' p c ∧ But p H H') → Hand H4 p c → But p H3 H4 →
          tSeq (tNear K) (tApp K) D [some (.ref p), some (.int least), some (.int most), some (.ref q), some (.int wide), some (.int i), some (.int v)] H4 := by
        intro D v H4 eD h4 b4
        have q4 := b4 _ _ q3 (hh.nef hq)
        refine near_end h4 (hh.nef hq) hn hi' q4 fun u H5 h5 b5 => ?_
        have q5 := b5 _ _ q4 (hh.nef hq)
        refine app_end rfl rfl q5 (by omega) ?_
        rw [eD]
        refine ⟨ns ++ [u], _, _, rfl, by rw [List.length_append, hn]; rfl, upd_same, ?_, ?_⟩
        · exact h5.other (hh.nef hq) (hh.nec hq)
        · exact (((b3'.trans b4).trans b5)).put hq
      refine ⟨_, rfl, rfl, _, rfl, ?_⟩
      refine ite2 (fun _ => ?_) (fun _ => fin _ _ _ rfl h3 (But.refl p H3))
      refine ⟨_, rfl, p, c, 2, rfl, h3, by decide, by decide, fun r2 H4 r20 r21 h4 b4 => ⟨rfl, _, rfl, ?_⟩⟩
      refine ite2 (fun _ => ?_) (fun _ => fin _ _ _ rfl h4 b4)
      refine ⟨_, rfl, _, _, rfl, rfl, ⟨by decide, by decide, by decide⟩, _, _, rfl, rfl, mulL (by decide) (by decide), p, c, _, rfl, h4, by decide, fun r5 H5 r50 r51 h5 b5 => ?_⟩
      refine ⟨_, _, rfl, rfl, ⟨by decide, by decide, by decide⟩, _, _, rfl, rfl, ?_⟩
      exact fin _ _ _ rfl h5 (b4.trans b5)
    · rintro σ H' ⟨ns, u, v, rfl, hn, hq', h', b'⟩
      refine ⟨_, rfl, ?_⟩
      exact k q ns H' hq hq' (by omega) (by omega) h' b'
theorem ok_sum_of (L : Lk K mg "sum_of" s_sum_of ["word"] f fd) (T : Txt mg) (R : RX K mg c S) (FW : Fam P w K mg base c 6 "word" ["self"] 1 spWord) : Callee P w K mg base "sum_of" ["word"] 3 (spSumOf c) := by
  refine L.callee (L.F.ok sc_sum_of (fun vs H Q E h => ?_) (fun cdv A outer s H vs Q E hr h => ?_))
  · obtain ⟨i, _, rfl, _⟩ := h
    rfl
  · obtain ⟨i, hi, rfl, k⟩ := h
    have hqq : QB ((cxOf CX0 P w K mg base ["word", "total"] "sum_of" (defScope s_sum_of) f cdv A outer s H E).nox) (defBody s_sum_of) _ := (qb_cn (qs_for PassesOwn.never rfl (qi_list (qe_lst (qa_cn (qe_makeN R.m0 (by rfl)) (qa_cn (qe_makeN R.m1 (by rfl)) (qa_cn (qe_makeN R.m2 (by rfl)) (qa_cn (qe_makeN R.m3 (by rfl)) (qa_cn (qe_makeN R.m4 (by rfl)) (qa_cn (qe_makeN R.m5 (by rfl)) qa_nil)))))))) (qg_name (i := 1) sc_sum_of.nd rfl (Or.inl rfl)) (qb_one (qs_if (qt_cmpR op_eq (qe_fam0 (qv 1) FW (hr.mono (by first | decide | omega))) (qv 0) (nomark _)) (qb_one (qs_ret (qv 1))) qb_nil)))
      (qb_one qs_never))
    (with_reducible refine ⟨_, hqq.p, ?_⟩)
    intro x0 d0 hx0 hd0 _ x1 d1 hx1 hd1 _ x2 d2 hx2 hd2 _ x3 d3 hx3 hd3 _ x4 d4 hx4 hd4 _ x5 d5 hx5 hd5 _
    have m0 := made (C := c 0) hx0 hd0
    have m1 := made (C := c 1) hx1 hd1
    have m2 := made (C := c 2) hx2 hd2
    have m3 := made (C := c 3) hx3 hd3
    have m4 := made (C := c 4) hx4 hd4
    have m5 := made (C := c 5) hx5 hd5
    refine ⟨by show 6 ≤ sizeLine; decide, fun q hq => ⟨q, rfl, ⟨_, SqL.of upd_same⟩, ?_⟩⟩
    have e5 := Same.new (.lst [.ref x0, .ref x1, .ref x2, .ref x3, .ref x4, .ref x5]) hq
    have e4 := m5.1.trans e5
    have e3 := m4.1.trans e4
    have e2 := m3.1.trans e3
    have e1 := m2.1.trans e2
    have e0 := m1.1.trans e1
    have eH := m0.1.trans e0
    have all := six m0 m1 m2 m3 m4 m5 e5 hx0 hx1 hx2 hx3 hx4 hx5
    refine for_list (K := K) (a := q) (xs := [.ref x0, .ref x1, .ref x2, .ref x3, .ref x4, .ref x5]) (fun m σ H' => ∃ o, σ = [some (.str (wordAt i)), o] ∧ Same _ H' ∧ m ≤ i) ⟨none, rfl, fun _ _ e => e, Nat.zero_le _⟩ (fun m σ H' _ ⟨_, _, s', _⟩ => SqL.of (s' _ _ upd_same)) ?_ ?_
    · rintro m y σ H' hy ⟨o, rfl, s', hm⟩
      obtain ⟨x, dx, rfl, m6, hx, hX⟩ := all m y hy
      refine ⟨_, rfl, m, x, dx, [], m6, rfl, s' _ _ hX, rfl, x, rfl, _, rfl, rfl, _, rfl, ?_⟩
      show (if (decide (V.str (wordAt m) = V.str (wordAt i))) = true then _ else _)
      rw [word_inj m6 hi]
      by_cases e : m = i
      · subst e
        rw [decide_eq_true rfl]
        exact iteT ⟨_, rfl, k x dx H' hx (s' _ _ hX) (eH.trans s')⟩
      · rw [decide_eq_false e]
        exact iteF ⟨_, rfl, s', by omega⟩
    · rintro σ H' ⟨o, rfl, s', hm⟩
      have hm : 6 ≤ i := hm
      omega
theorem ok_sum (L : Lk K mg "_law_sum" s_sum ["_law_word_here", "_law_turn"] f fd) (T : Txt mg) (R : RX K mg c S) (C_sum_of : Callee P w K mg base "sum_of" ["word"] 3 (spSumOf c)) : Callee P w K mg base "_law_sum" ["_law_word_here", "_law_turn"] 4 (spSum c) := by
  refine L.callee (L.F.ok sc_sum (fun vs H Q E h => ?_) (fun cdv A outer s H vs Q E hr h => ?_))
  · obtain ⟨i, n, _, rfl, _⟩ := h
    rfl
  · obtain ⟨i, n, hi, rfl, k⟩ := h
    have hqq : QB ((cxOf CX0 P w K mg base ["_law_word_here", "_law_turn"] "_law_sum" (defScope s_sum) f cdv A outer s H E).nox) (defBody s_sum) _ := (qb_cn (qs_if (qt_cmpR op_eq (qe_op op_mod (qv 1) qe_int) qe_int (nomark _)) (qb_one (qs_ret (qe_callee C_sum_of (hr.mono (by first | decide | omega)) (by rfl) (qa_cn (qv 0) qa_nil)))) qb_nil)
      (qb_cn (qs_if (qt_cmpR op_eq (qv 0) qe_str (nomark _)) (qb_one (qs_ret (qe_makeN R.m0 (by rfl)))) qb_nil)
      (qb_cn (qs_if (qt_cmpR op_eq (qv 0) qe_str (nomark _)) (qb_one (qs_ret (qe_makeN R.m1 (by rfl)))) qb_nil)
      (qb_cn (qs_if (qt_cmpR op_eq (qv 0) qe_str (nomark _)) (qb_one (qs_ret (qe_makeN R.m2 (by rfl)))) qb_nil)
      (qb_cn (qs_if (qt_cmpR op_eq (qv 0) qe_str (nomark _)) (qb_one (qs_ret (qe_makeN R.m3 (by rfl)))) qb_nil)
      (qb_cn (qs_if (qt_cmpR op_eq (qv 0) qe_str (nomark _)) (qb_one (qs_ret (qe_makeN R.m4 (by rfl)))) qb_nil)
      (qb_one (qs_ret (qe_makeN R.m5 (by rfl))))))))))
    (with_reducible refine ⟨_, hqq.p, ?_⟩)
    refine ⟨_, rfl, _, _, rfl, rfl, (by show (0 : Int) < 2; decide), rfl, _, rfl, ite2 (fun _ => ?_) (fun _ => ?_)⟩
    · exact ⟨_, rfl, i, hi, rfl, k⟩
    have k' : ∀ x dx, H x = none → H dx = none → dx ≠ x → Q (.ref x) (upd (upd H dx (.own x)) x (.ins (c i) dx [])) := fun x dx hx hd _ => k x dx _ hx (made hx hd).2 (made hx hd).1
    match i, hi, k' with
    | 0, _, k => exact ⟨_, rfl, rfl, _, rfl, iteT k⟩
    | 1, _, k => exact ⟨_, rfl, rfl, _, rfl, iteF ⟨_, rfl, rfl, _, rfl, iteT k⟩⟩
    | 2, _, k => exact ⟨_, rfl, rfl, _, rfl, iteF ⟨_, rfl, rfl, _, rfl, iteF ⟨_, rfl, rfl, _, rfl, iteT k⟩⟩⟩
    | 3, _, k => exact ⟨_, rfl, rfl, _, rfl, iteF ⟨_, rfl, rfl, _, rfl, iteF ⟨_, rfl, rfl, _, rfl, iteF ⟨_, rfl, rfl, _, rfl, iteT k⟩⟩⟩⟩
    | 4, _, k => exact ⟨_, rfl, rfl, _, rfl, iteF ⟨_, rfl, rfl, _, rfl, iteF ⟨_, rfl, rfl, _, rfl, iteF ⟨_, rfl, rfl, _, rfl, iteF ⟨_, rfl, rfl, _, rfl, iteT k⟩⟩⟩⟩⟩
    | 5, _, k => exact ⟨_, rfl, rfl, _, rfl, iteF ⟨_, rfl, rfl, _, rfl, iteF ⟨_, rfl, rfl, _, rfl, iteF ⟨_, rfl, rfl, _, rfl, iteF ⟨_, rfl, rfl, _, rfl, iteF k⟩⟩⟩⟩⟩
theorem ok_part (L : Lk K mg "_law_part" s_part ["_law_word_here", "_law_values_here"] f fd) (T : Txt mg) (C__law_amount : Callee P w K mg base "_law_amount" ["_law_word_here", "_law_values_here"] 1 spAmount) : Callee P w K mg base "_law_part" ["_law_word_here", "_law_values_here"] 2 spPart := by
  refine L.callee (L.F.ok sc_part (fun vs H Q E h => ?_) (fun cdv A outer s H vs Q E hr h => ?_))
  · obtain ⟨i, l, B, _, rfl, _⟩ := h
    rfl
  · obtain ⟨i, l, B, hi, rfl, hl, hn, k⟩ := h
    have hqq : QB ((cxOf CX0 P w K mg base ["_law_word_here", "_law_values_here"] "_law_part" (defScope s_part) f cdv A outer s H E).nox) (defBody s_part) _ := (qb_cn (qs_if (qt_cmpR (op_eqL (hu0 hr)) (qv 1) (qe_lst qa_nil) (nomark _)) (qb_one (qs_ret qe_non)) qb_nil)
      (qb_cn (qs_if (qt_cmpR op_eq (qv 0) qe_str (nomark _)) (qb_one (qs_ret (qe_callTy call_tuple_of (by rfl) T.tuple boot_tuple (qa_cn (qe_callB (call_sortedB rfl) (by rfl) T.sorted boot_sorted (qa_cn (qe_callTy (call_setL rfl) (by rfl) T.set boot_set (qa_cn (qv 1) qa_nil)) qa_nil)) qa_nil)))) qb_nil)
      (qb_one (qs_ret (qe_callee C__law_amount (hr.mono (by first | decide | omega)) (by rfl) (qa_cn (qv 0) (qa_cn (qv 1) qa_nil)))))))
    (with_reducible refine ⟨_, hqq.p, ?_⟩)
    refine ⟨_, rfl, Nat.zero_le _, fun e he => ⟨l, e, _, _, rfl, rfl, SqL.of (Same.new _ he _ _ hl), SqL.of upd_same, flat_ints B, flat_ints [], _, rfl, ?_⟩⟩
    show (if eqL (B.map V.int) (([] : List Int).map V.int) = true then _ else _)
    rw [eqL_ints]
    have s1 : Same H (upd H e (.lst [])) := Same.new _ he
    by_cases b0 : B = []
    · rw [decide_eq_true b0]
      exact iteT (k .non _ (.inl ⟨b0, rfl⟩) s1)
    rw [decide_eq_false b0]
    refine iteF ⟨_, rfl, rfl, _, rfl, ?_⟩
    show (if (decide (V.str (wordAt i) = V.str (wordAt 5))) = true then _ else _)
    rw [word_inj hi (by decide)]
    have hd : Dn B ≤ 4000 := Nat.le_trans (Nat.le_trans (Dn_le (ns := B) (ms := B) fun x h => h) hn) (by decide)
    by_cases e5 : i = 5
    · subst e5
      rw [decide_eq_true rfl]
      refine iteT ⟨_, rfl, l, B, rfl, SqL.of (s1 _ _ hl), (by have : scanBound = 4096 := rfl; omega), fun a ha => ⟨a, _, rfl, upd_same, hd, fun r ks hr pm so => ⟨r, _, rfl, .inl ⟨SqL.of upd_same, fun t ht => ?_⟩⟩⟩⟩
      exact k (.ref t) _ (.inr ⟨b0, .inr ⟨by decide, t, ks, rfl, upd_same, pm, so⟩⟩) (((s1.trans (Same.new _ ha)).trans (Same.new _ hr)).trans (Same.new _ ht))
    · rw [decide_eq_false e5]
      exact iteF ⟨_, rfl, _, rfl, i, l, B, hi, rfl, ⟨s1 _ _ hl, b0, by omega, hd⟩, fun v H' am s' => k (.int v) H' (.inr ⟨b0, .inl ⟨by omega, v, rfl, am⟩⟩) (s1.trans s')⟩
end
end K25
end
section
set_option Elab.async false
set_option linter.all false
set_option maxRecDepth 100000
set_option maxHeartbeats 4000000
namespace K25
open PySem L2 PyProof.Rows
abbrev s_same_part : Stmt := top 29
theorem sc_same_part : FnScope ["_law_found", "_law_due"] ["_law_found", "_law_due"] (defScope s_same_part) := ⟨rfl, rfl, rfl, by decide +kernel, rfl, by decide +kernel, by decide +kernel⟩
abbrev s_trim : Stmt := top 30
theorem sc_trim : FnScope ["_law_word_here", "_law_ahead", "_law_value"] ["_law_word_here", "_law_ahead", "_law_value"] (defScope s_trim) := ⟨rfl, rfl, rfl, by decide +kernel, rfl, by decide +kernel, by decide +kernel⟩
abbrev s_none_stands : Stmt := top 31
theorem sc_none_stands : FnScope ["_law_adder", "_law_word_here", "_law_ahead", "_law_value", "_law_after", "_law_at", "_law_part_here", "_law_one", "_law_whole_here", "_law_held", "_law_more"] ["_law_adder", "_law_word_here", "_law_ahead", "_law_value", "_law_after", "_law_at"] (defScope s_none_stands) := ⟨rfl, rfl, rfl, by decide +kernel, rfl, by decide +kernel, by decide +kernel⟩
abbrev s_trimmed : Stmt := top 32
theorem sc_trimmed : FnScope ["_law_adder", "_law_word_here", "_law_ahead", "_law_pair", "_law_after", "_law_at", "_law_part_here", "_law_kept", "_law_value", "_law_due", "_law_found", "_law_more", "_law_other"] ["_law_adder", "_law_word_here", "_law_ahead", "_law_pair", "_law_after", "_law_at"] (defScope s_trimmed) := ⟨rfl, rfl, rfl, by decide +kernel, rfl, by decide +kernel, by decide +kernel⟩
abbrev s_law : Stmt := top 33
theorem sc_law : FnScope ["_law_script", "_law_hand", "_law_first", "_law_by", "_law_ahead", "_law_pair", "_law_some", "_law_after", "_law_at", "_law_k", "_law_word_here", "_law_adder"] ["_law_script"] (defScope s_law) := ⟨rfl, rfl, rfl, by decide +kernel, rfl, by decide +kernel, by decide +kernel⟩
def LightO (i : Nat) (A : List Int) (x : Int) : Prop := i = 0 ∨ weighB i A x = false
def trimO : Nat → List Int → Int → Option Int
  | 0, _, _ => none
  | 1, _, x => some x
  | 4, _, x => some x
  | i, A, x => if weighB i A x = true then some x else none
def spBehind (c : Nat → Addr) (i : Nat) : Sp := fun vs H Q _ => ∃ (a dx : Addr) (pv : V) (A : List Int) (o : Option Int), vs = [.ref a, pv, toV o] ∧ H a = some (.ins (c i) dx []) ∧ PartI H i A pv ∧ A.length ≤ 300 ∧ (o = none → i = 0 ∨ (A ≠ [] ∧ i ≠ 1 ∧ i ≠ 4)) ∧
  ∀ pv' H', (∀ x, (o = some x ∨ (o = none ∧ LightO i A x)) → PartI H' i (A ++ [x]) pv') → Same H H' → Q pv' H'
def spTrimmed (c : Nat → Addr) (i : Nat) : Sp := fun vs H Q _ => ∃ (a dx : Addr) (pv : V) (A : List Int) (o : Option Int), vs = [.ref a, pv, toV o] ∧ H a = some (.ins (c i) dx []) ∧ PartI H i A pv ∧ Q (toV (o.bind (trimO i A))) H
theorem ne_snoc {A : List Int} {x : Int} : A ++ [x] ≠ [] := fun z => by
  have := (List.append_eq_nil_iff.mp z).2
  cases this
theorem small {l : List Int} (h : l.length ≤ 4000) : Dn l ≤ 4000 := Nat.le_trans (Dn_le (ns := l) (ms := l) fun _ h => h) h
theorem light2 {A : List Int} {x v : Int} (h : Amt 2 A v) (hw : weighB 2 A x = false) : Amt 2 (A ++ [x]) v := by
  have hw : (A.all fun a => decide (x < a)) = false := hw
  obtain ⟨a, ma, ha⟩ := List.all_eq_false.mp hw
  have ha : a ≤ x := by
    have : ¬ (x < a) := fun z => ha (decide_eq_true z)
    omega
  refine ⟨List.mem_append_left _ h.1, fun b hb => ?_⟩
  rcases List.mem_append.mp hb with z | z
  · exact h.2 b z
  · rw [List.mem_singleton.mp z]
    exact Int.le_trans (h.2 a ma) ha
theorem light3 {A : List Int} {x v : Int} (h : Amt 3 A v) (hw : weighB 3 A x = false) : Amt 3 (A ++ [x]) v := by
  have hw : (A.all fun a => decide (a < x)) = false := hw
  obtain ⟨a, ma, ha⟩ := List.all_eq_false.mp hw
  have ha : x ≤ a := by
    have : ¬ (a < x) := fun z => ha (decide_eq_true z)
    omega
  refine ⟨List.mem_append_left _ h.1, fun b hb => ?_⟩
  rcases List.mem_append.mp hb with z | z
  · exact h.2 b z
  · rw [List.mem_singleton.mp z]
    exact Int.le_trans ha (h.2 a ma)
theorem light5 {A : List Int} {x : Int} (hw : weighB 5 A x = false) : x ∈ A := by
  have hw : (!A.contains x) = false := hw
  simpa using hw
section
variable {P : Program} {w : World} {K : PySem.W.Frag} {mg : Str → Option Value} {base : Heap} {C : Addr} {f : Addr} {fd : FuncData} {c : Nat → Addr} {S : Addr}
theorem ok_b0 (T : Txt mg) (L : MLk K C "behind" "Count.behind" s_Count_behind ["self", "part", "value"] f fd) : MCallee P w K mg base C "behind" ["self", "part", "value"] 4 (spBehind c 0) := by
  refine L.callee (L.F.ok sc_Count_behind (fun vs H Q E h => ?_) (fun cdv A outer s H vs Q E hr h => ?_))
  · obtain ⟨a, dx, pv, B, o, rfl, _⟩ := h
    rfl
  · obtain ⟨a, dx, pv, B, o, rfl, ha, hp, lB, ho, k⟩ := h
    have hqq : QB ((cxOf CX0 P w K mg base ["self", "part", "value"] "Count.behind" (defScope s_Count_behind) f cdv A outer s H E).nox) (defBody s_Count_behind) _ := (qb_one (qs_ret (qe_op op_add (qe_orG (qv 1) (qe_one qe_int)) qe_int)))
    (with_reducible refine ⟨_, hqq.p, ?_⟩)
    have fin : ∀ v : Int, v = ((B.length + 1 : Nat) : Int) → Q (.int v) H := fun v e => k _ H (fun x _ => .inr ⟨ne_snoc, .inl ⟨by decide, v, rfl, by show v = ((B ++ [x]).length : Nat); rw [List.length_append, e]; rfl⟩⟩) (Same.refl' H)
    rcases hp.num (by decide) with ⟨rfl, rfl⟩ | ⟨b0, v, rfl, am⟩
    · exact ⟨_, rfl, false, rfl, iteF ⟨_, _, rfl, rfl, fin _ rfl⟩⟩
    · have e : v = B.length := am
      have hl0 := List.length_pos_iff.mpr b0
      have tv : (v != 0) = true := by rw [bne_iff_ne]; omega
      exact ⟨_, rfl, true, tv.symm, iteT ⟨_, _, rfl, rfl, fin _ (by show v + 1 = _; omega)⟩⟩
theorem ok_b1 (T : Txt mg) (L : MLk K C "behind" "Total.behind" s_Total_behind ["self", "part", "value"] f fd) : MCallee P w K mg base C "behind" ["self", "part", "value"] 4 (spBehind c 1) := by
  refine L.callee (L.F.ok sc_Total_behind (fun vs H Q E h => ?_) (fun cdv A outer s H vs Q E hr h => ?_))
  · obtain ⟨a, dx, pv, B, o, rfl, _⟩ := h
    rfl
  · obtain ⟨a, dx, pv, B, o, rfl, ha, hp, lB, ho, k⟩ := h
    have hqq : QB ((cxOf CX0 P w K mg base ["self", "part", "value"] "Total.behind" (defScope s_Total_behind) f cdv A outer s H E).nox) (defBody s_Total_behind) _ := (qb_one (qs_ret (qe_op op_add (qe_orG (qv 1) (qe_one qe_int)) (qv 2))))
    (with_reducible refine ⟨_, hqq.p, ?_⟩)
    obtain ⟨x, rfl⟩ : ∃ x, o = some x := by
      cases o with
      | none =>
        rcases ho rfl with z | ⟨_, z1, z4⟩
        · exact absurd z (by decide)
        · first | exact absurd rfl z1 | exact absurd rfl z4
      | some x => exact ⟨x, rfl⟩
    have fin : ∀ v : Int, Amt 1 (B ++ [x]) v → Q (.int v) H := fun v h => k _ H (fun y hy => by
      rcases hy with hy | hy
      · cases hy; exact .inr ⟨ne_snoc, .inl ⟨by decide, v, rfl, h⟩⟩
      · cases hy.1) (Same.refl' H)
    rcases hp.num (by decide) with ⟨rfl, rfl⟩ | ⟨b0, v, rfl, am⟩
    · refine ⟨_, rfl, false, rfl, iteF ⟨_, rfl, _, _, rfl, rfl, fin _ ?_⟩⟩
      show 0 + x = ([] ++ [x]).sum
      simp
    · have e : v = B.sum := am
      have fi : Amt 1 (B ++ [x]) (v + x) := by show v + x = (B ++ [x]).sum; rw [List.sum_append, e]; simp
      refine ⟨_, rfl, (v != 0), rfl, ite2 (fun _ => ?_) (fun z => ?_)⟩
      · exact ⟨_, rfl, _, _, rfl, rfl, fin _ fi⟩
      · have z : v = 0 := by simpa using z
        rw [z] at fi
        exact ⟨_, rfl, _, _, rfl, rfl, fin _ fi⟩
theorem ok_b4 (T : Txt mg) (L : MLk K C "behind" "Last.behind" s_Last_behind ["self", "part", "value"] f fd) : MCallee P w K mg base C "behind" ["self", "part", "value"] 4 (spBehind c 4) := by
  refine L.callee (L.F.ok sc_Last_behind (fun vs H Q E h => ?_) (fun cdv A outer s H vs Q E hr h => ?_))
  · obtain ⟨a, dx, pv, B, o, rfl, _⟩ := h
    rfl
  · obtain ⟨a, dx, pv, B, o, rfl, ha, hp, lB, ho, k⟩ := h
    have hqq : QB ((cxOf CX0 P w K mg base ["self", "part", "value"] "Last.behind" (defScope s_Last_behind) f cdv A outer s H E).nox) (defBody s_Last_behind) _ := (qb_one (qs_ret (qv 2)))
    (with_reducible refine ⟨_, hqq.p, ?_⟩)
    obtain ⟨x, rfl⟩ : ∃ x, o = some x := by
      cases o with
      | none =>
        rcases ho rfl with z | ⟨_, z1, z4⟩
        · exact absurd z (by decide)
        · first | exact absurd rfl z1 | exact absurd rfl z4
      | some x => exact ⟨x, rfl⟩
    exact ⟨_, rfl, k _ H (fun y hy => by
      rcases hy with hy | hy
      · cases hy; exact .inr ⟨ne_snoc, .inl ⟨by decide, _, rfl, List.getLast?_concat⟩⟩
      · cases hy.1) (Same.refl' H)⟩
theorem ok_b2 (T : Txt mg) (FS : Fam P w K mg base c 6 "shown" ["self", "part", "values"] 3 spShown) (L : MLk K C "behind" "Least.behind" s_Least_behind ["self", "part", "value"] f fd) : MCallee P w K mg base C "behind" ["self", "part", "value"] 4 (spBehind c 2) := by
  refine L.callee (L.F.ok sc_Least_behind (fun vs H Q E h => ?_) (fun cdv A outer s H vs Q E hr h => ?_))
  · obtain ⟨a, dx, pv, B, o, rfl, _⟩ := h
    rfl
  · obtain ⟨a, dx, pv, B, o, rfl, ha, hp, lB, ho, k⟩ := h
    have hqq : QB ((cxOf CX0 P w K mg base ["self", "part", "value"] "Least.behind" (defScope s_Least_behind) f cdv A outer s H E).nox) (defBody s_Least_behind) _ := (qb_one (qs_ret (qe_fam (qv 0) FS (hr.mono (by first | decide | omega)) (qa_cn (qv 1) (qa_cn (qe_lst (qa_cn (qv 2) qa_nil)) qa_nil)))))
    (with_reducible refine ⟨_, hqq.p, ?_⟩)
    refine ⟨_, rfl, 2, a, dx, [], by decide, rfl, ha, rfl, _, rfl, _, rfl, (by show 1 ≤ sizeLine; decide), fun e he => ?_⟩
    have s1 := Same.new (.lst [toV o]) he
    have ne : B ++ [o].filterMap id ≠ [] := fun z => by
      obtain ⟨z1, z2⟩ := List.append_eq_nil_iff.mp z
      cases o with
      | none =>
        rcases ho rfl with y | ⟨y, _⟩
        · exact absurd y (by decide)
        · exact y z1
      | some x => cases z2
    have len : (B ++ [o].filterMap id).length ≤ 4000 := by
      have := List.length_filterMap_le id [o]
      rw [List.length_append]
      simp at this
      omega
    refine ⟨a, pv, B, e, [o], rfl, hp.mono s1, upd_same, (fun z => absurd z (by decide)), by omega, (by show 1 ≤ 400; decide), .inr ne, small len, fun v H2 av s2 => k _ H2 (fun x hx => ?_) (s1.trans s2)⟩
    refine .inr ⟨ne_snoc, .inl ⟨by decide, v, rfl, ?_⟩⟩
    have av : Amt 2 (B ++ [o].filterMap id) v := av
    rcases hx with rfl | ⟨rfl, hx⟩
    · exact av
    · have av : Amt 2 (B ++ []) v := av
      rw [List.append_nil] at av
      exact light2 av (hx.resolve_left (by decide))
theorem ok_b3 (T : Txt mg) (FS : Fam P w K mg base c 6 "shown" ["self", "part", "values"] 3 spShown) (L : MLk K C "behind" "Greatest.behind" s_Greatest_behind ["self", "part", "value"] f fd) : MCallee P w K mg base C "behind" ["self", "part", "value"] 4 (spBehind c 3) := by
  refine L.callee (L.F.ok sc_Greatest_behind (fun vs H Q E h => ?_) (fun cdv A outer s H vs Q E hr h => ?_))
  · obtain ⟨a, dx, pv, B, o, rfl, _⟩ := h
    rfl
  · obtain ⟨a, dx, pv, B, o, rfl, ha, hp, lB, ho, k⟩ := h
    have hqq : QB ((cxOf CX0 P w K mg base ["self", "part", "value"] "Greatest.behind" (defScope s_Greatest_behind) f cdv A outer s H E).nox) (defBody s_Greatest_behind) _ := (qb_one (qs_ret (qe_fam (qv 0) FS (hr.mono (by first | decide | omega)) (qa_cn (qv 1) (qa_cn (qe_lst (qa_cn (qv 2) qa_nil)) qa_nil)))))
    (with_reducible refine ⟨_, hqq.p, ?_⟩)
    refine ⟨_, rfl, 3, a, dx, [], by decide, rfl, ha, rfl, _, rfl, _, rfl, (by show 1 ≤ sizeLine; decide), fun e he => ?_⟩
    have s1 := Same.new (.lst [toV o]) he
    have ne : B ++ [o].filterMap id ≠ [] := fun z => by
      obtain ⟨z1, z2⟩ := List.append_eq_nil_iff.mp z
      cases o with
      | none =>
        rcases ho rfl with y | ⟨y, _⟩
        · exact absurd y (by decide)
        · exact y z1
      | some x => cases z2
    have len : (B ++ [o].filterMap id).length ≤ 4000 := by
      have := List.length_filterMap_le id [o]
      rw [List.length_append]
      simp at this
      omega
    refine ⟨a, pv, B, e, [o], rfl, hp.mono s1, upd_same, (fun z => absurd z (by decide)), by omega, (by show 1 ≤ 400; decide), .inr ne, small len, fun v H2 av s2 => k _ H2 (fun x hx => ?_) (s1.trans s2)⟩
    refine .inr ⟨ne_snoc, .inl ⟨by decide, v, rfl, ?_⟩⟩
    have av : Amt 3 (B ++ [o].filterMap id) v := av
    rcases hx with rfl | ⟨rfl, hx⟩
    · exact av
    · have av : Amt 3 (B ++ []) v := av
      rw [List.append_nil] at av
      exact light3 av (hx.resolve_left (by decide))
theorem fold_perm {A ks : List Int} {o : Option Int} (x : Int) (pm : ks.Perm (A.foldl addK [])) (hx : o = some x ∨ (o = none ∧ x ∈ A)) : ((ks ++ [o].filterMap id).foldl addK []).Perm ((A ++ [x]).foldl addK []) := by
  refine (List.perm_ext_iff_of_nodup (fold_nodup _ List.nodup_nil) (fold_nodup _ List.nodup_nil)).mpr fun y => ?_
  rw [fold_mem, fold_mem, List.mem_append, List.mem_append, pm.mem_iff, fold_mem]
  rcases hx with rfl | ⟨rfl, hx⟩
  · simp
  · simp only [List.filterMap_cons, id, List.filterMap_nil, List.not_mem_nil, false_or, or_false, List.mem_singleton]
    exact ⟨.inl, fun z => z.elim id fun z => by rw [z]; exact hx⟩
theorem ok_b5 (T : Txt mg) (C_unlike_values : Callee P w K mg base "unlike_values" ["part", "values"] 2 spUnlike) (L : MLk K C "behind" "Unlike.behind" s_Unlike_behind ["self", "part", "value"] f fd) : MCallee P w K mg base C "behind" ["self", "part", "value"] 4 (spBehind c 5) := by
  refine L.callee (L.F.ok sc_Unlike_behind (fun vs H Q E h => ?_) (fun cdv A outer s H vs Q E hr h => ?_))
  · obtain ⟨a, dx, pv, B, o, rfl, _⟩ := h
    rfl
  · obtain ⟨a, dx, pv, B, o, rfl, ha, hp, lB, ho, k⟩ := h
    have hqq : QB ((cxOf CX0 P w K mg base ["self", "part", "value"] "Unlike.behind" (defScope s_Unlike_behind) f cdv A outer s H E).nox) (defBody s_Unlike_behind) _ := (qb_one (qs_ret (qe_callTy call_tuple_of (by rfl) T.tuple boot_tuple (qa_cn (qe_callee C_unlike_values (hr.mono (by first | decide | omega)) (by rfl) (qa_cn (qv 1) (qa_cn (qe_lst (qa_cn (qv 2) qa_nil)) qa_nil))) qa_nil))))
    (with_reducible refine ⟨_, hqq.p, ?_⟩)
    refine ⟨_, rfl, _, rfl, (by show 1 ≤ sizeLine; decide), fun e he => ?_⟩
    have s1 := Same.new (.lst [toV o]) he
    have l1 := List.length_filterMap_le id [o]
    simp only [List.length_cons, List.length_nil] at l1
    rcases hp.tup with ⟨rfl, rfl⟩ | ⟨b0, t, ks, rfl, ht, pm, so⟩
    · refine ⟨.non, [], e, [o], rfl, .inl ⟨rfl, rfl⟩, upd_same, (by show 1 ≤ 400; decide), (by show 0 ≤ 400; decide), small (by rw [List.nil_append]; omega), fun q ms H2 hq hk hs s2 => ⟨q, _, rfl, .inl ⟨SqL.of hq, fun t2 ht2 => ?_⟩⟩⟩
      refine k _ _ (fun x hx => .inr ⟨ne_snoc, .inr ⟨by decide, t2, ms, rfl, upd_same, ?_, hs⟩⟩) ((s1.trans s2).trans (Same.new _ ht2))
      rcases hx with rfl | ⟨rfl, hx⟩
      · exact hk
      · have := light5 (hx.resolve_left (by decide))
        cases this
    · have hkl : ks.length ≤ 300 := by
        have := pm.length_eq
        have := fold_len B []
        simp at this
        omega
      refine ⟨.ref t, ks, e, [o], rfl, .inr ⟨t, rfl, s1 _ _ ht⟩, upd_same, (by show 1 ≤ 400; decide), by omega, small (by rw [List.length_append]; omega), fun q ms H2 hq hk hs s2 => ⟨q, _, rfl, .inl ⟨SqL.of hq, fun t2 ht2 => ?_⟩⟩⟩
      refine k _ _ (fun x hx => .inr ⟨ne_snoc, .inr ⟨by decide, t2, ms, rfl, upd_same, hk.trans (fold_perm x pm ?_), hs⟩⟩) ((s1.trans s2).trans (Same.new _ ht2))
      exact hx.imp id fun z => ⟨z.1, light5 (z.2.resolve_left (by decide))⟩
theorem ok_t0 (T : Txt mg) (L : MLk K C "trimmed" "Count.trimmed" s_Count_trimmed ["self", "part", "value"] f fd) : MCallee P w K mg base C "trimmed" ["self", "part", "value"] 4 (spTrimmed c 0) := by
  refine L.callee (L.F.ok sc_Count_trimmed (fun vs H Q E h => ?_) (fun cdv A outer s H vs Q E hr h => ?_))
  · obtain ⟨a, dx, pv, B, o, rfl, _⟩ := h
    rfl
  · obtain ⟨a, dx, pv, B, o, rfl, ha, hp, k⟩ := h
    have hqq : QB ((cxOf CX0 P w K mg base ["self", "part", "value"] "Count.trimmed" (defScope s_Count_trimmed) f cdv A outer s H E).nox) (defBody s_Count_trimmed) _ := (qb_one (qs_ret qe_non))
    (with_reducible refine ⟨_, hqq.p, ?_⟩)
    cases o with
    | none => exact k
    | some x => exact k
theorem ok_t1 (T : Txt mg) (L : MLk K C "trimmed" "Total.trimmed" s_Total_trimmed ["self", "part", "value"] f fd) : MCallee P w K mg base C "trimmed" ["self", "part", "value"] 4 (spTrimmed c 1) := by
  refine L.callee (L.F.ok sc_Total_trimmed (fun vs H Q E h => ?_) (fun cdv A outer s H vs Q E hr h => ?_))
  · obtain ⟨a, dx, pv, B, o, rfl, _⟩ := h
    rfl
  · obtain ⟨a, dx, pv, B, o, rfl, ha, hp, k⟩ := h
    have hqq : QB ((cxOf CX0 P w K mg base ["self", "part", "value"] "Total.trimmed" (defScope s_Total_trimmed) f cdv A outer s H E).nox) (defBody s_Total_trimmed) _ := (qb_one (qs_ret (qv 2)))
    (with_reducible refine ⟨_, hqq.p, ?_⟩)
    cases o with
    | none => exact ⟨_, rfl, k⟩
    | some x => exact ⟨_, rfl, k⟩
theorem ok_t4 (T : Txt mg) (L : MLk K C "trimmed" "Last.trimmed" s_Last_trimmed ["self", "part", "value"] f fd) : MCallee P w K mg base C "trimmed" ["self", "part", "value"] 4 (spTrimmed c 4) := by
  refine L.callee (L.F.ok sc_Last_trimmed (fun vs H Q E h => ?_) (fun cdv A outer s H vs Q E hr h => ?_))
  · obtain ⟨a, dx, pv, B, o, rfl, _⟩ := h
    rfl
  · obtain ⟨a, dx, pv, B, o, rfl, ha, hp, k⟩ := h
    have hqq : QB ((cxOf CX0 P w K mg base ["self", "part", "value"] "Last.trimmed" (defScope s_Last_trimmed) f cdv A outer s H E).nox) (defBody s_Last_trimmed) _ := (qb_one (qs_ret (qv 2)))
    (with_reducible refine ⟨_, hqq.p, ?_⟩)
    cases o with
    | none => exact ⟨_, rfl, k⟩
    | some x => exact ⟨_, rfl, k⟩
theorem ok_t2 (T : Txt mg) (FG : Fam P w K mg base c 6 "weighs" ["self", "part", "value"] 3 spWeighs) (L : MLk K C "trimmed" "Least.trimmed" s_Least_trimmed ["self", "part", "value"] f fd) : MCallee P w K mg base C "trimmed" ["self", "part", "value"] 4 (spTrimmed c 2) := by
  refine L.callee (L.F.ok sc_Least_trimmed (fun vs H Q E h => ?_) (fun cdv A outer s H vs Q E hr h => ?_))
  · obtain ⟨a, dx, pv, B, o, rfl, _⟩ := h
    rfl
  · obtain ⟨a, dx, pv, B, o, rfl, ha, hp, k⟩ := h
    have hqq : QB ((cxOf CX0 P w K mg base ["self", "part", "value"] "Least.trimmed" (defScope s_Least_trimmed) f cdv A outer s H E).nox) (defBody s_Least_trimmed) _ := (qb_one (qs_ret (qe_ifExp (qw_pt (qw_and (qt_cmpR op_notN (qv 2) qe_non (nomark _)) (qw_and1 (qt_val (qe_fam (qv 0) FG (hr.mono (by first | decide | omega)) (qa_cn (qv 1) (qa_cn (qv 2) qa_nil))))))) (qv 2) qe_non)))
    (with_reducible refine ⟨_, hqq.p, ?_⟩)
    cases o with
    | none => exact ⟨_, rfl, rfl, _, rfl, iteF (iteF k)⟩
    | some x =>
      refine ⟨_, rfl, rfl, _, rfl, iteT ⟨_, rfl, 2, a, dx, [], by decide, rfl, ha, rfl, _, rfl, _, rfl, a, pv, B, x, rfl, hp, ?_⟩⟩
      have k : Q (toV (if weighB 2 B x = true then some x else none)) H := k
      cases e : weighB 2 B x with
      | true => rw [e] at k; exact ⟨true, rfl, iteT ⟨_, rfl, k⟩⟩
      | false => rw [e] at k; exact ⟨false, rfl, iteF k⟩
theorem ok_t3 (T : Txt mg) (FG : Fam P w K mg base c 6 "weighs" ["self", "part", "value"] 3 spWeighs) (L : MLk K C "trimmed" "Greatest.trimmed" s_Greatest_trimmed ["self", "part", "value"] f fd) : MCallee P w K mg base C "trimmed" ["self", "part", "value"] 4 (spTrimmed c 3) := by
  refine L.callee (L.F.ok sc_Greatest_trimmed (fun vs H Q E h => ?_) (fun cdv A outer s H vs Q E hr h => ?_))
  · obtain ⟨a, dx, pv, B, o, rfl, _⟩ := h
    rfl
  · obtain ⟨a, dx, pv, B, o, rfl, ha, hp, k⟩ := h
    have hqq : QB ((cxOf CX0 P w K mg base ["self", "part", "value"] "Greatest.trimmed" (defScope s_Greatest_trimmed) f cdv A outer s H E).nox) (defBody s_Greatest_trimmed) _ := (qb_one (qs_ret (qe_ifExp (qw_pt (qw_and (qt_cmpR op_notN (qv 2) qe_non (nomark _)) (qw_and1 (qt_val (qe_fam (qv 0) FG (hr.mono (by first | decide | omega)) (qa_cn (qv 1) (qa_cn (qv 2) qa_nil))))))) (qv 2) qe_non)))
    (with_reducible refine ⟨_, hqq.p, ?_⟩)
    cases o with
    | none => exact ⟨_, rfl, rfl, _, rfl, iteF (iteF k)⟩
    | some x =>
      refine ⟨_, rfl, rfl, _, rfl, iteT ⟨_, rfl, 3, a, dx, [], by decide, rfl, ha, rfl, _, rfl, _, rfl, a, pv, B, x, rfl, hp, ?_⟩⟩
      have k : Q (toV (if weighB 3 B x = true then some x else none)) H := k
      cases e : weighB 3 B x with
      | true => rw [e] at k; exact ⟨true, rfl, iteT ⟨_, rfl, k⟩⟩
      | false => rw [e] at k; exact ⟨false, rfl, iteF k⟩
theorem ok_t5 (T : Txt mg) (FG : Fam P w K mg base c 6 "weighs" ["self", "part", "value"] 3 spWeighs) (L : MLk K C "trimmed" "Unlike.trimmed" s_Unlike_trimmed ["self", "part", "value"] f fd) : MCallee P w K mg base C "trimmed" ["self", "part", "value"] 4 (spTrimmed c 5) := by
  refine L.callee (L.F.ok sc_Unlike_trimmed (fun vs H Q E h => ?_) (fun cdv A outer s H vs Q E hr h => ?_))
  · obtain ⟨a, dx, pv, B, o, rfl, _⟩ := h
    rfl
  · obtain ⟨a, dx, pv, B, o, rfl, ha, hp, k⟩ := h
    have hqq : QB ((cxOf CX0 P w K mg base ["self", "part", "value"] "Unlike.trimmed" (defScope s_Unlike_trimmed) f cdv A outer s H E).nox) (defBody s_Unlike_trimmed) _ := (qb_one (qs_ret (qe_ifExp (qw_pt (qw_and (qt_cmpR op_notN (qv 2) qe_non (nomark _)) (qw_and1 (qt_val (qe_fam (qv 0) FG (hr.mono (by first | decide | omega)) (qa_cn (qv 1) (qa_cn (qv 2) qa_nil))))))) (qv 2) qe_non)))
    (with_reducible refine ⟨_, hqq.p, ?_⟩)
    cases o with
    | none => exact ⟨_, rfl, rfl, _, rfl, iteF (iteF k)⟩
    | some x =>
      refine ⟨_, rfl, rfl, _, rfl, iteT ⟨_, rfl, 5, a, dx, [], by decide, rfl, ha, rfl, _, rfl, _, rfl, a, pv, B, x, rfl, hp, ?_⟩⟩
      have k : Q (toV (if weighB 5 B x = true then some x else none)) H := k
      cases e : weighB 5 B x with
      | true => rw [e] at k; exact ⟨true, rfl, iteT ⟨_, rfl, k⟩⟩
      | false => rw [e] at k; exact ⟨false, rfl, iteF k⟩
end
end K25
end
section
set_option Elab.async false
set_option linter.all false
set_option maxRecDepth 100000
set_option maxHeartbeats 4000000
namespace K25
open PySem L2 PyProof.Rows
theorem sorted_eq {l m : List Int} (p : l.Perm m) (h1 : l.Pairwise (· ≤ ·)) (h2 : m.Pairwise (· ≤ ·)) : l = m := List.Perm.eq_of_pairwise (fun a b _ _ x y => Int.le_antisymm x y) h1 h2 p
theorem parts_eq {H : Hp} {i : Nat} {A : List Int} {pv pw : V} (hp : PartI H i A pv) (hq : PartI H i A pw) (hi : i < 6) : (pv = .non ∧ pw = .non) ∨ (∃ v, pv = .int v ∧ pw = .int v) ∨ ∃ (t u : Addr) (ks : List Int), pv = .ref t ∧ pw = .ref u ∧ H t = some (.tup (ks.map V.int)) ∧ H u = some (.tup (ks.map V.int)) ∧ ks.length ≤ A.length := by
  rcases hp with ⟨a0, rfl⟩ | ⟨a0, ⟨i5, v, rfl, av⟩ | ⟨i5, t, ks, rfl, ht, pm, so⟩⟩
  · rcases hq with ⟨_, rfl⟩ | ⟨b0, _⟩
    · exact .inl ⟨rfl, rfl⟩
    · exact absurd a0 b0
  · rcases hq with ⟨b0, _⟩ | ⟨_, ⟨_, u, rfl, au⟩ | ⟨j5, _⟩⟩
    · exact absurd b0 a0
    · rw [av.uniq au]
      exact .inr (.inl ⟨u, rfl, rfl⟩)
    · omega
  · rcases hq with ⟨b0, _⟩ | ⟨_, ⟨j5, _⟩ | ⟨_, u, ms, rfl, hu, pm2, so2⟩⟩
    · exact absurd b0 a0
    · omega
    · have e : ms = ks := sorted_eq (pm2.trans pm.symm) so2 so
      subst e
      refine .inr (.inr ⟨t, u, ms, rfl, rfl, ht, hu, ?_⟩)
      have := pm.length_eq
      have := fold_len A []
      simp at this
      omega
def EqP (H : Hp) (pv pw : V) : Prop := (pv = .non ∧ pw = .non) ∨ (∃ v, pv = .int v ∧ pw = .int v) ∨ ∃ (t u : Addr) (ks : List Int), pv = .ref t ∧ pw = .ref u ∧ H t = some (.tup (ks.map V.int)) ∧ H u = some (.tup (ks.map V.int)) ∧ ks.length ≤ 400
theorem EqP.of {H : Hp} {i : Nat} {A : List Int} {pv pw : V} (hp : PartI H i A pv) (hq : PartI H i A pw) (hi : i < 6) (l : A.length ≤ 400) : EqP H pv pw := by
  rcases parts_eq hp hq hi with h | h | ⟨t, u, ks, e1, e2, h1, h2, h3⟩
  · exact .inl h
  · exact .inr (.inl h)
  · exact .inr (.inr ⟨t, u, ks, e1, e2, h1, h2, Nat.le_trans h3 l⟩)
theorem EqP.opt {H : Hp} : ∀ o : Option Int, EqP H (toV o) (toV o)
  | none => .inl ⟨rfl, rfl⟩
  | some v => .inr (.inl ⟨v, rfl, rfl⟩)
def spSame : Sp := fun vs H Q _ => ∃ (pv pw : V), vs = [pv, pw] ∧ EqP H pv pw ∧ ∀ H', Same H H' → Q (.bl true) H'
def spTrim : Sp := fun vs H Q _ => ∃ (i : Nat) (l : Addr) (A : List Int) (x : Int), i < 6 ∧ vs = [.str (wordAt i), .ref l, .int x] ∧ H l = some (.lst (A.map V.int)) ∧ ∀ H', Same H H' → Q (toV (trimO i A x)) H'
theorem trim_nil (x : Int) : ∀ {i : Nat}, 0 < i → i < 6 → trimO i [] x = some x
  | 0, h, _ => absurd h (by decide)
  | 1, _, _ => rfl | 2, _, _ => rfl | 3, _, _ => rfl | 4, _, _ => rfl | 5, _, _ => rfl
  | n + 6, _, h => absurd h (by omega)
theorem trim_none {A : List Int} {x : Int} : ∀ {i : Nat}, i < 6 → trimO i A x = none → i = 0 ∨ ((i = 2 ∨ i = 3 ∨ i = 5) ∧ weighB i A x = false)
  | 0, _, _ => .inl rfl
  | 1, _, h => by cases h
  | 4, _, h => by cases h
  | 2, _, h => .inr ⟨by decide, by
    have h : (if weighB 2 A x = true then some x else none) = none := h
    cases e : weighB 2 A x with
    | false => rfl
    | true => rw [e] at h; cases h⟩
  | 3, _, h => .inr ⟨by decide, by
    have h : (if weighB 3 A x = true then some x else none) = none := h
    cases e : weighB 3 A x with
    | false => rfl
    | true => rw [e] at h; cases h⟩
  | 5, _, h => .inr ⟨by decide, by
    have h : (if weighB 5 A x = true then some x else none) = none := h
    cases e : weighB 5 A x with
    | false => rfl
    | true => rw [e] at h; cases h⟩
  | n + 6, h, _ => absurd h (by omega)
theorem eqL_opts : ∀ os : List (Option Int), eqL (os.map toV) (os.map toV) = true
  | [] => rfl
  | none :: os => by
    show (true && eqL (os.map toV) (os.map toV)) = true
    rw [eqL_opts os]
    rfl
  | some n :: os => by
    show ((n == n) && eqL (os.map toV) (os.map toV)) = true
    rw [eqL_opts os]
    simp
theorem flat_opts : ∀ os : List (Option Int), (os.map toV).all flatV = true
  | [] => rfl
  | none :: os => by
    show (true && (os.map toV).all flatV) = true
    rw [flat_opts os]
    rfl
  | some n :: os => by
    show (true && (os.map toV).all flatV) = true
    rw [flat_opts os]
    rfl
section
variable {P : Program} {w : World} {K : PySem.W.Frag} {mg : Str → Option Value} {base : Heap} {C : Addr} {f : Addr} {fd : FuncData} {c : Nat → Addr} {S : Addr}
theorem ok_same (L : Lk K mg "_law_same_part" s_same_part ["_law_found", "_law_due"] f fd) (T : Txt mg) (C__law_whole : Callee P w K mg base "_law_whole" ["_law_found"] 1 spWhole) (C__law_is : Callee P w K mg base "_law_is" ["_law_found", "_law_due"] 2 spIs) : Callee P w K mg base "_law_same_part" ["_law_found", "_law_due"] 3 spSame := by
  refine L.callee (L.F.ok sc_same_part (fun vs H Q E h => ?_) (fun cdv A outer s H vs Q E hr h => ?_))
  · obtain ⟨pv, pw, rfl, _⟩ := h
    rfl
  · obtain ⟨pv, pw, rfl, hp, k⟩ := h
    have hqq : QB ((cxOf CX0 P w K mg base ["_law_found", "_law_due"] "_law_same_part" (defScope s_same_part) f cdv A outer s H E).nox) (defBody s_same_part) _ := (qb_cn (qs_if (qt_cmpR op_isN (qv 1) qe_non (nomark _)) (qb_one (qs_ret (qe_cmpR op_isN (qv 0) qe_non (nomark _)))) qb_nil)
      (qb_cn (qs_if (qt_not (qt_val (qe_callB call_isinst (by rfl) T.isinstance boot_isinstance (qa_cn (qv 1) (qa_cn (qe_bltn (v := .ty "tuple") (by rfl) T.tuple boot_tuple rfl) qa_nil))))) (qb_one (qs_ret (qe_callee C__law_is (hr.mono (by first | decide | omega)) (by rfl) (qa_cn (qv 0) (qa_cn (qv 1) qa_nil))))) qb_nil)
      (qb_one (qs_ret (qe_and (qe_callB call_isinst (by rfl) T.isinstance boot_isinstance (qa_cn (qv 0) (qa_cn (qe_bltn (v := .ty "tuple") (by rfl) T.tuple boot_tuple rfl) qa_nil))) (qe_and (qe_callB (call_all_list hr.hd) (by rfl) T.all boot_all (qa_cn (qe_comp ["_law_one"] [] [] ["_law_found", "_law_due"] (defScope s_same_part).names rfl (qi_tup (qv 0)) (fun _ _ _ _ _ => (qg_name (i := 0) (show (["_law_one"] : List Str).Nodup by decide +kernel) rfl (Or.inl rfl))) (fun _ _ _ _ _ => qts_nil) (fun _ _ _ _ _ => (qe_callee C__law_whole (hr.mono (by first | decide | omega)) (by rfl) (qa_cn (qv 0) qa_nil)))) qa_nil)) (qe_one (qe_cmpR (op_eqParts (hu0 hr)) (qv 0) (qv 1) (nomark _)))))))))
    (with_reducible refine ⟨_, hqq.p, ?_⟩)
    rcases hp with ⟨rfl, rfl⟩ | ⟨v, rfl, rfl⟩ | ⟨t, u, ks, rfl, rfl, ht, hu, lk⟩
    · exact ⟨_, rfl, rfl, _, rfl, iteT ⟨_, rfl, rfl, k H (Same.refl' H)⟩⟩
    · exact ⟨_, rfl, rfl, _, rfl, iteF ⟨_, rfl, .int v, "tuple", .type "int", false, rfl, .int v, rfl, _, rfl, iteT ⟨_, rfl, _, rfl, v, rfl, k H (Same.refl' H)⟩⟩⟩
    · refine ⟨_, rfl, rfl, _, rfl, iteF ⟨_, rfl, .ref u, "tuple", .type "tuple", true, rfl, .tup hu, rfl, _, rfl, iteF ⟨_, rfl, .ref t, "tuple", .type "tuple", true, rfl, .tup ht, rfl, _, rfl, iteT ?_⟩⟩⟩
      refine ⟨_, rfl, t, rfl, ⟨_, SqT.of ht⟩, fun D hD => ?_⟩
      refine comp_tup (K := K) (a := t) (xs := ks.map V.int) (fun m ys H' => ys = (List.replicate m true).map V.bl ∧ Same H H') ⟨rfl, Same.new _ hD⟩ (fun m ys H' _ ⟨_, s'⟩ => SqT.of (s' _ _ ht)) (fun ys H' ⟨e1, s'⟩ hD' => ?_) (fun m x ys H' hx ⟨e1, s'⟩ hD' => ?_)
      · subst e1
        refine ⟨D, List.replicate _ true, rfl, SqL.of hD', ?_⟩
        have ea : (List.replicate (ks.map V.int).length true).all id = true := by rw [List.all_replicate]; simp
        rw [ea]
        refine ⟨_, rfl, iteT ⟨_, rfl, _, rfl, .inr (.inl ⟨t, u, _, _, rfl, rfl, SqT.of (s' _ _ ht), SqT.of (s' _ _ hu), flat_ints ks, flat_ints ks, ?_⟩)⟩⟩
        rw [eqL_ints, decide_eq_true rfl]
        exact k H' s'
      · obtain ⟨v, rfl, hv⟩ := int_at hx
        have hm : m < (ks.map V.int).length := (List.getElem?_eq_some_iff.mp hx).1
        refine ⟨rfl, _, rfl, v, rfl, hD', ?_, nx hm ⟨?_, fun b o e => ?_⟩⟩
        · rw [e1, List.length_map, List.length_replicate]
          rw [List.length_map] at hm
          exact Nat.lt_of_lt_of_le hm (Nat.le_trans lk (by decide))
        · rw [e1, List.replicate_succ', List.map_append]
          rfl
        · rw [upd_ne (ne_of_none e hD)]
          exact s' _ _ e
theorem ok_trim (L : Lk K mg "_law_trim" s_trim ["_law_word_here", "_law_ahead", "_law_value"] f fd) (T : Txt mg) : Callee P w K mg base "_law_trim" ["_law_word_here", "_law_ahead", "_law_value"] 1 spTrim := by
  refine L.callee (L.F.ok sc_trim (fun vs H Q E h => ?_) (fun cdv A outer s H vs Q E hr h => ?_))
  · obtain ⟨i, l, B, x, _, rfl, _⟩ := h
    rfl
  · obtain ⟨i, l, B, x, hi, rfl, hl, k⟩ := h
    have hqq : QB ((cxOf CX0 P w K mg base ["_law_word_here", "_law_ahead", "_law_value"] "_law_trim" (defScope s_trim) f cdv A outer s H E).nox) (defBody s_trim) _ := (qb_cn (qs_if (qt_cmpR op_eq (qv 0) qe_str (nomark _)) (qb_one (qs_ret qe_non)) qb_nil)
      (qb_cn (qs_if (qw_pt (qw_or (qt_cmpR (op_eqL (hu0 hr)) (qv 1) (qe_lst qa_nil) (nomark _)) (qw_or (qt_cmpR op_eq (qv 0) qe_str (nomark _)) (qw_or1 (qt_cmpR op_eq (qv 0) qe_str (nomark _)))))) (qb_one (qs_ret (qv 2))) qb_nil)
      (qb_cn (qs_if (qw_pt (qw_and (qt_cmpR op_eq (qv 0) qe_str (nomark _)) (qw_and1 (qt_cmpR op_ge (qv 2) (qe_callB (call_min_list hr.hd) (by rfl) T.min boot_min (qa_cn (qv 1) qa_nil)) (nomark _))))) (qb_one (qs_ret qe_non)) qb_nil)
      (qb_cn (qs_if (qw_pt (qw_and (qt_cmpR op_eq (qv 0) qe_str (nomark _)) (qw_and1 (qt_cmpR op_le (qv 2) (qe_callB (call_max_list hr.hd) (by rfl) T.max boot_max (qa_cn (qv 1) qa_nil)) (nomark _))))) (qb_one (qs_ret qe_non)) qb_nil)
      (qb_cn (qs_if (qw_pt (qw_and (qt_cmpR op_eq (qv 0) qe_str (nomark _)) (qw_and1 (qt_cmpR op_in_seq (qv 2) (qv 1) rfl)))) (qb_one (qs_ret qe_non)) qb_nil)
      (qb_one (qs_ret (qv 2))))))))
    (with_reducible refine ⟨_, hqq.p, ?_⟩)
    have go : ∀ e (he : H e = none), Same H (upd H e (.lst [])) := fun e he => Same.new _ he
    match i, hi, k with
    | 0, _, k => exact ⟨_, rfl, rfl, _, rfl, iteT (k H (Same.refl' H))⟩
    | 1, hi, k =>
      refine ⟨_, rfl, rfl, _, rfl, iteF ⟨_, rfl, Nat.zero_le _, fun e he => ⟨l, e, _, _, rfl, rfl, SqL.of (Same.new _ he _ _ hl), SqL.of upd_same, flat_ints B, flat_ints [], _, rfl, ?_⟩⟩⟩
      show (if eqL (B.map V.int) (([] : List Int).map V.int) = true then _ else _)
      rw [eqL_ints]
      exact ite2 (fun _ => iteT ⟨_, rfl, k _ (go e he)⟩) (fun _ => ⟨_, rfl, rfl, _, rfl, iteT (iteT ⟨_, rfl, k _ (go e he)⟩)⟩)
    | 4, hi, k =>
      refine ⟨_, rfl, rfl, _, rfl, iteF ⟨_, rfl, Nat.zero_le _, fun e he => ⟨l, e, _, _, rfl, rfl, SqL.of (Same.new _ he _ _ hl), SqL.of upd_same, flat_ints B, flat_ints [], _, rfl, ?_⟩⟩⟩
      show (if eqL (B.map V.int) (([] : List Int).map V.int) = true then _ else _)
      rw [eqL_ints]
      exact ite2 (fun _ => iteT ⟨_, rfl, k _ (go e he)⟩) (fun _ => ⟨_, rfl, rfl, _, rfl, iteF ⟨_, rfl, rfl, _, rfl, iteT ⟨_, rfl, k _ (go e he)⟩⟩⟩)
    | 2, hi, k =>
      refine ⟨_, rfl, rfl, _, rfl, iteF ⟨_, rfl, Nat.zero_le _, fun e he => ⟨l, e, _, _, rfl, rfl, SqL.of (Same.new _ he _ _ hl), SqL.of upd_same, flat_ints B, flat_ints [], _, rfl, ?_⟩⟩⟩
      show (if eqL (B.map V.int) (([] : List Int).map V.int) = true then _ else _)
      rw [eqL_ints]
      have k := k _ (go e he)
      have hl1 := go e he _ _ hl
      by_cases b0 : B = []
      · rw [decide_eq_true b0]
        rw [b0, trim_nil x (by decide) hi] at k
        exact iteT (iteT ⟨_, rfl, k⟩)
      rw [decide_eq_false b0]
      refine iteF ⟨_, rfl, rfl, _, rfl, iteF ⟨_, rfl, rfl, _, rfl, iteF ⟨_, rfl, rfl, _, rfl, iteT ⟨_, rfl, _, rfl, l, B, rfl, SqL.of hl1, b0, fun M m1 m2 => ⟨_, _, rfl, rfl, _, rfl, ?_⟩⟩⟩⟩⟩
      have k : Q (toV (if weighB 2 B x = true then some x else none)) _ := k
      rw [show weighB 2 B x = decide (x < M) from all_lt ⟨m1, m2⟩] at k
      by_cases h : x < M
      · rw [if_pos (decide_eq_true h)] at k
        rw [decide_eq_false (show ¬ M ≤ x by omega)]
        exact iteF ⟨_, rfl, rfl, _, rfl, iteF (iteF ⟨_, rfl, rfl, _, rfl, iteF (iteF ⟨_, rfl, k⟩)⟩)⟩
      · rw [if_neg (show ¬ (decide (x < M) = true) by rw [decide_eq_true_iff]; exact h)] at k
        rw [decide_eq_true (show M ≤ x by omega)]
        exact iteT k
    | 3, hi, k =>
      refine ⟨_, rfl, rfl, _, rfl, iteF ⟨_, rfl, Nat.zero_le _, fun e he => ⟨l, e, _, _, rfl, rfl, SqL.of (Same.new _ he _ _ hl), SqL.of upd_same, flat_ints B, flat_ints [], _, rfl, ?_⟩⟩⟩
      show (if eqL (B.map V.int) (([] : List Int).map V.int) = true then _ else _)
      rw [eqL_ints]
      have k := k _ (go e he)
      have hl1 := go e he _ _ hl
      by_cases b0 : B = []
      · rw [decide_eq_true b0]
        rw [b0, trim_nil x (by decide) hi] at k
        exact iteT (iteT ⟨_, rfl, k⟩)
      rw [decide_eq_false b0]
      refine iteF ⟨_, rfl, rfl, _, rfl, iteF ⟨_, rfl, rfl, _, rfl, iteF ⟨_, rfl, rfl, _, rfl, iteF (iteF ⟨_, rfl, rfl, _, rfl, iteT ⟨_, rfl, _, rfl, l, B, rfl, SqL.of hl1, b0, fun M m1 m2 => ⟨_, _, rfl, rfl, _, rfl, ?_⟩⟩⟩)⟩⟩⟩
      have k : Q (toV (if weighB 3 B x = true then some x else none)) _ := k
      rw [show weighB 3 B x = decide (M < x) from all_gt ⟨m1, m2⟩] at k
      by_cases h : M < x
      · rw [if_pos (decide_eq_true h)] at k
        rw [decide_eq_false (show ¬ x ≤ M by omega)]
        exact iteF ⟨_, rfl, rfl, _, rfl, iteF (iteF ⟨_, rfl, k⟩)⟩
      · rw [if_neg (show ¬ (decide (M < x) = true) by rw [decide_eq_true_iff]; exact h)] at k
        rw [decide_eq_true (show x ≤ M by omega)]
        exact iteT k
    | 5, hi, k =>
      refine ⟨_, rfl, rfl, _, rfl, iteF ⟨_, rfl, Nat.zero_le _, fun e he => ⟨l, e, _, _, rfl, rfl, SqL.of (Same.new _ he _ _ hl), SqL.of upd_same, flat_ints B, flat_ints [], _, rfl, ?_⟩⟩⟩
      show (if eqL (B.map V.int) (([] : List Int).map V.int) = true then _ else _)
      rw [eqL_ints]
      have k := k _ (go e he)
      have hl1 := go e he _ _ hl
      by_cases b0 : B = []
      · rw [decide_eq_true b0]
        rw [b0, trim_nil x (by decide) hi] at k
        exact iteT (iteT ⟨_, rfl, k⟩)
      rw [decide_eq_false b0]
      refine iteF ⟨_, rfl, rfl, _, rfl, iteF ⟨_, rfl, rfl, _, rfl, iteF ⟨_, rfl, rfl, _, rfl, iteF (iteF ⟨_, rfl, rfl, _, rfl, iteF (iteF ⟨_, rfl, rfl, _, rfl, iteT ⟨_, rfl, _, rfl, l, _, rfl, .inl (SqL.of hl1), rfl, flat_ints B, _, rfl, ?_⟩⟩)⟩)⟩⟩⟩
      have k : Q (toV (if (!B.contains x) = true then some x else none)) _ := k
      rw [← inV_ints] at k
      cases h : inV (.int x) (B.map V.int) with
      | true => rw [h] at k; exact iteT k
      | false => rw [h] at k; exact iteF ⟨_, rfl, k⟩
end
end K25
end
section
set_option Elab.async false
set_option linter.all false
set_option maxRecDepth 100000
set_option maxHeartbeats 4000000
namespace K25
open PySem L2 PyProof.Rows
def spStands (c : Nat → Addr) : Sp := fun vs H Q _ => ∃ (i : Nat) (a dx la lb : Addr) (A B : List Int) (x : Int) (k : Nat), i < 6 ∧ vs = [.ref a, .str (wordAt i), .ref la, .int x, .ref lb, .int k] ∧ H a = some (.ins (c i) dx []) ∧ H la = some (.lst (A.map V.int)) ∧ H lb = some (.lst (B.map V.int)) ∧ A.length ≤ 250 ∧ B.length ≤ 10 ∧ k ≤ B.length ∧ trimO i A x = none ∧ ∀ H', Same H H' → Q (.bl true) H'
theorem Dn_eq {l m : List Int} (h : ∀ x, x ∈ l ↔ x ∈ m) : Dn l = Dn m := by
  have e : ∀ x, x ∈ l.foldl addK [] ↔ x ∈ m.foldl addK [] := fun x => by
    rw [fold_mem, fold_mem, h x]
  exact Nat.le_antisymm (len_of_sub (fold_nodup _ List.nodup_nil) fun x h => (e x).mp h) (len_of_sub (fold_nodup _ List.nodup_nil) fun x h => (e x).mpr h)
theorem light_mem {i : Nat} {A L M : List Int} {x v u : Int} (hi : i = 2 ∨ i = 3 ∨ i = 5) (hw : weighB i A x = false) (mb : ∀ y, y ∈ M ↔ y = x ∨ y ∈ L) (hA : ∀ a ∈ A, a ∈ L) (hv : Amt i M v) (hu : Amt i L u) : v = u := by
  rcases hi with rfl | rfl | rfl
  · have hw : (A.all fun a => decide (x < a)) = false := hw
    obtain ⟨a, ma, ha⟩ := List.all_eq_false.mp hw
    have ha : a ≤ x := by
      have : ¬ (x < a) := fun z => ha (decide_eq_true z)
      omega
    refine Int.le_antisymm (hv.2 u ((mb u).mpr (.inr hu.1))) ?_
    rcases (mb v).mp hv.1 with z | z
    · rw [z]
      exact Int.le_trans (hu.2 a (hA a ma)) ha
    · exact hu.2 v z
  · have hw : (A.all fun a => decide (a < x)) = false := hw
    obtain ⟨a, ma, ha⟩ := List.all_eq_false.mp hw
    have ha : x ≤ a := by
      have : ¬ (a < x) := fun z => ha (decide_eq_true z)
      omega
    refine Int.le_antisymm ?_ (hv.2 u ((mb u).mpr (.inr hu.1)))
    rcases (mb v).mp hv.1 with z | z
    · rw [z]
      exact Int.le_trans ha (hu.2 a (hA a ma))
    · exact hu.2 v z
  · have mx := light5 hw
    have hv : v = Dn M := hv
    have hu : u = Dn L := hu
    rw [hv, hu, Dn_eq fun y => ?_]
    rw [mb y]
    constructor
    · rintro (z | z)
      · rw [z]; exact hA x mx
      · exact z
    · exact .inr
theorem light_ne {i : Nat} {A : List Int} {x : Int} (hi : i < 6) (h : weighB i A x = false) : A ≠ [] := fun z => by
  rw [z, weigh_nil x hi] at h
  cases h
theorem weigh_more {i : Nat} {A B : List Int} {x : Int} (hi : i = 2 ∨ i = 3 ∨ i = 5) (h : weighB i A x = false) : weighB i (A ++ B) x = false := by
  rcases hi with rfl | rfl | rfl
  · have h : (A.all fun a => decide (x < a)) = false := h
    show ((A ++ B).all fun a => decide (x < a)) = false
    rw [List.all_append, h]
    rfl
  · have h : (A.all fun a => decide (a < x)) = false := h
    show ((A ++ B).all fun a => decide (a < x)) = false
    rw [List.all_append, h]
    rfl
  · have h := light5 h
    show (!(A ++ B).contains x) = false
    simp [h]
def gaps (B : List Int) (k : Nat) : List (Option Int) := (B.take k).map some ++ [none] ++ (B.drop k).map some ++ [none]
theorem gaps_val (B : List Int) (k : Nat) : (B.take k).map V.int ++ [V.non] ++ (B.drop k).map V.int ++ [V.non] = (gaps B k).map toV := by
  have h := fun l : List Int => (some_map l).1
  unfold gaps
  rw [h, h]
  simp only [List.map_append, List.map_cons, List.map_nil]
  rfl
theorem gaps_len (B : List Int) {k : Nat} (h : k ≤ B.length) : (gaps B k).length = B.length + 2 := by
  unfold gaps
  simp only [List.length_append, List.length_map, List.length_take, List.length_drop, List.length_cons, List.length_nil]
  omega
theorem gaps_some (B : List Int) (k : Nat) : (gaps B k).filterMap id = B := by
  have h := fun l : List Int => (some_map l).2
  unfold gaps
  rw [List.filterMap_append, List.filterMap_append, List.filterMap_append, h, h]
  simp
section
variable {P : Program} {w : World} {K : PySem.W.Frag} {mg : Str → Option Value} {base : Heap} {C : Addr} {f : Addr} {fd : FuncData} {c : Nat → Addr} {S : Addr}
theorem ok_stands (L : Lk K mg "_law_none_stands" s_none_stands ["_law_adder", "_law_word_here", "_law_ahead", "_law_value", "_law_after", "_law_at"] f fd) (T : Txt mg) (FB : Fam P w K mg base c 6 "behind" ["self", "part", "value"] 4 (spBehind c)) (FS : Fam P w K mg base c 6 "shown" ["self", "part", "values"] 3 spShown) (C__law_part : Callee P w K mg base "_law_part" ["_law_word_here", "_law_values_here"] 2 spPart)
    (C__law_amount : Callee P w K mg base "_law_amount" ["_law_word_here", "_law_values_here"] 1 spAmount) (C__law_is : Callee P w K mg base "_law_is" ["_law_found", "_law_due"] 2 spIs) (C__law_same_part : Callee P w K mg base "_law_same_part" ["_law_found", "_law_due"] 3 spSame) : Callee P w K mg base "_law_none_stands" ["_law_adder", "_law_word_here", "_law_ahead", "_law_value", "_law_after", "_law_at"] 5 (spStands c) := by
  refine L.callee (L.F.ok sc_none_stands (fun vs H Q E h => ?_) (fun cdv A outer s H vs Q E hr h => ?_))
  · obtain ⟨i, a, dx, la, lb, A, B, x, k, _, rfl, _⟩ := h
    rfl
  · obtain ⟨i, a, dx, la, lb, F, B, x, kn, hi, rfl, ha, hla, hlb, lF, lB, kn1, tn, k⟩ := h
    have tr := trim_none hi tn
    have hqq : QB ((cxOf CX0 P w K mg base ["_law_adder", "_law_word_here", "_law_ahead", "_law_value", "_law_after", "_law_at", "_law_part_here", "_law_one", "_law_whole_here", "_law_held", "_law_more"] "_law_none_stands" (defScope s_none_stands) f cdv A outer s H E).nox) (defBody s_none_stands) _ := (qb_cn (qs_set (i := 6) sc_none_stands.nd rfl (Or.inl rfl) (qe_callee C__law_part (hr.mono (by first | decide | omega)) (by rfl) (qa_cn (qv 1) (qa_cn (qv 2) qa_nil))))
      (qb_cn (qs_set (i := 7) sc_none_stands.nd rfl (Or.inl rfl) (qe_op op_cat (qe_op op_cat (qe_op op_cat (qe_slice sl_list (qv 4) qo_none (qo_some (qv 5))) (qe_lst (qa_cn qe_non qa_nil))) (qe_slice sl_list (qv 4) (qo_some (qv 5)) qo_none)) (qe_lst (qa_cn qe_non qa_nil))))
      (qb_cn (qs_set (i := 8) sc_none_stands.nd rfl (Or.inl rfl) (qe_op op_cat (qe_op op_cat (qe_op op_cat (qe_op op_cat (qv 2) (qe_slice sl_list (qv 4) qo_none (qo_some (qv 5)))) (qe_lst (qa_cn (qv 3) qa_nil))) (qe_slice sl_list (qv 4) (qo_some (qv 5)) qo_none)) (qe_lst (qa_cn (qv 3) qa_nil))))
      (qb_cn (qs_set (i := 9) sc_none_stands.nd rfl (Or.inl rfl) (qe_callTy call_list_of (by rfl) T.list boot_list (qa_cn (qv 7) qa_nil)))
      (qb_cn (qs_if (qw_pt (qw_or (qt_not (qt_val (qe_callee C__law_is (hr.mono (by first | decide | omega)) (by rfl) (qa_cn (qe_fam (qv 0) FS (hr.mono (by first | decide | omega)) (qa_cn (qv 6) (qa_cn (qv 7) qa_nil))) (qa_cn (qe_callee C__law_amount (hr.mono (by first | decide | omega)) (by rfl) (qa_cn (qv 1) (qa_cn (qv 8) qa_nil))) qa_nil))))) (qw_or1 (qt_cmpR (op_neL (hu0 hr)) (qv 7) (qv 9) (nomark _))))) (qb_one (qs_ret qe_bl)) qb_nil)
      (qb_cn (qs_for PassesOwn.never rfl (qi_list (qv 4)) (qg_name (i := 10) sc_none_stands.nd rfl (Or.inl rfl)) (qb_one (qs_set (i := 6) sc_none_stands.nd rfl (Or.inl rfl) (qe_fam (qv 0) FB (hr.mono (by first | decide | omega)) (qa_cn (qv 6) (qa_cn (qv 10) qa_nil))))))
      (qb_one (qs_ret (qe_callee C__law_same_part (hr.mono (by first | decide | omega)) (by rfl) (qa_cn (qe_fam (qv 0) FB (hr.mono (by first | decide | omega)) (qa_cn (qv 6) (qa_cn qe_non qa_nil))) (qa_cn (qe_callee C__law_part (hr.mono (by first | decide | omega)) (by rfl) (qa_cn (qv 1) (qa_cn (qe_op op_cat (qe_op op_cat (qv 2) (qv 4)) (qe_lst (qa_cn (qv 3) qa_nil))) qa_nil))) qa_nil)))))))))))
    (with_reducible refine ⟨_, hqq.p, ?_⟩)
    refine ⟨_, rfl, _, rfl, i, la, F, hi, rfl, hla, by omega, fun pv H1 hp s1 => ?_⟩
    have ec1 : cutV (B.map V.int) none (some ((kn : Nat) : Int)) = (B.take kn).map V.int := by
      rw [cut_to _ _ (by rw [List.length_map]; exact kn1), List.map_take]
    have ec2 : cutV (B.map V.int) (some ((kn : Nat) : Int)) none = (B.drop kn).map V.int := by
      rw [cut_from _ _ (by rw [List.length_map]; exact kn1), List.map_drop]
    have big : (300 : Nat) ≤ sizeLine := by decide
    have l1 : (B.take kn).length ≤ 10 := by rw [List.length_take]; omega
    have l2 : (B.drop kn).length ≤ 10 := by rw [List.length_drop]; omega
    have hlb1 := s1 _ _ hlb
    refine ⟨_, rfl, _, rfl, _, rfl, lb, _, rfl, SqL.of hlb1, fun u1 hu1 => ?_⟩
    rw [ec1]
    have z1 := Same.new (.lst ((B.take kn).map V.int)) hu1
    refine ⟨by show 1 ≤ sizeLine; decide, fun u2 hu2 => ?_⟩
    have z2 := Same.new (.lst [V.non]) hu2
    refine ⟨u1, u2, _, _, rfl, rfl, z2 _ _ upd_same, upd_same, ?_, fun u3 hu3 => ?_⟩
    · refine Nat.le_trans ?_ big
      simp only [List.length_append, List.length_map, List.length_cons, List.length_nil]
      omega
    have z3 := Same.new (.lst ((B.take kn).map V.int ++ [V.non])) hu3
    have z13 := (z1.trans z2).trans z3
    refine ⟨_, rfl, _, rfl, _, rfl, lb, _, rfl, SqL.of (z13 _ _ hlb1), fun u4 hu4 => ?_⟩
    rw [ec2]
    have z4 := Same.new (.lst ((B.drop kn).map V.int)) hu4
    refine ⟨u3, u4, _, _, rfl, rfl, z4 _ _ upd_same, upd_same, ?_, fun u5 hu5 => ?_⟩
    · refine Nat.le_trans ?_ big
      simp only [List.length_append, List.length_map, List.length_cons, List.length_nil]
      omega
    have z5 := Same.new (.lst ((B.take kn).map V.int ++ [V.non] ++ (B.drop kn).map V.int)) hu5
    refine ⟨by show 1 ≤ sizeLine; decide, fun u6 hu6 => ?_⟩
    have z6 := Same.new (.lst [V.non]) hu6
    refine ⟨u5, u6, _, _, rfl, rfl, z6 _ _ upd_same, upd_same, ?_, fun one h1 => ?_⟩
    · refine Nat.le_trans ?_ big
      simp only [List.length_append, List.length_map, List.length_cons, List.length_nil]
      omega
    rw [gaps_val]
    have z7 := Same.new (.lst ((gaps B kn).map toV)) h1
    have z17 := (((z13.trans z4).trans z5).trans z6).trans z7
    have hb7 := z17 _ _ hlb1
    refine ⟨_, rfl, _, rfl, _, rfl, _, rfl, lb, _, rfl, SqL.of hb7, fun v1 hv1 => ?_⟩
    rw [ec1]
    have y1 := Same.new (.lst ((B.take kn).map V.int)) hv1
    refine ⟨la, v1, _, _, rfl, rfl, y1 _ _ (z17 _ _ (s1 _ _ hla)), upd_same, ?_, fun v2 hv2 => ?_⟩
    · refine Nat.le_trans ?_ big
      simp only [List.length_append, List.length_map, List.length_cons, List.length_nil]
      omega
    have y2 := Same.new (.lst (F.map V.int ++ (B.take kn).map V.int)) hv2
    refine ⟨_, rfl, by show 1 ≤ sizeLine; decide, fun v3 hv3 => ?_⟩
    have y3 := Same.new (.lst [V.int x]) hv3
    refine ⟨v2, v3, _, _, rfl, rfl, y3 _ _ upd_same, upd_same, ?_, fun v4 hv4 => ?_⟩
    · refine Nat.le_trans ?_ big
      simp only [List.length_append, List.length_map, List.length_cons, List.length_nil]
      omega
    have y4 := Same.new (.lst (F.map V.int ++ (B.take kn).map V.int ++ [V.int x])) hv4
    have y14 := ((y1.trans y2).trans y3).trans y4
    refine ⟨_, rfl, _, rfl, _, rfl, lb, _, rfl, SqL.of (y14 _ _ hb7), fun v5 hv5 => ?_⟩
    rw [ec2]
    have y5 := Same.new (.lst ((B.drop kn).map V.int)) hv5
    refine ⟨v4, v5, _, _, rfl, rfl, y5 _ _ upd_same, upd_same, ?_, fun v6 hv6 => ?_⟩
    · refine Nat.le_trans ?_ big
      simp only [List.length_append, List.length_map, List.length_cons, List.length_nil]
      omega
    have y6 := Same.new (.lst (F.map V.int ++ (B.take kn).map V.int ++ [V.int x] ++ (B.drop kn).map V.int)) hv6
    refine ⟨_, rfl, by show 1 ≤ sizeLine; decide, fun v7 hv7 => ?_⟩
    have y7 := Same.new (.lst [V.int x]) hv7
    refine ⟨v6, v7, _, _, rfl, rfl, y7 _ _ upd_same, upd_same, ?_, fun lw hlw => ?_⟩
    · refine Nat.le_trans ?_ big
      simp only [List.length_append, List.length_map, List.length_cons, List.length_nil]
      omega
    have ew : F.map V.int ++ (B.take kn).map V.int ++ [V.int x] ++ (B.drop kn).map V.int ++ [V.int x] = (F ++ B.take kn ++ [x] ++ B.drop kn ++ [x]).map V.int := by
      simp only [List.map_append, List.map_cons, List.map_nil]
    rw [ew]
    have y8 := Same.new (.lst ((F ++ B.take kn ++ [x] ++ B.drop kn ++ [x]).map V.int)) hlw
    have y18 := (((y14.trans y5).trans y6).trans y7).trans y8
    have s18 := z17.trans y18
    refine ⟨_, rfl, one, _, rfl, .inl (SqL.of (y18 _ _ upd_same)), fun D hD => ?_⟩
    have x1 := Same.new (.lst ((gaps B kn).map toV)) hD
    have s19 := s18.trans x1
    have a19 := s19 _ _ (s1 _ _ ha)
    have gl := gaps_len B kn1
    have gs := gaps_some B kn
    refine ⟨_, rfl, i, a, dx, [], hi, rfl, a19, rfl, _, rfl, _, rfl, a, pv, F, one, gaps B kn, rfl, hp.mono s19, (y18.trans x1) _ _ upd_same, (fun z => absurd tr (by omega)), by omega, by omega, ?_, ?_, fun v H3 av s3 => ?_⟩
    · rw [gs]
      rcases tr with z | ⟨_, z⟩
      · exact .inl z
      · exact .inr fun z2 => light_ne hi z (List.append_eq_nil_iff.mp z2).1
    · rw [gs]
      exact small (by rw [List.length_append]; omega)
    have wl : (F ++ B.take kn ++ [x] ++ B.drop kn ++ [x]).length = F.length + B.length + 2 := by
      simp only [List.length_append, List.length_take, List.length_drop, List.length_cons, List.length_nil]
      omega
    refine ⟨_, rfl, _, rfl, i, lw, _, hi, rfl, ⟨(x1.trans s3) _ _ upd_same, ne_snoc, by omega, small (by omega)⟩, fun u H4 au s4 => ⟨v, ?_, _, rfl, iteF ?_⟩⟩
    · suffices e : v = u by rw [e]; rfl
      rcases tr with rfl | ⟨ti, tw⟩
      · have av : v = ((F.length + (gaps B kn).length : Nat) : Int) := av
        have au : u = ((F ++ B.take kn ++ [x] ++ B.drop kn ++ [x]).length : Nat) := au
        rw [av, au, wl, gl]
        congr 1
      · have av : Amt i (F ++ (gaps B kn).filterMap id) v := by
          have av : (if i = 0 then _ else _) := av
          rw [if_neg (by omega)] at av
          exact av
        rw [gs] at av
        refine (light_mem ti tw (fun y => ?_) (fun a h => List.mem_append_left _ h) au av).symm
        have : y ∈ B ↔ y ∈ B.take kn ∨ y ∈ B.drop kn := by rw [← List.mem_append, List.take_append_drop]
        simp only [List.mem_append, List.mem_singleton, this]
        constructor
        · rintro ((((h | h) | h) | h) | h)
          · exact .inr (.inl h)
          · exact .inr (.inr (.inl h))
          · exact .inl h
          · exact .inr (.inr (.inr h))
          · exact .inl h
        · rintro (h | h | h | h)
          · exact .inr h
          · exact .inl (.inl (.inl (.inl h)))
          · exact .inl (.inl (.inl (.inr h)))
          · exact .inl (.inr h)
    have s20 := s19.trans (s3.trans s4)
    have ho4 := (y18.trans (x1.trans (s3.trans s4))) _ _ upd_same
    have hD4 := (s3.trans s4) _ _ upd_same
    refine ⟨_, rfl, _, rfl, one, D, _, _, rfl, rfl, SqL.of ho4, SqL.of hD4, flat_opts _, flat_opts _, _, rfl, ?_⟩
    show (if (!eqL ((gaps B kn).map toV) ((gaps B kn).map toV)) = true then _ else _)
    rw [eqL_opts]
    refine iteF ?_
    have hp4 := hp.mono s20
    clear ho4 hD4 wl s19 s18 y18 y8 y7 y6 y5 y14 y4 y3 y2 y1 z17 z7 z6 z5 z4 z13 z3 z2 z1
    have ha4 := s20 _ _ (s1 _ _ ha)
    have hla4 := s20 _ _ (s1 _ _ hla)
    have hlb4 := s20 _ _ hlb1
    have s14 := s1.trans s20
    refine ⟨_, rfl, lb, rfl, ⟨_, SqL.of hlb4⟩, ?_⟩
    refine for_list (K := K) (a := lb) (xs := B.map V.int) (fun m σ H5 => ∃ pv2 o10, σ = [some (.ref a), some (.str (wordAt i)), some (.ref la), some (.int x), some (.ref lb), some (.int kn), some pv2, some (.ref one), some (.ref lw), some (.ref D), o10] ∧ PartI H5 i (F ++ B.take m) pv2 ∧ Same H4 H5) ⟨pv, none, rfl, by rw [List.take_zero, List.append_nil]; exact hp4, Same.refl' H4⟩ (fun m σ H5 _ ⟨_, _, _, _, s5⟩ => SqL.of (s5 _ _ hlb4)) ?_ ?_
    · rintro m y σ H5 hy ⟨pv2, o10, rfl, hp5, s5⟩
      rw [List.getElem?_map] at hy
      obtain ⟨b, hb, rfl⟩ := Option.map_eq_some_iff.mp hy
      have tk : F ++ B.take m ++ [b] = F ++ B.take (m + 1) := by rw [List.take_add_one, hb, List.append_assoc]; rfl
      refine ⟨_, rfl, i, a, dx, [], hi, rfl, s5 _ _ ha4, rfl, _, rfl, _, rfl, a, dx, pv2, F ++ B.take m, some b, rfl, s5 _ _ ha4, hp5, ?_, (fun z => by cases z), fun pv3 H6 hq s6 => ⟨pv3, _, rfl, ?_, s5.trans s6⟩⟩
      · rw [List.length_append, List.length_take]
        omega
      · rw [← tk]
        exact hq b (.inl rfl)
    · rintro σ H5 ⟨pv2, o10, rfl, hp5, s5⟩
      rw [List.length_map, List.take_length] at hp5
      have lt : LightO i (F ++ B) x := by
        rcases tr with z | ⟨ti, tw⟩
        · exact .inl z
        · exact .inr (weigh_more ti tw)
      have fne : i = 0 ∨ (F ++ B ≠ [] ∧ i ≠ 1 ∧ i ≠ 4) := by
        rcases tr with z | ⟨ti, tw⟩
        · exact .inl z
        · exact .inr ⟨fun z => light_ne hi tw (List.append_eq_nil_iff.mp z).1, by omega, by omega⟩
      have fl : (F ++ B).length ≤ 260 := by rw [List.length_append]; omega
      refine ⟨_, rfl, i, a, dx, [], hi, rfl, s5 _ _ ha4, rfl, _, rfl, a, dx, pv2, F ++ B, none, rfl, s5 _ _ ha4, hp5, by omega, (fun _ => fne), fun pv3 H6 hq s6 => ?_⟩
      have hq := hq x (.inr ⟨rfl, lt⟩)
      have s56 := s5.trans s6
      refine ⟨_, rfl, _, rfl, _, rfl, la, lb, _, _, rfl, rfl, s56 _ _ hla4, s56 _ _ hlb4, ?_, fun w1 hw1 => ?_⟩
      · refine Nat.le_trans ?_ big
        simp only [List.length_append, List.length_map, List.length_cons, List.length_nil]
        omega
      have x1 := Same.new (.lst (F.map V.int ++ B.map V.int)) hw1
      refine ⟨_, rfl, by show 1 ≤ sizeLine; decide, fun w2 hw2 => ?_⟩
      have x2 := Same.new (.lst [V.int x]) hw2
      refine ⟨w1, w2, _, _, rfl, rfl, x2 _ _ upd_same, upd_same, ?_, fun w3 hw3 => ?_⟩
      · refine Nat.le_trans ?_ big
        simp only [List.length_append, List.length_map, List.length_cons, List.length_nil]
        omega
      have ew2 : F.map V.int ++ B.map V.int ++ [V.int x] = (F ++ B ++ [x]).map V.int := by
        simp only [List.map_append, List.map_cons, List.map_nil]
      rw [ew2]
      have x3 := Same.new (.lst ((F ++ B ++ [x]).map V.int)) hw3
      have x13 := (x1.trans x2).trans x3
      have fl2 : (F ++ B ++ [x]).length ≤ 400 := by rw [List.length_append]; exact Nat.le_trans (Nat.add_le_add_right fl 1) (by decide)
      refine ⟨i, w3, F ++ B ++ [x], hi, rfl, upd_same, fl2, fun pv4 H7 hp7 s7 => ⟨pv3, pv4, rfl, EqP.of (hq.mono (x13.trans s7)) hp7 hi fl2, fun H8 s8 => k H8 (s14.trans (s56.trans (x13.trans (s7.trans s8))))⟩⟩
end
end K25
end
section
set_option Elab.async false
set_option linter.all false
set_option maxRecDepth 100000
set_option maxHeartbeats 4000000
namespace K25
open PySem L2 PyProof.Rows
def spTrimmedL (c : Nat → Addr) : Sp := fun vs H Q _ => ∃ (i : Nat) (a dx la lp lb : Addr) (A B : List Int) (x y : Int) (k : Nat), i < 6 ∧ vs = [.ref a, .str (wordAt i), .ref la, .ref lp, .ref lb, .int k] ∧ H a = some (.ins (c i) dx []) ∧ H la = some (.lst (A.map V.int)) ∧ H lp = some (.lst [.int x, .int y]) ∧ H lb = some (.lst (B.map V.int)) ∧ A.length ≤ 250 ∧ B.length ≤ 10 ∧ k ≤ B.length ∧ ∀ H', Same H H' → Q (.bl true) H'
theorem toV_inj : ∀ {a b : Option Int}, toV a = toV b → a = b
  | none, none, _ => rfl
  | some x, some y, h => by cases h; rfl
  | none, some _, h => by cases h
  | some _, none, h => by cases h
theorem toV_scal : ∀ a b : Option Int, scal (toV a) (toV b) = true
  | none, none => rfl
  | some x, some y => rfl
  | none, some _ => rfl
  | some _, none => rfl
theorem Dn_more {A : List Int} {x : Int} (h : x ∉ A) : Dn (A ++ [x]) = Dn A + 1 := by
  unfold Dn
  rw [List.foldl_append]
  show (addK (A.foldl addK []) x).length = _
  have q : x ∉ A.foldl addK [] := fun z => h (((fold_mem A [] x).mp z).resolve_left (fun z => nomatch z))
  generalize A.foldl addK [] = ks at q ⊢
  unfold addK
  rw [if_neg q, List.length_append]
  rfl
theorem Dn_same {A : List Int} {y : Int} (h : y ∈ A) : Dn (A ++ [y]) = Dn A := Dn_eq fun z => by
  simp only [List.mem_append, List.mem_singleton]
  exact ⟨fun q => q.elim id fun q => by rw [q]; exact h, .inl⟩
theorem min_of {A : List Int} {x v : Int} (h : Amt 2 (A ++ [x]) v) : (weighB 2 A x = true → v = x ∧ ∀ a ∈ A, x < a) ∧ (weighB 2 A x = false → v ∈ A) := by
  refine ⟨fun hw => ?_, fun hw => ?_⟩
  · have hw : (A.all fun a => decide (x < a)) = true := hw
    have hA : ∀ a ∈ A, x < a := fun a m => of_decide_eq_true (List.all_eq_true.mp hw a m)
    refine ⟨?_, hA⟩
    rcases List.mem_append.mp h.1 with z | z
    · have := hA v z
      have := h.2 x (List.mem_append_right _ (List.mem_singleton.mpr rfl))
      omega
    · exact List.mem_singleton.mp z
  · have hw : (A.all fun a => decide (x < a)) = false := hw
    obtain ⟨a, ma, ha⟩ := List.all_eq_false.mp hw
    have ha : a ≤ x := by
      have : ¬ (x < a) := fun z => ha (decide_eq_true z)
      omega
    rcases List.mem_append.mp h.1 with z | z
    · exact z
    · have e := List.mem_singleton.mp z
      have := h.2 a (List.mem_append_left _ ma)
      have : v = a := by omega
      rw [this]
      exact ma
theorem max_of {A : List Int} {x v : Int} (h : Amt 3 (A ++ [x]) v) : (weighB 3 A x = true → v = x ∧ ∀ a ∈ A, a < x) ∧ (weighB 3 A x = false → v ∈ A) := by
  refine ⟨fun hw => ?_, fun hw => ?_⟩
  · have hw : (A.all fun a => decide (a < x)) = true := hw
    have hA : ∀ a ∈ A, a < x := fun a m => of_decide_eq_true (List.all_eq_true.mp hw a m)
    refine ⟨?_, hA⟩
    rcases List.mem_append.mp h.1 with z | z
    · have := hA v z
      have := h.2 x (List.mem_append_right _ (List.mem_singleton.mpr rfl))
      omega
    · exact List.mem_singleton.mp z
  · have hw : (A.all fun a => decide (a < x)) = false := hw
    obtain ⟨a, ma, ha⟩ := List.all_eq_false.mp hw
    have ha : x ≤ a := by
      have : ¬ (a < x) := fun z => ha (decide_eq_true z)
      omega
    rcases List.mem_append.mp h.1 with z | z
    · exact z
    · have e := List.mem_singleton.mp z
      have := h.2 a (List.mem_append_left _ ma)
      have : v = a := by omega
      rw [this]
      exact ma
theorem differ {i : Nat} {A : List Int} {x y v u : Int} (hi : i < 6) (h : trimO i A x ≠ trimO i A y) (five : i ≠ 5 ∨ trimO i A x = none ∨ trimO i A y = none) (hv : Amt i (A ++ [x]) v) (hu : Amt i (A ++ [y]) u) : v ≠ u := by
  match i, hi with
  | 0, _ => exact absurd rfl h
  | 1, _ =>
    have h : x ≠ y := fun z => h (by rw [z])
    have hv : v = (A ++ [x]).sum := hv
    have hu : u = (A ++ [y]).sum := hu
    rw [List.sum_append] at hv hu
    simp at hv hu
    omega
  | 4, _ =>
    have h : x ≠ y := fun z => h (by rw [z])
    have hv : (A ++ [x]).getLast? = some v := hv
    have hu : (A ++ [y]).getLast? = some u := hu
    rw [List.getLast?_concat] at hv hu
    cases hv
    cases hu
    exact h
  | 2, _ =>
    have h : (if weighB 2 A x = true then some x else none) ≠ (if weighB 2 A y = true then some y else none) := h
    obtain ⟨v1, v2⟩ := min_of hv
    obtain ⟨u1, u2⟩ := min_of hu
    cases ex : weighB 2 A x with
    | true =>
      obtain ⟨e1, g1⟩ := v1 ex
      cases ey : weighB 2 A y with
      | true =>
        obtain ⟨e2, g2⟩ := u1 ey
        rw [ex, ey] at h
        rw [e1, e2]
        exact fun z => h (by rw [z])
      | false =>
        have := g1 u (u2 ey)
        omega
    | false =>
      cases ey : weighB 2 A y with
      | true =>
        obtain ⟨e2, g2⟩ := u1 ey
        have := g2 v (v2 ex)
        omega
      | false => rw [ex, ey] at h; exact absurd rfl h
  | 3, _ =>
    have h : (if weighB 3 A x = true then some x else none) ≠ (if weighB 3 A y = true then some y else none) := h
    obtain ⟨v1, v2⟩ := max_of hv
    obtain ⟨u1, u2⟩ := max_of hu
    cases ex : weighB 3 A x with
    | true =>
      obtain ⟨e1, g1⟩ := v1 ex
      cases ey : weighB 3 A y with
      | true =>
        obtain ⟨e2, g2⟩ := u1 ey
        rw [ex, ey] at h
        rw [e1, e2]
        exact fun z => h (by rw [z])
      | false =>
        have := g1 u (u2 ey)
        omega
    | false =>
      cases ey : weighB 3 A y with
      | true =>
        obtain ⟨e2, g2⟩ := u1 ey
        have := g2 v (v2 ex)
        omega
      | false => rw [ex, ey] at h; exact absurd rfl h
  | 5, _ =>
    have h : (if weighB 5 A x = true then some x else none) ≠ (if weighB 5 A y = true then some y else none) := h
    have five : (if weighB 5 A x = true then some x else none) = none ∨ (if weighB 5 A y = true then some y else none) = none := five.resolve_left (fun z => z rfl)
    have hv : v = Dn (A ++ [x]) := hv
    have hu : u = Dn (A ++ [y]) := hu
    have no : ∀ z, weighB 5 A z = true → z ∉ A := fun z hz m => by
      have hz : (!A.contains z) = true := hz
      simp [m] at hz
    cases ex : weighB 5 A x with
    | true =>
      rw [Dn_more (no x ex)] at hv
      cases ey : weighB 5 A y with
      | true => rw [ex, ey] at five; rcases five with z | z <;> cases z
      | false =>
        rw [Dn_same (light5 ey)] at hu
        omega
    | false =>
      rw [Dn_same (light5 ex)] at hv
      cases ey : weighB 5 A y with
      | true =>
        rw [Dn_more (no y ey)] at hu
        omega
      | false => rw [ex, ey] at h; exact absurd rfl h
theorem differ5 {A : List Int} {x y v u : Int} (h : trimO 5 A x ≠ trimO 5 A y) (hx : trimO 5 A x ≠ none) (hy : trimO 5 A y ≠ none) (hv : Amt 5 (A ++ [x, x]) v) (hu : Amt 5 (A ++ [y, x]) u) : v ≠ u := by
  have hv : v = Dn (A ++ [x, x]) := hv
  have hu : u = Dn (A ++ [y, x]) := hu
  have h : (if weighB 5 A x = true then some x else none) ≠ (if weighB 5 A y = true then some y else none) := h
  have hx : (if weighB 5 A x = true then some x else none) ≠ none := hx
  have hy : (if weighB 5 A y = true then some y else none) ≠ none := hy
  have no : ∀ z, weighB 5 A z = true → z ∉ A := fun z hz m => by
    have hz : (!A.contains z) = true := hz
    simp [m] at hz
  have ex : weighB 5 A x = true := by
    cases e : weighB 5 A x with
    | true => rfl
    | false => rw [e] at hx; exact absurd rfl hx
  have ey : weighB 5 A y = true := by
    cases e : weighB 5 A y with
    | true => rfl
    | false => rw [e] at hy; exact absurd rfl hy
  rw [ex, ey] at h
  have ne : x ≠ y := fun z => h (by rw [z])
  have q1 : A ++ [x, x] = (A ++ [x]) ++ [x] := by simp
  have q2 : A ++ [y, x] = (A ++ [y]) ++ [x] := by simp
  rw [q1, Dn_same (List.mem_append_right _ (List.mem_singleton.mpr rfl)), Dn_more (no x ex)] at hv
  rw [q2, Dn_more (fun z => (List.mem_append.mp z).elim (no x ex) fun z => ne (List.mem_singleton.mp z)), Dn_more (no y ey)] at hu
  omega
section
variable {P : Program} {w : World} {K : PySem.W.Frag} {mg : Str → Option Value} {base : Heap} {C : Addr} {f : Addr} {fd : FuncData} {c : Nat → Addr} {S : Addr}
theorem ok_trimmed (L : Lk K mg "_law_trimmed" s_trimmed ["_law_adder", "_law_word_here", "_law_ahead", "_law_pair", "_law_after", "_law_at"] f fd) (T : Txt mg) (FT : Fam P w K mg base c 6 "trimmed" ["self", "part", "value"] 4 (spTrimmed c)) (FS : Fam P w K mg base c 6 "shown" ["self", "part", "values"] 3 spShown) (C__law_part : Callee P w K mg base "_law_part" ["_law_word_here", "_law_values_here"] 2 spPart)
    (C__law_amount : Callee P w K mg base "_law_amount" ["_law_word_here", "_law_values_here"] 1 spAmount) (C__law_is : Callee P w K mg base "_law_is" ["_law_found", "_law_due"] 2 spIs) (C__law_trim : Callee P w K mg base "_law_trim" ["_law_word_here", "_law_ahead", "_law_value"] 1 spTrim) (C__law_same_part : Callee P w K mg base "_law_same_part" ["_law_found", "_law_due"] 3 spSame) (C__law_none_stands : Callee P w K mg base "_law_none_stands" ["_law_adder", "_law_word_here", "_law_ahead", "_law_value", "_law_after", "_law_at"] 5 (spStands c)) : Callee P w K mg base "_law_trimmed" ["_law_adder", "_law_word_here", "_law_ahead", "_law_pair", "_law_after", "_law_at"] 6 (spTrimmedL c) := by
  refine L.callee (L.F.ok sc_trimmed (fun vs H Q E h => ?_) (fun cdv A outer s H vs Q E hr h => ?_))
  · obtain ⟨i, a, dx, la, lp, lb, A, B, x, y, k, _, rfl, _⟩ := h
    rfl
  · obtain ⟨i, a, dx, la, lp, lb, F, B, x, y, kn, hi, rfl, ha, hla, hlp, hlb, lF, lB, kn1, k⟩ := h
    have big : (300 : Nat) ≤ sizeLine := by decide
    obtain ⟨u6, hu6, k6⟩ : ∃ u, PSs ((cxOf CX0 P w K mg base ["_law_adder", "_law_word_here", "_law_ahead", "_law_pair", "_law_after", "_law_at", "_law_part_here", "_law_kept", "_law_value", "_law_due", "_law_found", "_law_more", "_law_other"] "_law_trimmed" (defScope s_trimmed) f cdv A outer s H E).nox) ((defBody s_trimmed).drop 6) u ∧ ∀ (pv : V) (lm : Addr) (M : List Int) (o7 o8 o9 o10 o12 : Option V) (H' : Hp), Same H H' → PartI H' i F pv → H' lm = some (.lst (M.map V.int)) → M.length ≤ 1 → (∀ v u, Amt i (F ++ (x :: M)) v → Amt i (F ++ (y :: M)) u → v ≠ u) →
        u { nx := fun _ H' => Q .non H', rt := Q } [some (.ref a), some (.str (wordAt i)), some (.ref la), some (.ref lp), some (.ref lb), some (.int kn), some pv, o7, o8, o9, o10, some (.ref lm), o12] H' := by
      have hb : QB ((cxOf CX0 P w K mg base ["_law_adder", "_law_word_here", "_law_ahead", "_law_pair", "_law_after", "_law_at", "_law_part_here", "_law_kept", "_law_value", "_law_due", "_law_found", "_law_more", "_law_other"] "_law_trimmed" (defScope s_trimmed) f cdv A outer s H E).nox) ((defBody s_trimmed).drop 6) _ := (qb_cn (qs_set (i := 10) sc_trimmed.nd rfl (Or.inl rfl) (qe_fam (qv 0) FS (hr.mono (by first | decide | omega)) (qa_cn (qv 6) (qa_cn (qe_op op_cat (qe_lst (qa_cn (qe_ix ix_list (qv 3) qe_int (fun _ _ => rfl)) qa_nil)) (qv 11)) qa_nil))))
      (qb_cn (qs_set (i := 12) sc_trimmed.nd rfl (Or.inl rfl) (qe_fam (qv 0) FS (hr.mono (by first | decide | omega)) (qa_cn (qv 6) (qa_cn (qe_op op_cat (qe_lst (qa_cn (qe_ix ix_list (qv 3) qe_int (fun _ _ => rfl)) qa_nil)) (qv 11)) qa_nil))))
      (qb_one (qs_ret (qe_and (qe_callee C__law_is (hr.mono (by first | decide | omega)) (by rfl) (qa_cn (qv 10) (qa_cn (qe_callee C__law_amount (hr.mono (by first | decide | omega)) (by rfl) (qa_cn (qv 1) (qa_cn (qe_op op_cat (qe_op op_cat (qv 2) (qe_lst (qa_cn (qe_ix ix_list (qv 3) qe_int (fun _ _ => rfl)) qa_nil))) (qv 11)) qa_nil))) qa_nil))) (qe_one (qe_cmpR op_ne (qv 10) (qv 12) (nomark _))))))))
      (with_reducible refine ⟨_, hb.p, fun pv lm M o7 o8 o9 o10 o12 H' s1 hp hlm lM df => ?_⟩)
      have nv : ∀ z : Int, [V.int z] ++ M.map V.int = ((z :: M).map some).map toV := fun z => (some_map (z :: M)).1
      have fm : ∀ z : Int, ((z :: M).map some).filterMap id = z :: M := fun z => (some_map (z :: M)).2
      have hlp1 := s1 _ _ hlp
      refine ⟨_, rfl, i, a, dx, [], hi, rfl, s1 _ _ ha, rfl, _, rfl, _, rfl, lp, _, _, _, rfl, rfl, SqL.of hlp1, at0, by show 1 ≤ sizeLine; decide, fun e1 he1 => ?_⟩
      have z1 := Same.new (.lst [V.int x]) he1
      refine ⟨_, rfl, e1, lm, _, _, rfl, rfl, upd_same, z1 _ _ hlm, ?_, fun q1 hq1 => ?_⟩
      · refine Nat.le_trans ?_ big
        simp only [List.length_map, List.length_cons, List.length_nil]
        omega
      rw [nv x]
      have z2 := Same.new (.lst (((x :: M).map some).map toV)) hq1
      have z12 := z1.trans z2
      have al : ∀ z : Int, (F ++ (z :: M)).length ≤ 260 := fun z => by simp only [List.length_append, List.length_cons]; omega
      have ane : ∀ z : Int, F ++ (z :: M) ≠ [] := fun z h => by
        have := (List.append_eq_nil_iff.mp h).2
        cases this
      refine ⟨a, pv, F, q1, (x :: M).map some, rfl, hp.mono z12, upd_same, (fun _ => ⟨_, rfl⟩), by omega, by simp only [List.length_map, List.length_cons]; omega, .inr (by rw [fm x]; exact ane x), by rw [fm x]; exact small (Nat.le_trans (al x) (by decide)), fun v H2 av s2 => ?_⟩
      have av := av.plain
      have s12 := z12.trans s2
      have s3 := s1.trans s12
      refine ⟨_, rfl, i, a, dx, [], hi, rfl, s3 _ _ ha, rfl, _, rfl, _, rfl, lp, _, _, _, rfl, rfl, SqL.of (s3 _ _ hlp), rfl, by show 1 ≤ sizeLine; decide, fun e2 he2 => ?_⟩
      have z3 := Same.new (.lst [V.int y]) he2
      refine ⟨_, rfl, e2, lm, _, _, rfl, rfl, upd_same, z3 _ _ (s12 _ _ hlm), ?_, fun q2 hq2 => ?_⟩
      · refine Nat.le_trans ?_ big
        simp only [List.length_map, List.length_cons, List.length_nil]
        omega
      rw [nv y]
      have z4 := Same.new (.lst (((y :: M).map some).map toV)) hq2
      have z34 := z3.trans z4
      refine ⟨a, pv, F, q2, (y :: M).map some, rfl, hp.mono (s12.trans z34), upd_same, (fun _ => ⟨_, rfl⟩), by omega, by simp only [List.length_map, List.length_cons]; omega, .inr (by rw [fm y]; exact ane y), by rw [fm y]; exact small (Nat.le_trans (al y) (by decide)), fun u H3 au s4 => ?_⟩
      have au := au.plain
      have s5 := s12.trans (z34.trans s4)
      have s6 := s1.trans s5
      refine ⟨_, rfl, _, rfl, _, rfl, _, rfl, lp, _, _, _, rfl, rfl, SqL.of (s6 _ _ hlp), at0, by show 1 ≤ sizeLine; decide, fun e3 he3 => ?_⟩
      have y1 := Same.new (.lst [V.int x]) he3
      refine ⟨la, e3, _, _, rfl, rfl, y1 _ _ (s6 _ _ hla), upd_same, ?_, fun e4 he4 => ?_⟩
      · refine Nat.le_trans ?_ big
        simp only [List.length_append, List.length_map, List.length_cons, List.length_nil]
        omega
      have y2 := Same.new (.lst (F.map V.int ++ [V.int x])) he4
      refine ⟨_, rfl, e4, lm, _, _, rfl, rfl, upd_same, (y1.trans y2) _ _ (s5 _ _ hlm), ?_, fun e5 he5 => ?_⟩
      · refine Nat.le_trans ?_ big
        simp only [List.length_append, List.length_map, List.length_cons, List.length_nil]
        omega
      have ew : F.map V.int ++ [V.int x] ++ M.map V.int = (F ++ (x :: M)).map V.int := by
        simp only [List.map_append, List.map_cons, List.append_assoc, List.cons_append, List.nil_append]
      rw [ew]
      have y3 := Same.new (.lst ((F ++ (x :: M)).map V.int)) he5
      refine ⟨i, e5, F ++ (x :: M), hi, rfl, ⟨upd_same, ane x, Nat.le_trans (al x) (by decide), small (Nat.le_trans (al x) (by decide))⟩, fun v2 H4 av2 s7 => ⟨v, ?_, _, rfl, iteT ⟨_, rfl, _, rfl, rfl, ?_⟩⟩⟩
      · rw [av.uniq av2]
        rfl
      have ne := df v u av au
      have e : decide (V.int v = V.int u) = false := decide_eq_false fun z => ne (by cases z; rfl)
      rw [e]
      exact k H4 (s6.trans ((y1.trans y2).trans (y3.trans s7)))
    have hb : QB ((cxOf CX0 P w K mg base ["_law_adder", "_law_word_here", "_law_ahead", "_law_pair", "_law_after", "_law_at", "_law_part_here", "_law_kept", "_law_value", "_law_due", "_law_found", "_law_more", "_law_other"] "_law_trimmed" (defScope s_trimmed) f cdv A outer s H E).nox) (defBody s_trimmed) _ := (qb_cn (qs_set (i := 6) sc_trimmed.nd rfl (Or.inl rfl) (qe_callee C__law_part (hr.mono (by first | decide | omega)) (by rfl) (qa_cn (qv 1) (qa_cn (qv 2) qa_nil))))
      (qb_cn (qs_comp (i := 7) ["_law_value"] ["_law_word_here", "_law_ahead"] [1, 2] ["_law_adder", "_law_word_here", "_law_ahead", "_law_pair", "_law_after", "_law_at", "_law_part_here", "_law_kept", "_law_value", "_law_due", "_law_found", "_law_more", "_law_other"] (defScope s_trimmed).names rfl sc_trimmed.nd rfl (Or.inl rfl) (qi_list (qv 3)) (fun _ _ _ _ _ => (qg_name (i := 0) (show (["_law_value", "_law_word_here", "_law_ahead"] : List Str).Nodup by decide +kernel) rfl (Or.inl rfl))) (fun _ _ _ _ _ => qts_nil) (fun _ _ _ _ _ => (qe_callee C__law_trim (hr.mono (by first | decide | omega)) (by rfl) (qa_cn (qv 1) (qa_cn (qv 2) (qa_cn (qv 0) qa_nil))))))
      (qb_cn (qs_for PassesOwn.never rfl (qi_zip rfl T.zip (qa_cn (qv 3) (qa_cn (qv 7) qa_nil))) (qg_tup rfl (qgs_cons (qg_name (i := 8) sc_trimmed.nd rfl (Or.inl rfl)) (qgs_cons (qg_name (i := 9) sc_trimmed.nd rfl (Or.inl rfl)) qgs_nil))) (qb_cn (qs_set (i := 10) sc_trimmed.nd rfl (Or.inl rfl) (qe_fam (qv 0) FT (hr.mono (by first | decide | omega)) (qa_cn (qv 6) (qa_cn (qv 8) qa_nil))))
      (qb_cn (qs_if (qt_not (qt_val (qe_callee C__law_same_part (hr.mono (by first | decide | omega)) (by rfl) (qa_cn (qv 10) (qa_cn (qv 9) qa_nil))))) (qb_one (qs_ret qe_bl)) qb_nil)
      (qb_one (qs_if (qw_pt (qw_and (qt_cmpR op_isN (qv 9) qe_non (nomark _)) (qw_and1 (qt_not (qt_val (qe_callee C__law_none_stands (hr.mono (by first | decide | omega)) (by rfl) (qa_cn (qv 0) (qa_cn (qv 1) (qa_cn (qv 2) (qa_cn (qv 8) (qa_cn (qv 4) (qa_cn (qv 5) qa_nil)))))))))))) (qb_one (qs_ret qe_bl)) qb_nil)))))
      (qb_cn (qs_if (qt_cmpR op_eq (qe_ix ix_list (qv 7) qe_int (fun _ _ => rfl)) (qe_ix ix_list (qv 7) qe_int (fun _ _ => rfl)) (nomark _)) (qb_one (qs_ret qe_bl)) qb_nil)
      (qb_cn (qs_set (i := 11) sc_trimmed.nd rfl (Or.inl rfl) (qe_lst qa_nil))
      (qb_cn (qs_if (qw_pt (qw_and (qt_cmpR op_eq (qv 1) qe_str (nomark _)) (qw_and (qt_cmpR op_notN (qe_ix ix_list (qv 7) qe_int (fun _ _ => rfl)) qe_non (nomark _)) (qw_and1 (qt_cmpR op_notN (qe_ix ix_list (qv 7) qe_int (fun _ _ => rfl)) qe_non (nomark _)))))) (qb_one (qs_set (i := 11) sc_trimmed.nd rfl (Or.inl rfl) (qe_lst (qa_cn (qe_ix ix_list (qv 3) qe_int (fun _ _ => rfl)) qa_nil)))) qb_nil)
      ⟨hu6⟩))))))
    (with_reducible refine ⟨_, hb.p, ?_⟩)
    refine ⟨_, rfl, _, rfl, i, la, F, hi, rfl, hla, by omega, fun pv H1 hp s1 => ?_⟩
    have hlp1 := s1 _ _ hlp
    refine ⟨_, rfl, lp, rfl, ⟨_, SqL.of hlp1⟩, fun D hD => ?_⟩
    refine comp_list (K := K) (a := lp) (xs := [V.int x, .int y]) (fun m ys H' => ys = (([x, y] : List Int).take m).map (fun v => toV (trimO i F v)) ∧ Same H1 H') ⟨rfl, Same.new _ hD⟩ (fun m ys H' _ ⟨_, s'⟩ => SqL.of (s' _ _ hlp1)) (fun ys H2 ⟨e1, s2⟩ hD2 => ?_) (fun m z ys H2 hz ⟨e1, s2⟩ hD2 => ?_)
    rotate_left
    · have hm : m < 2 := (List.getElem?_eq_some_iff.mp hz).1
      obtain ⟨v, rfl, hv⟩ : ∃ v, z = .int v ∧ ([x, y] : List Int)[m]? = some v := match m, hm, hz with
        | 0, _, hz => ⟨x, (Option.some.inj hz).symm, rfl⟩
        | 1, _, hz => ⟨y, (Option.some.inj hz).symm, rfl⟩
      refine ⟨rfl, _, rfl, _, rfl, _, rfl, i, la, F, v, hi, rfl, s2 _ _ (s1 _ _ hla), fun H3 s3 => ⟨s3 _ _ hD2, ?_, nx hm ⟨?_, fun b o e => ?_⟩⟩⟩
      · rw [e1, List.length_map, List.length_take]
        exact Nat.lt_of_le_of_lt (Nat.min_le_right _ _) (by show 2 < sizeLine; decide)
      · rw [e1, List.take_add_one, hv, List.map_append]
        rfl
      · rw [upd_ne (ne_of_none e hD)]
        exact s3 _ _ (s2 _ _ e)
    subst e1
    have hD2 : H2 D = some (.lst [toV (trimO i F x), toV (trimO i F y)]) := hD2
    have s12 := s1.trans s2
    have hp2 := hp.mono s2
    refine ⟨_, rfl, _, rfl, lp, D, rfl, ⟨_, SqL.of (s12 _ _ hlp)⟩, ⟨_, SqL.of hD2⟩, ?_⟩
    refine for_zip (K := K) (a := lp) (b := D) (xs := [V.int x, .int y]) (ys := [toV (trimO i F x), toV (trimO i F y)]) (fun m σ H' => ∃ o8 o9 o10, σ = [some (.ref a), some (.str (wordAt i)), some (.ref la), some (.ref lp), some (.ref lb), some (.int kn), some pv, some (.ref D), o8, o9, o10, none, none] ∧ Same H2 H') ⟨none, none, none, rfl, Same.refl' H2⟩ rfl (fun _ _ _ _ ⟨_, _, _, _, s'⟩ => ⟨SqL.of (s' _ _ (s12 _ _ hlp)), SqL.of (s' _ _ hD2)⟩) ?_ ?_
    · rintro m z1 z2 t σ H3 hz1 hz2 ⟨o8, o9, o10, rfl, s3⟩ ht
      obtain ⟨v, rfl, rfl⟩ : ∃ v, z1 = .int v ∧ z2 = toV (trimO i F v) := match m, hz1, hz2 with
        | 0, h1, h2 => ⟨x, (Option.some.inj h1).symm, (Option.some.inj h2).symm⟩
        | 1, h1, h2 => ⟨y, (Option.some.inj h1).symm, (Option.some.inj h2).symm⟩
      have s4 := s3.trans (Same.new (.tup [.int v, toV (trimO i F v)]) ht)
      refine ⟨t, _, rfl, SqT.of upd_same, rfl, ?_⟩
      generalize (upd H3 t (.tup [.int v, toV (trimO i F v)])) = H4 at s4 ⊢
      have s14 := s12.trans s4
      refine ⟨_, _, rfl, _, _, rfl, rfl, ?_⟩
      refine ⟨_, rfl, i, a, dx, [], hi, rfl, s14 _ _ ha, rfl, _, rfl, _, rfl, a, dx, pv, F, some v, rfl, s14 _ _ ha, hp2.mono s4, ?_⟩
      refine ⟨_, rfl, _, rfl, toV (trimO i F v), toV (trimO i F v), rfl, EqP.opt _, fun H5 s5 => ⟨_, rfl, iteF ?_⟩⟩
      have s15 := s14.trans s5
      generalize et : trimO i F v = o
      cases o with
      | some q => exact ⟨_, rfl, rfl, _, rfl, iteF (iteF ⟨_, _, _, rfl, s4.trans s5⟩)⟩
      | none =>
        refine ⟨_, rfl, rfl, _, rfl, iteT ⟨_, rfl, _, rfl, _, rfl, _, rfl, _, rfl, _, rfl, i, a, dx, la, lb, F, B, v, kn, hi, rfl, s15 _ _ ha, s15 _ _ hla, s15 _ _ hlb, lF, lB, kn1, et, fun H6 s6 => ⟨_, rfl, iteF ⟨_, _, _, rfl, (s4.trans s5).trans s6⟩⟩⟩⟩
    · rintro σ H3 ⟨o8, o9, o10, rfl, s3⟩
      have s13 := s12.trans s3
      have hp3 := hp2.mono s3
      have hD3 := s3 _ _ hD2
      refine ⟨_, rfl, D, _, _, _, rfl, rfl, SqL.of hD3, at0, _, rfl, D, _, _, _, rfl, rfl, SqL.of hD3, rfl, toV_scal _ _, _, rfl, ?_⟩
      by_cases eq : trimO i F x = trimO i F y
      · rw [decide_eq_true (by rw [eq])]
        exact iteT (k H3 s13)
      rw [decide_eq_false (fun z => eq (toV_inj z))]
      refine iteF ⟨Nat.zero_le _, fun lm hlm => ?_⟩
      have s4 := Same.new (.lst []) hlm
      have s14 := s13.trans s4
      have fin1 := fun (h5 : i ≠ 5 ∨ trimO i F x = none ∨ trimO i F y = none) => k6 pv lm [] (some (.ref D)) o8 o9 o10 none (upd H3 lm (.lst [])) s14 (hp3.mono s4) upd_same (by decide) (fun v u hv hu => differ hi eq h5 hv hu)
      by_cases h5 : i = 5
      · subst h5
        refine ⟨_, rfl, rfl, _, rfl, iteT ⟨_, rfl, D, _, _, _, rfl, rfl, SqL.of (s4 _ _ hD3), at0, rfl, _, rfl, ?_⟩⟩
        by_cases nx : trimO 5 F x = none
        · rw [decide_eq_true (show toV (trimO 5 F x) = V.non by rw [nx]; rfl)]
          exact iteF (iteF (fin1 (.inr (.inl nx))))
        rw [decide_eq_false (show ¬ (toV (trimO 5 F x) = V.non) from fun z => nx (toV_inj (b := none) z))]
        refine iteT ⟨_, rfl, D, _, _, _, rfl, rfl, SqL.of (s4 _ _ hD3), rfl, rfl, _, rfl, ?_⟩
        by_cases ny : trimO 5 F y = none
        · rw [decide_eq_true (show toV (trimO 5 F y) = V.non by rw [ny]; rfl)]
          exact iteF (fin1 (.inr (.inr ny)))
        rw [decide_eq_false (show ¬ (toV (trimO 5 F y) = V.non) from fun z => ny (toV_inj (b := none) z))]
        refine iteT ⟨_, rfl, lp, _, _, _, rfl, rfl, SqL.of (s14 _ _ hlp), at0, by show 1 ≤ sizeLine; decide, fun lm2 hlm2 => ?_⟩
        have s5 := Same.new (.lst [V.int x]) hlm2
        exact k6 pv lm2 [x] (some (.ref D)) o8 o9 o10 none _ (s14.trans s5) (hp3.mono (s4.trans s5)) upd_same (Nat.le_refl 1) (fun v u hv hu => differ5 eq nx ny hv hu)
      · refine ⟨_, rfl, rfl, _, rfl, ?_⟩
        show (if decide (V.str (wordAt i) = V.str (wordAt 5)) = true then _ else _)
        rw [word_inj hi (by decide), decide_eq_false h5]
        exact iteF (iteF (fin1 (.inl h5)))
end
end K25
end
section
set_option Elab.async false
set_option linter.all false
set_option maxRecDepth 100000
set_option maxHeartbeats 4000000
namespace K25
open PySem L2 PyProof.Rows
def spLaw (K : PySem.W.Frag) : Sp := fun vs H Q _ => ∃ (a : Addr) (ns : List Int), vs = [.ref a] ∧ SqL K H a (ns.map V.int) ∧ ns.length ≤ 63 ∧ ∀ H', Q (.bl true) H'
theorem But.same {p : Addr} {H H1 H2 : Hp} (s : Same H H1) (hp : H p = none) (b : But p H1 H2) : Same H H2 := fun x o e => b x o (s x o e) (ne_of_none e hp)
theorem Hand.but {H H' : Hp} {p c r : Addr} (h : Hand H p c) (n1 : p ≠ r) (n2 : c ≠ r) (b : But r H H') : Hand H' p c := by
  obtain ⟨d, n, cs, hp, hc, h0⟩ := h
  exact ⟨d, n, cs, b _ _ hp n1, b _ _ hc n2, h0⟩
theorem Hand.ncr {H : Hp} {p c r : Addr} (h : Hand H p c) (e : H r = none) : p ≠ r ∧ c ≠ r := ⟨Ne.symm (h.nef e), Ne.symm (h.nec e)⟩
theorem Same.set {H H' : Hp} {q : Addr} {o : HO} (s : Same H H') (h : H q = none) : Same H (upd H' q o) := fun x u e => by rw [upd_ne (ne_of_none e h)]; exact s x u e
section
variable {P : Program} {w : World} {K : PySem.W.Frag} {mg : Str → Option Value} {base : Heap} {C : Addr} {f : Addr} {fd : FuncData} {c : Nat → Addr} {S : Addr}
theorem ok_law (L : Lk K mg "law" s_law ["_law_script"] f fd) (T : Txt mg) (FT : Fam P w K mg base c 6 "trimmed" ["self", "part", "value"] 4 (spTrimmed c)) (C__law_open : Callee P w K mg base "_law_open" ["_law_script", "_law_place"] 1 (spOpen K)) (C__law_draw : Callee P w K mg base "_law_draw" ["_law_hand", "_law_many"] 1 spDraw) (C__law_values : Callee P w K mg base "_law_values" ["_law_hand", "_law_least", "_law_most"] 3 spValues)
    (C__law_word : Callee P w K mg base "_law_word" ["_law_k"] 1 spWordL) (C__law_sum : Callee P w K mg base "_law_sum" ["_law_word_here", "_law_turn"] 4 (spSum c)) (C__law_part : Callee P w K mg base "_law_part" ["_law_word_here", "_law_values_here"] 2 spPart) (C__law_trimmed : Callee P w K mg base "_law_trimmed" ["_law_adder", "_law_word_here", "_law_ahead", "_law_pair", "_law_after", "_law_at"] 6 (spTrimmedL c)) : FnOk P w K mg base CX0 7 f fd ["_law_script"] (spLaw K) := by
  refine L.F.ok sc_law (fun vs H Q E h => ?_) (fun cdv A outer s H vs Q E hr h => ?_)
  · obtain ⟨a, ns, rfl, _⟩ := h
    rfl
  · obtain ⟨sa, ns, rfl, hS, hn, k⟩ := h
    obtain ⟨u8, hu8, k8⟩ : ∃ u, PSs ((cxOf CX0 P w K mg base ["_law_script", "_law_hand", "_law_first", "_law_by", "_law_ahead", "_law_pair", "_law_some", "_law_after", "_law_at", "_law_k", "_law_word_here", "_law_adder"] "law" (defScope s_law) f cdv A outer s H E).nox) ((defBody s_law).drop 8) u ∧ ∀ (fi by_ : Nat) (p pc la lp : Addr) (F : List Int) (x y : Int) (o6 o7 o8 o9 o10 o11 : Option V) (H' : Hp), Hand H' p pc → Same H H' → H' la = some (.lst (F.map V.int)) → la ≠ p → F.length ≤ 200 → H' lp = some (.lst [.int x, .int y]) → lp ≠ p →
        u { nx := fun _ H' => Q .non H', rt := Q } [some (.ref sa), some (.ref p), some (.int fi), some (.int by_), some (.ref la), some (.ref lp), o6, o7, o8, o9, o10, o11] H' := by
      have hb : QB ((cxOf CX0 P w K mg base ["_law_script", "_law_hand", "_law_first", "_law_by", "_law_ahead", "_law_pair", "_law_some", "_law_after", "_law_at", "_law_k", "_law_word_here", "_law_adder"] "law" (defScope s_law) f cdv A outer s H E).nox) ((defBody s_law).drop 8) _ := (qb_cn (qs_set (i := 7) sc_law.nd rfl (Or.inl rfl) (qe_callee C__law_values (hr.mono (by first | decide | omega)) (by rfl) (qa_cn (qe_callee C__law_open (hr.mono (by first | decide | omega)) (by rfl) (qa_cn (qv 0) (qa_cn qe_int qa_nil))) (qa_cn qe_int (qa_cn qe_int qa_nil)))))
      (qb_cn (qs_set (i := 8) sc_law.nd rfl (Or.inl rfl) (qe_callee C__law_draw (hr.mono (by first | decide | omega)) (by rfl) (qa_cn (qv 1) (qa_cn (qe_op op_add (qe_callB call_len_seq (by rfl) T.len PySem.boot_len (qa_cn (qv 7) qa_nil)) qe_int) qa_nil))))
      (qb_cn (qs_for PassesOwn.never rfl (qi_range1 rfl T.range (qa_cn qe_int qa_nil)) (qg_name (i := 9) sc_law.nd rfl (Or.inl rfl)) (qb_cn (qs_set (i := 10) sc_law.nd rfl (Or.inl rfl) (qe_callee C__law_word (hr.mono (by first | decide | omega)) (by rfl) (qa_cn (qe_op op_add (qv 2) (qv 9)) qa_nil)))
      (qb_cn (qs_set (i := 11) sc_law.nd rfl (Or.inl rfl) (qe_callee C__law_sum (hr.mono (by first | decide | omega)) (by rfl) (qa_cn (qv 10) (qa_cn (qe_op op_add (qv 3) (qv 9)) qa_nil))))
      (qb_cn (qs_if (qt_cmpR op_notN (qe_fam (qv 11) FT (hr.mono (by first | decide | omega)) (qa_cn (qe_callee C__law_part (hr.mono (by first | decide | omega)) (by rfl) (qa_cn (qv 10) (qa_cn (qv 4) qa_nil))) (qa_cn qe_non qa_nil))) qe_non (nomark _)) (qb_one (qs_ret qe_bl)) qb_nil)
      (qb_one (qs_if (qt_not (qt_val (qe_callee C__law_trimmed (hr.mono (by first | decide | omega)) (by rfl) (qa_cn (qv 11) (qa_cn (qv 10) (qa_cn (qv 4) (qa_cn (qv 5) (qa_cn (qv 7) (qa_cn (qv 8) qa_nil))))))))) (qb_one (qs_ret qe_bl)) qb_nil))))))
      (qb_one (qs_ret qe_bl)))))
      (with_reducible refine ⟨_, hb.p, fun fi by_ p pc la lp F x y o6 o7 o8 o9 o10 o11 H' h1 s1 hla nla lF hlp nlp => ?_⟩)
      refine ⟨_, rfl, sa, ns, 1, rfl, s1.seq hS, hn, by decide, by decide, fun p2 c2 H2 hp2 h2 s2 => ?_⟩
      refine ⟨p2, c2, 0, 6, rfl, h2, by decide, by decide, by decide, fun lb B H3 hlb0 hlb lB0 lB h3 b3 => ?_⟩
      have h3p : Hand H3 p pc := (h1.same s2).but (h1.ncr hp2).1 (h1.ncr hp2).2 b3
      refine ⟨_, rfl, _, rfl, lb, _, rfl, .inl (SqL.of hlb), _, _, rfl, rfl, p, pc, _, rfl, h3p, ?_, ?_, fun at_ H4 a0 a1 h4 b4 => ?_⟩
      · show (0 : Int) < (((B.map V.int).length : Nat) : Int) + 1
        omega
      · have z : ((((B.map V.int).length : Nat) : Int) + 1) < 10 := by rw [List.length_map]; omega
        exact Int.lt_trans z (by decide)
      have hlb4 := b4 _ _ hlb ((h1.same s2).nef hlb0)
      have hla4 := b4 _ _ (b3 _ _ (s2 _ _ hla) (ne_of_none hla hp2)) nla
      have hlp4 := b4 _ _ (b3 _ _ (s2 _ _ hlp) (ne_of_none hlp hp2)) nlp
      obtain ⟨kn, rfl⟩ := Int.eq_ofNat_of_zero_le a0
      have kn1 : kn ≤ B.length := by
        have z : (kn : Int) < (((B.map V.int).length : Nat) : Int) + 1 := a1
        rw [List.length_map] at z
        omega
      refine ⟨6, rfl, by decide, by decide, for_range (n := 6) (fun m σ H' => ∃ (o9 o10 o11 : Option V), σ = [some (.ref sa), some (.ref p), some (.int fi), some (.int by_), some (.ref la), some (.ref lp), o6, some (.ref lb), some (.int kn), o9, o10, o11] ∧ Same H4 H') ⟨_, _, _, rfl, fun _ _ e => e⟩ ?_ ?_⟩
      · rintro m σ H5 hm ⟨o9, o10, o11, rfl, s5⟩
        have em : (fi : Int) + (0 + (m : Int)) = ((fi + m : Nat) : Int) := by omega
        have hi : (fi + m) % 6 < 6 := Nat.mod_lt _ (by decide)
        refine ⟨_, rfl, _, rfl, _, _, rfl, rfl, fi + m, (by show [V.int ((fi : Int) + (0 + (m : Int)))] = [V.int ((fi + m : Nat) : Int)]; rw [em]), fun H6 s6 => ?_⟩
        refine ⟨_, rfl, _, rfl, _, rfl, _, _, rfl, rfl, (fi + m) % 6, _, hi, rfl, fun a dx H7 na hA s7 => ?_⟩
        have z7 := (s5.trans s6).trans s7
        refine ⟨_, rfl, (fi + m) % 6, a, dx, [], hi, rfl, hA, rfl, _, rfl, _, rfl, (fi + m) % 6, la, F, hi, rfl, z7 _ _ hla4, by omega, fun pv H8 hp8 s8 => ?_⟩
        refine ⟨a, dx, pv, F, none, rfl, s8 _ _ hA, hp8, rfl, _, rfl, iteF ?_⟩
        have z8 := z7.trans s8
        refine ⟨_, rfl, _, rfl, _, rfl, _, rfl, _, rfl, _, rfl, (fi + m) % 6, a, dx, la, lp, lb, F, B, x, y, kn, hi, rfl, s8 _ _ hA, z8 _ _ hla4, z8 _ _ hlp4, z8 _ _ hlb4, by omega, by omega, kn1, fun H9 s9 => ⟨_, rfl, iteF ⟨_, _, _, rfl, z8.trans s9⟩⟩⟩
      · rintro σ H5 ⟨o9, o10, o11, rfl, s5⟩
        exact k H5
    obtain ⟨u5, hu5, k5⟩ : ∃ u, PSs ((cxOf CX0 P w K mg base ["_law_script", "_law_hand", "_law_first", "_law_by", "_law_ahead", "_law_pair", "_law_some", "_law_after", "_law_at", "_law_k", "_law_word_here", "_law_adder"] "law" (defScope s_law) f cdv A outer s H E).nox) ((defBody s_law).drop 5) u ∧ ∀ (fi by_ : Nat) (p pc la : Addr) (F : List Int) (o5 o6 o7 o8 o9 o10 o11 : Option V) (H' : Hp), Hand H' p pc → Same H H' → H p = none → H' la = some (.lst (F.map V.int)) → la ≠ p → F.length ≤ 200 →
        u { nx := fun _ H' => Q .non H', rt := Q } [some (.ref sa), some (.ref p), some (.int fi), some (.int by_), some (.ref la), o5, o6, o7, o8, o9, o10, o11] H' := by
      have hb : QB ((cxOf CX0 P w K mg base ["_law_script", "_law_hand", "_law_first", "_law_by", "_law_ahead", "_law_pair", "_law_some", "_law_after", "_law_at", "_law_k", "_law_word_here", "_law_adder"] "law" (defScope s_law) f cdv A outer s H E).nox) ((defBody s_law).drop 5) _ := (qb_cn (qs_set (i := 5) sc_law.nd rfl (Or.inl rfl) (qe_callee C__law_values (hr.mono (by first | decide | omega)) (by rfl) (qa_cn (qv 1) (qa_cn qe_int (qa_cn qe_int qa_nil)))))
      (qb_cn (qs_set (i := 6) sc_law.nd rfl (Or.inl rfl) (qe_op op_cat (qv 4) (qe_lst (qa_cn qe_int qa_nil))))
      (qb_cn (qs_if (qt_cmpR op_eq (qe_callee C__law_draw (hr.mono (by first | decide | omega)) (by rfl) (qa_cn (qv 1) (qa_cn qe_int qa_nil))) qe_int (nomark _)) (qb_one (qs_asg (qe_op op_sub (qe_op op_add (qe_ix ix_list (qv 6) (qe_callee C__law_draw (hr.mono (by first | decide | omega)) (by rfl) (qa_cn (qv 1) (qa_cn (qe_callB call_len_seq (by rfl) T.len PySem.boot_len (qa_cn (qv 6) qa_nil)) qa_nil))) (fun _ _ => rfl)) (qe_callee C__law_draw (hr.mono (by first | decide | omega)) (by rfl) (qa_cn (qv 1) (qa_cn qe_int qa_nil)))) qe_int) (qg_sub (qv 5) (qe_callee C__law_draw (hr.mono (by first | decide | omega)) (by rfl) (qa_cn (qv 1) (qa_cn qe_int qa_nil))) set_list))) qb_nil)
      ⟨hu8⟩)))
      (with_reducible refine ⟨_, hb.p, fun fi by_ p pc la F o5 o6 o7 o8 o9 o10 o11 H' h4 s4 hp hla nla lF => ?_⟩)
      refine ⟨_, rfl, p, pc, 2, 2, rfl, h4, by decide, by decide, by decide, fun lp vs H5 hlp0 hlp lv0 lv1 h5 b5 => ?_⟩
      obtain ⟨x, y, rfl⟩ : ∃ x y, vs = [x, y] := match vs, lv0, lv1 with
        | [x, y], _, _ => ⟨x, y, rfl⟩
        | [], z, _ => absurd z (by decide)
        | [_], z, _ => absurd z (by show ¬ ((2 : Int) ≤ 1); decide)
        | _ :: _ :: _ :: l, _, z => absurd z (by simp only [List.length_cons]; omega)
      have hlp : H5 lp = some (.lst [.int x, .int y]) := hlp
      have nlp : lp ≠ p := h4.nef hlp0
      have hlpH : H lp = none := none_of s4 hlp0
      have s5 : Same H H5 := But.same s4 hp b5
      have hla5 := b5 _ _ hla nla
      have nal : la ≠ lp := fun z => by rw [z, hlp0] at hla; cases hla
      have nlc : lp ≠ pc := h4.nec hlp0
      refine ⟨_, rfl, by show 1 ≤ sizeLine; decide, fun e he => ⟨la, e, _, _, rfl, rfl, Same.new _ he _ _ hla5, upd_same, ?_, fun so hso => ?_⟩⟩
      · rw [List.length_map]
        exact Nat.le_trans (Nat.add_le_add_right lF 1) (by decide)
      have s6 := (Same.new (.lst [V.int 0]) he).trans (Same.new (.lst (F.map V.int ++ [V.int 0])) hso)
      have h6 := h5.same s6
      refine ⟨_, rfl, p, pc, 2, rfl, h6, by decide, by decide, fun r H7 _ _ h7 b7 => ⟨rfl, _, rfl, ite2 (fun _ => ?_) (fun _ => ?_)⟩⟩
      · have nso : so ≠ p := fun z => by rw [z] at hso; exact h5.nef he (by obtain ⟨_, _, _, hp', _⟩ := h5; rw [(Same.new (.lst [V.int 0]) he) _ _ hp'] at hso; cases hso)
        have hso7 := b7 _ _ upd_same nso
        have em : F.map V.int ++ [V.int 0] = (F ++ [0]).map V.int := by simp
        rw [em] at hso7
        refine ⟨_, rfl, _, rfl, _, rfl, so, _, rfl, .inl (SqL.of hso7), p, pc, _, rfl, h7, ?_, ?_, fun r2 H8 r20 r21 h8 b8 => ?_⟩
        · rw [List.length_map, List.length_append]
          show (0 : Int) < ((F.length + 1 : Nat) : Int)
          omega
        · rw [List.length_map, List.length_append]
          have z : ((F.length + 1 : Nat) : Int) < 1000 := by omega
          exact Int.lt_trans z (by decide)
        rw [List.length_map] at r21
        obtain ⟨z, ez⟩ := at_ints (ms := F ++ [0]) r20 (by omega)
        refine ⟨so, _, _, _, rfl, rfl, SqL.of (b8 _ _ hso7 nso), ez, _, rfl, p, pc, 3, rfl, h8, by decide, by decide, fun r9 H9 _ _ h9 b9 => ⟨_, _, rfl, rfl, _, _, rfl, rfl, ?_⟩⟩
        refine ⟨_, rfl, _, rfl, p, pc, 2, rfl, h9, by decide, by decide, fun j H10 j0 j1 h10 b10 => ?_⟩
        have bb : ∀ b o, H5 b = some o → b ≠ p → H10 b = some o := fun b o e n => b10 _ _ (b9 _ _ (b8 _ _ (b7 _ _ (s6 _ _ e) n) n) n) n
        have sH : Same H H10 := fun b o e => bb b o (s5 _ _ e) (ne_of_none e hp)
        have fin := fun (x' y' : Int) => k8 fi by_ p pc la lp F x' y' (some (.ref so)) o7 o8 o9 o10 o11 (upd H10 lp (.lst [.int x', .int y'])) (h10.other nlp nlc) (Same.set sH hlpH) (by rw [upd_ne nal]; exact bb _ _ hla5 nla) nla lF upd_same nlp
        have j01 : j = 0 ∨ j = 1 := by omega
        rcases j01 with rfl | rfl
        · exact ⟨lp, _, _, 0, rfl, rfl, bb _ _ hlp nlp, rfl, fin _ _⟩
        · exact ⟨lp, _, _, 1, rfl, rfl, bb _ _ hlp nlp, rfl, fin _ _⟩
      · exact k8 fi by_ p pc la lp F x y _ _ _ _ _ _ H7 h7 (But.same (s5.trans s6) hp b7) (b7 _ _ (s6 _ _ hla5) nla) nla lF (b7 _ _ (s6 _ _ hlp) nlp) nlp
    have hb : QB ((cxOf CX0 P w K mg base ["_law_script", "_law_hand", "_law_first", "_law_by", "_law_ahead", "_law_pair", "_law_some", "_law_after", "_law_at", "_law_k", "_law_word_here", "_law_adder"] "law" (defScope s_law) f cdv A outer s H E).nox) (defBody s_law) _ := (qb_cn (qs_set (i := 1) sc_law.nd rfl (Or.inl rfl) (qe_callee C__law_open (hr.mono (by first | decide | omega)) (by rfl) (qa_cn (qv 0) (qa_cn qe_int qa_nil))))
      (qb_cn (qs_set (i := 2) sc_law.nd rfl (Or.inl rfl) (qe_callee C__law_draw (hr.mono (by first | decide | omega)) (by rfl) (qa_cn (qv 1) (qa_cn qe_int qa_nil))))
      (qb_cn (qs_set (i := 3) sc_law.nd rfl (Or.inr rfl) (qe_callee C__law_draw (hr.mono (by first | decide | omega)) (by rfl) (qa_cn (qv 1) (qa_cn qe_int qa_nil))))
      (qb_cn (qs_set (i := 4) sc_law.nd rfl (Or.inl rfl) (qe_callee C__law_values (hr.mono (by first | decide | omega)) (by rfl) (qa_cn (qv 1) (qa_cn qe_int (qa_cn qe_int qa_nil)))))
      (qb_cn (qs_if (qt_cmpR op_eq (qe_callee C__law_draw (hr.mono (by first | decide | omega)) (by rfl) (qa_cn (qv 1) (qa_cn qe_int qa_nil))) qe_int (nomark _)) (qb_one (qs_comp (i := 4) ["_law_k"] ["_law_by"] [3] ["_law_script", "_law_hand", "_law_first", "_law_by", "_law_ahead", "_law_pair", "_law_some", "_law_after", "_law_at", "_law_k", "_law_word_here", "_law_adder"] (defScope s_law).names rfl sc_law.nd rfl (Or.inl rfl) (qi_range1 rfl T.range (qa_cn (qe_op op_add qe_int (qe_callee C__law_draw (hr.mono (by first | decide | omega)) (by rfl) (qa_cn (qv 1) (qa_cn qe_int qa_nil)))) qa_nil)) (fun _ _ _ _ _ => (qg_name (i := 0) (show (["_law_k", "_law_by"] : List Str).Nodup by decide +kernel) rfl (Or.inl rfl))) (fun _ _ _ _ _ => qts_nil) (fun _ _ _ _ _ => (qe_op op_sub (qe_op op_mul (qe_op op_add qe_int (qv 1)) (qv 0)) qe_int)))) qb_nil)
      ⟨hu5⟩)))))
    (with_reducible refine ⟨_, hb.p, ?_⟩)
    refine ⟨_, rfl, sa, ns, 0, rfl, hS, hn, by decide, by decide, fun p pc H1 hp h1 s1 => ?_⟩
    refine ⟨_, rfl, p, pc, 6, rfl, h1, by decide, by decide, fun fz H2 f0 f1 h2 b2 => ?_⟩
    obtain ⟨fi, rfl⟩ := Int.eq_ofNat_of_zero_le f0
    refine ⟨_, rfl, p, pc, 2, rfl, h2, by decide, by decide, fun bz H3 g0 g1 h3 b3 => ?_⟩
    obtain ⟨by_, rfl⟩ := Int.eq_ofNat_of_zero_le g0
    refine ⟨_, rfl, p, pc, 0, 8, rfl, h3, by decide, by decide, by decide, fun la F H4 hla0 hla lF0 lF h4 b4 => ?_⟩
    have nla : la ≠ p := h3.nef hla0
    have s4 : Same H H4 := But.same (But.same (But.same s1 hp b2) hp b3) hp b4
    refine ⟨_, rfl, p, pc, 16, rfl, h4, by decide, by decide, fun r H5 _ _ h5 b5 => ⟨rfl, _, rfl, ite2 (fun _ => ?_) (fun _ => ?_)⟩⟩
    · have s5 := But.same s4 hp b5
      refine ⟨_, rfl, p, pc, 101, rfl, h5, by decide, by decide, fun d H6 d0 d1 h6 b6 => ⟨_, _, rfl, rfl, _, rfl, by omega, by omega, fun D hD => ?_⟩⟩
      have s6 := But.same s5 hp b6
      have nD : D ≠ p := h6.nef hD
      refine comp_range (n := (100 + d).toNat) (fun m ys H' => (∃ G : List Int, ys = G.map V.int ∧ G.length = m) ∧ Same H6 H') ⟨⟨[], rfl, rfl⟩, Same.new _ hD⟩ (fun ys H7 ⟨⟨G, e1, lG⟩, s7⟩ hD7 => ?_) (fun m ys H7 hm ⟨⟨G, e1, lG⟩, s7⟩ hD7 => ?_)
      · subst e1
        exact k5 fi by_ p pc D G _ _ _ _ _ _ _ H7 (h6.same s7) (s6.trans s7) hp hD7 nD (by omega)
      · refine ⟨rfl, _, rfl, _, _, rfl, rfl, _, rfl, _, _, rfl, rfl, mulL (by omega) (by omega), _, _, rfl, rfl, hD7, ?_, nx hm ⟨⟨G ++ [(1 + (by_ : Int)) * (0 + (m : Int)) - 50], ?_, ?_⟩, fun b o e => ?_⟩⟩
        · rw [e1, List.length_map, lG]
          exact Nat.lt_of_lt_of_le hm (Nat.le_trans (show (100 + d).toNat ≤ 300 by omega) (by decide))
        · rw [e1, List.map_append]
          rfl
        · rw [List.length_append, lG]
          rfl
        · rw [upd_ne (ne_of_none e hD)]
          exact s7 _ _ e
    · exact k5 fi by_ p pc la F _ _ _ _ _ _ _ H5 h5 (But.same s4 hp b5) hp (b5 _ _ hla nla) nla (by omega)
end
end K25
end
section
set_option Elab.async false
set_option linter.all false
set_option maxRecDepth 100000
set_option maxHeartbeats 4000000
namespace K25
open PySem L2 PyProof.Rows
def kOne (K : PySem.W.Frag) (S C : Addr) : Bool :=
  ((PySem.W.makesIn K C && PySem.W.findIn K (.ref C) "__init__" == some (some (.builtin "object.__init__"))) && (PySem.W.keepIn K (.ref C) && PySem.W.plainGet K C Str.empty)) && ((PySem.W.hasDictIn K C && PySem.W.plainOver K C) &&
  ((PySem.W.findIn K (.ref C) "__setattr__" == some (some (.builtin "object.__setattr__")) && PySem.W.kitOne K (.ref C) (.ref S) == some true) && ((PySem.W.findIn K (.ref C) "__class__" == some (some (.builtin "object.__class__")) &&
  PySem.W.specialIn K (.builtin "object.__class__") "__get__" == some (some (.builtin "getset_descriptor.__get__"))) && (PySem.W.takesIn K (.builtin "object.__class__") == some true && PySem.W.mroIn K C (.type "object") == some true))))
theorem kOne_of {K : PySem.W.Frag} {S C : Addr} (h : kOne K S C = true) : ((PySem.W.makesIn K C = true ∧ PySem.W.findIn K (.ref C) "__init__" = some (some (.builtin "object.__init__"))) ∧ (PySem.W.keepIn K (.ref C) = true ∧ PySem.W.plainGet K C Str.empty = true)) ∧ ((PySem.W.hasDictIn K C = true ∧ PySem.W.plainOver K C = true) ∧
    ((PySem.W.findIn K (.ref C) "__setattr__" = some (some (.builtin "object.__setattr__")) ∧ PySem.W.kitOne K (.ref C) (.ref S) = some true) ∧ ((PySem.W.findIn K (.ref C) "__class__" = some (some (.builtin "object.__class__")) ∧
    PySem.W.specialIn K (.builtin "object.__class__") "__get__" = some (some (.builtin "getset_descriptor.__get__"))) ∧ (PySem.W.takesIn K (.builtin "object.__class__") = some true ∧ PySem.W.mroIn K C (.type "object") = some true)))) := by
  unfold kOne at h
  simp only [Bool.and_eq_true, beq_iff_eq] at h
  exact h
theorem all6 {p : Nat → Prop} (h0 : p 0) (h1 : p 1) (h2 : p 2) (h3 : p 3) (h4 : p 4) (h5 : p 5) : ∀ i, i < 6 → p i
  | 0, _ => h0 | 1, _ => h1 | 2, _ => h2 | 3, _ => h3 | 4, _ => h4 | 5, _ => h5
  | n + 6, h => absurd h (by omega)
def RX_X (K : PySem.W.Frag) (mg : Str → Option Value) (p : (Nat → Addr) × Addr) : Prop := RX K mg p.1 p.2 ∧ (∃ f fd, MLk K (p.1 0) "word" "Count.word" s_Count_word ["self"] f fd) ∧ (∃ f fd, MLk K (p.1 1) "word" "Total.word" s_Total_word ["self"] f fd) ∧ (∃ f fd, MLk K (p.1 2) "word" "Least.word" s_Least_word ["self"] f fd) ∧ (∃ f fd, MLk K (p.1 3) "word" "Greatest.word" s_Greatest_word ["self"] f fd) ∧ (∃ f fd, MLk K (p.1 4) "word" "Last.word" s_Last_word ["self"] f fd) ∧ (∃ f fd, MLk K (p.1 5) "word" "Unlike.word" s_Unlike_word ["self"] f fd) ∧ (∃ f fd, MLk K (p.1 0) "weighs" "Count.weighs" s_Count_weighs ["self", "part", "value"] f fd) ∧ (∃ f fd, MLk K (p.1 1) "weighs" "Total.weighs" s_Total_weighs ["self", "part", "value"] f fd) ∧ (∃ f fd, MLk K (p.1 2) "weighs" "Least.weighs" s_Least_weighs ["self", "part", "value"] f fd) ∧ (∃ f fd, MLk K (p.1 3) "weighs" "Greatest.weighs" s_Greatest_weighs ["self", "part", "value"] f fd) ∧ (∃ f fd, MLk K (p.1 4) "weighs" "Last.weighs" s_Last_weighs ["self", "part", "value"] f fd) ∧ (∃ f fd, MLk K (p.1 5) "weighs" "Unlike.weighs" s_Unlike_weighs ["self", "part", "value"] f fd) ∧ (∃ f fd, MLk K (p.1 0) "trimmed" "Count.trimmed" s_Count_trimmed ["self", "part", "value"] f fd) ∧ (∃ f fd, MLk K (p.1 1) "trimmed" "Total.trimmed" s_Total_trimmed ["self", "part", "value"] f fd) ∧ (∃ f fd, MLk K (p.1 2) "trimmed" "Least.trimmed" s_Least_trimmed ["self", "part", "value"] f fd) ∧ (∃ f fd, MLk K (p.1 3) "trimmed" "Greatest.trimmed" s_Greatest_trimmed ["self", "part", "value"] f fd) ∧ (∃ f fd, MLk K (p.1 4) "trimmed" "Last.trimmed" s_Last_trimmed ["self", "part", "value"] f fd) ∧ (∃ f fd, MLk K (p.1 5) "trimmed" "Unlike.trimmed" s_Unlike_trimmed ["self", "part", "value"] f fd) ∧ (∃ f fd, MLk K (p.1 0) "behind" "Count.behind" s_Count_behind ["self", "part", "value"] f fd) ∧ (∃ f fd, MLk K (p.1 1) "behind" "Total.behind" s_Total_behind ["self", "part", "value"] f fd) ∧ (∃ f fd, MLk K (p.1 2) "behind" "Least.behind" s_Least_behind ["self", "part", "value"] f fd) ∧ (∃ f fd, MLk K (p.1 3) "behind" "Greatest.behind" s_Greatest_behind ["self", "part", "value"] f fd) ∧ (∃ f fd, MLk K (p.1 4) "behind" "Last.behind" s_Last_behind ["self", "part", "value"] f fd) ∧ (∃ f fd, MLk K (p.1 5) "behind" "Unlike.behind" s_Unlike_behind ["self", "part", "value"] f fd) ∧ (∃ f fd, MLk K (p.1 0) "shown" "Count.shown" s_Count_shown ["self", "part", "values"] f fd) ∧ (∃ f fd, MLk K (p.1 1) "shown" "Total.shown" s_Total_shown ["self", "part", "values"] f fd) ∧ (∃ f fd, MLk K (p.1 2) "shown" "Least.shown" s_Least_shown ["self", "part", "values"] f fd) ∧ (∃ f fd, MLk K (p.1 3) "shown" "Greatest.shown" s_Greatest_shown ["self", "part", "values"] f fd) ∧ (∃ f fd, MLk K (p.1 4) "shown" "Last.shown" s_Last_shown ["self", "part", "values"] f fd) ∧ (∃ f fd, MLk K (p.1 5) "shown" "Unlike.shown" s_Unlike_shown ["self", "part", "values"] f fd)
theorem rx_X_mk {K : PySem.W.Frag} {h : Heap} {mg : Str → Option Value} {S c0 c1 c2 c3 c4 c5 f0 f1 f2 f3 f4 f5 f6 f7 f8 f9 f10 f11 f12 f13 f14 f15 f16 f17 f18 f19 f20 f21 f22 f23 f24 f25 f26 f27 f28 f29 : Addr} {od0 an0 od1 an1 od2 an2 od3 an3 od4 an4 od5 an5 od6 an6 od7 an7 od8 an8 od9 an9 od10 an10 od11 an11 od12 an12 od13 an13 od14 an14 od15 an15 od16 an16 od17 an17 od18 an18 od19 an19 od20 an20 od21 an21 od22 an22 od23 an23 od24 an24 od25 an25 od26 an26 od27 an27 od28 an28 od29 an29 : Option Addr} {sl0 sl1 sl2 sl3 sl4 sl5 sl6 sl7 sl8 sl9 sl10 sl11 sl12 sl13 sl14 sl15 sl16 sl17 sl18 sl19 sl20 sl21 sl22 sl23 sl24 sl25 sl26 sl27 sl28 sl29 : Array (Option Value)} {oc0 kV0 dc0 pm0 cd0 ct0 oc1 kV1 dc1 pm1 cd1 ct1 oc2 kV2 dc2 pm2 cd2 ct2 oc3 kV3 dc3 pm3 cd3 ct3 oc4 kV4 dc4 pm4 cd4 ct4 oc5 kV5 dc5 pm5 cd5 ct5 oc6 kV6 dc6 pm6 cd6 ct6 oc7 kV7 dc7 pm7 cd7 ct7 oc8 kV8 dc8 pm8 cd8 ct8 oc9 kV9 dc9 pm9 cd9 ct9 oc10 kV10 dc10 pm10 cd10 ct10 oc11 kV11 dc11 pm11 cd11 ct11 oc12 kV12 dc12 pm12 cd12 ct12 oc13 kV13 dc13 pm13 cd13 ct13 oc14 kV14 dc14 pm14 cd14 ct14 oc15 kV15 dc15 pm15 cd15 ct15 oc16 kV16 dc16 pm16 cd16 ct16 oc17 kV17 dc17 pm17 cd17 ct17 oc18 kV18 dc18 pm18 cd18 ct18 oc19 kV19 dc19 pm19 cd19 ct19 oc20 kV20 dc20 pm20 cd20 ct20 oc21 kV21 dc21 pm21 cd21 ct21 oc22 kV22 dc22 pm22 cd22 ct22 oc23 kV23 dc23 pm23 cd23 ct23 oc24 kV24 dc24 pm24 cd24 ct24 oc25 kV25 dc25 pm25 cd25 ct25 oc26 kV26 dc26 pm26 cd26 ct26 oc27 kV27 dc27 pm27 cd27 ct27 oc28 kV28 dc28 pm28 cd28 ct28 oc29 kV29 dc29 pm29 cd29 ct29 : Value} (X : K.In h) (G : h.Ns mainGlobals mg)
    (aS : PySem.W.nsIn K mainGlobals "Sum" = some (some (.ref S)))
    (g0 : PySem.W.nsIn K mainGlobals "Count" = some (some (.ref c0)))
    (g1 : PySem.W.nsIn K mainGlobals "Total" = some (some (.ref c1)))
    (g2 : PySem.W.nsIn K mainGlobals "Least" = some (some (.ref c2)))
    (g3 : PySem.W.nsIn K mainGlobals "Greatest" = some (some (.ref c3)))
    (g4 : PySem.W.nsIn K mainGlobals "Last" = some (some (.ref c4)))
    (g5 : PySem.W.nsIn K mainGlobals "Unlike" = some (some (.ref c5)))
    (a0 : PySem.W.findIn K (.ref c0) "word" = some (some (.ref f0))) (i0 : PySem.W.isFn K (.ref f0) = true) (l0 : K.lookup f0 = some ⟨oc0, od0, .func (PySem.W.fnOf "word" "Count.word" (defArgs s_Count_word) (defBody s_Count_word) (defScope s_Count_word) .none kV0 dc0 pm0 an0 cd0 ct0), sl0⟩) (d0 : PySem.W.codeIn K cd0 "Count.word" = true) (k0 : PySem.W.keepIn K (.ref f0) = true)
    (a1 : PySem.W.findIn K (.ref c1) "word" = some (some (.ref f1))) (i1 : PySem.W.isFn K (.ref f1) = true) (l1 : K.lookup f1 = some ⟨oc1, od1, .func (PySem.W.fnOf "word" "Total.word" (defArgs s_Total_word) (defBody s_Total_word) (defScope s_Total_word) .none kV1 dc1 pm1 an1 cd1 ct1), sl1⟩) (d1 : PySem.W.codeIn K cd1 "Total.word" = true) (k1 : PySem.W.keepIn K (.ref f1) = true)
    (a2 : PySem.W.findIn K (.ref c2) "word" = some (some (.ref f2))) (i2 : PySem.W.isFn K (.ref f2) = true) (l2 : K.lookup f2 = some ⟨oc2, od2, .func (PySem.W.fnOf "word" "Least.word" (defArgs s_Least_word) (defBody s_Least_word) (defScope s_Least_word) .none kV2 dc2 pm2 an2 cd2 ct2), sl2⟩) (d2 : PySem.W.codeIn K cd2 "Least.word" = true) (k2 : PySem.W.keepIn K (.ref f2) = true)
    (a3 : PySem.W.findIn K (.ref c3) "word" = some (some (.ref f3))) (i3 : PySem.W.isFn K (.ref f3) = true) (l3 : K.lookup f3 = some ⟨oc3, od3, .func (PySem.W.fnOf "word" "Greatest.word" (defArgs s_Greatest_word) (defBody s_Greatest_word) (defScope s_Greatest_word) .none kV3 dc3 pm3 an3 cd3 ct3), sl3⟩) (d3 : PySem.W.codeIn K cd3 "Greatest.word" = true) (k3 : PySem.W.keepIn K (.ref f3) = true)
    (a4 : PySem.W.findIn K (.ref c4) "word" = some (some (.ref f4))) (i4 : PySem.W.isFn K (.ref f4) = true) (l4 : K.lookup f4 = some ⟨oc4, od4, .func (PySem.W.fnOf "word" "Last.word" (defArgs s_Last_word) (defBody s_Last_word) (defScope s_Last_word) .none kV4 dc4 pm4 an4 cd4 ct4), sl4⟩) (d4 : PySem.W.codeIn K cd4 "Last.word" = true) (k4 : PySem.W.keepIn K (.ref f4) = true)
    (a5 : PySem.W.findIn K (.ref c5) "word" = some (some (.ref f5))) (i5 : PySem.W.isFn K (.ref f5) = true) (l5 : K.lookup f5 = some ⟨oc5, od5, .func (PySem.W.fnOf "word" "Unlike.word" (defArgs s_Unlike_word) (defBody s_Unlike_word) (defScope s_Unlike_word) .none kV5 dc5 pm5 an5 cd5 ct5), sl5⟩) (d5 : PySem.W.codeIn K cd5 "Unlike.word" = true) (k5 : PySem.W.keepIn K (.ref f5) = true)
    (a6 : PySem.W.findIn K (.ref c0) "weighs" = some (some (.ref f6))) (i6 : PySem.W.isFn K (.ref f6) = true) (l6 : K.lookup f6 = some ⟨oc6, od6, .func (PySem.W.fnOf "weighs" "Count.weighs" (defArgs s_Count_weighs) (defBody s_Count_weighs) (defScope s_Count_weighs) .none kV6 dc6 pm6 an6 cd6 ct6), sl6⟩) (d6 : PySem.W.codeIn K cd6 "Count.weighs" = true) (k6 : PySem.W.keepIn K (.ref f6) = true)
    (a7 : PySem.W.findIn K (.ref c1) "weighs" = some (some (.ref f7))) (i7 : PySem.W.isFn K (.ref f7) = true) (l7 : K.lookup f7 = some ⟨oc7, od7, .func (PySem.W.fnOf "weighs" "Total.weighs" (defArgs s_Total_weighs) (defBody s_Total_weighs) (defScope s_Total_weighs) .none kV7 dc7 pm7 an7 cd7 ct7), sl7⟩) (d7 : PySem.W.codeIn K cd7 "Total.weighs" = true) (k7 : PySem.W.keepIn K (.ref f7) = true)
    (a8 : PySem.W.findIn K (.ref c2) "weighs" = some (some (.ref f8))) (i8 : PySem.W.isFn K (.ref f8) = true) (l8 : K.lookup f8 = some ⟨oc8, od8, .func (PySem.W.fnOf "weighs" "Least.weighs" (defArgs s_Least_weighs) (defBody s_Least_weighs) (defScope s_Least_weighs) .none kV8 dc8 pm8 an8 cd8 ct8), sl8⟩) (d8 : PySem.W.codeIn K cd8 "Least.weighs" = true) (k8 : PySem.W.keepIn K (.ref f8) = true)
    (a9 : PySem.W.findIn K (.ref c3) "weighs" = some (some (.ref f9))) (i9 : PySem.W.isFn K (.ref f9) = true) (l9 : K.lookup f9 = some ⟨oc9, od9, .func (PySem.W.fnOf "weighs" "Greatest.weighs" (defArgs s_Greatest_weighs) (defBody s_Greatest_weighs) (defScope s_Greatest_weighs) .none kV9 dc9 pm9 an9 cd9 ct9), sl9⟩) (d9 : PySem.W.codeIn K cd9 "Greatest.weighs" = true) (k9 : PySem.W.keepIn K (.ref f9) = true)
    (a10 : PySem.W.findIn K (.ref c4) "weighs" = some (some (.ref f10))) (i10 : PySem.W.isFn K (.ref f10) = true) (l10 : K.lookup f10 = some ⟨oc10, od10, .func (PySem.W.fnOf "weighs" "Last.weighs" (defArgs s_Last_weighs) (defBody s_Last_weighs) (defScope s_Last_weighs) .none kV10 dc10 pm10 an10 cd10 ct10), sl10⟩) (d10 : PySem.W.codeIn K cd10 "Last.weighs" = true) (k10 : PySem.W.keepIn K (.ref f10) = true)
    (a11 : PySem.W.findIn K (.ref c5) "weighs" = some (some (.ref f11))) (i11 : PySem.W.isFn K (.ref f11) = true) (l11 : K.lookup f11 = some ⟨oc11, od11, .func (PySem.W.fnOf "weighs" "Unlike.weighs" (defArgs s_Unlike_weighs) (defBody s_Unlike_weighs) (defScope s_Unlike_weighs) .none kV11 dc11 pm11 an11 cd11 ct11), sl11⟩) (d11 : PySem.W.codeIn K cd11 "Unlike.weighs" = true) (k11 : PySem.W.keepIn K (.ref f11) = true)
    (a12 : PySem.W.findIn K (.ref c0) "trimmed" = some (some (.ref f12))) (i12 : PySem.W.isFn K (.ref f12) = true) (l12 : K.lookup f12 = some ⟨oc12, od12, .func (PySem.W.fnOf "trimmed" "Count.trimmed" (defArgs s_Count_trimmed) (defBody s_Count_trimmed) (defScope s_Count_trimmed) .none kV12 dc12 pm12 an12 cd12 ct12), sl12⟩) (d12 : PySem.W.codeIn K cd12 "Count.trimmed" = true) (k12 : PySem.W.keepIn K (.ref f12) = true)
    (a13 : PySem.W.findIn K (.ref c1) "trimmed" = some (some (.ref f13))) (i13 : PySem.W.isFn K (.ref f13) = true) (l13 : K.lookup f13 = some ⟨oc13, od13, .func (PySem.W.fnOf "trimmed" "Total.trimmed" (defArgs s_Total_trimmed) (defBody s_Total_trimmed) (defScope s_Total_trimmed) .none kV13 dc13 pm13 an13 cd13 ct13), sl13⟩) (d13 : PySem.W.codeIn K cd13 "Total.trimmed" = true) (k13 : PySem.W.keepIn K (.ref f13) = true)
    (a14 : PySem.W.findIn K (.ref c2) "trimmed" = some (some (.ref f14))) (i14 : PySem.W.isFn K (.ref f14) = true) (l14 : K.lookup f14 = some ⟨oc14, od14, .func (PySem.W.fnOf "trimmed" "Least.trimmed" (defArgs s_Least_trimmed) (defBody s_Least_trimmed) (defScope s_Least_trimmed) .none kV14 dc14 pm14 an14 cd14 ct14), sl14⟩) (d14 : PySem.W.codeIn K cd14 "Least.trimmed" = true) (k14 : PySem.W.keepIn K (.ref f14) = true)
    (a15 : PySem.W.findIn K (.ref c3) "trimmed" = some (some (.ref f15))) (i15 : PySem.W.isFn K (.ref f15) = true) (l15 : K.lookup f15 = some ⟨oc15, od15, .func (PySem.W.fnOf "trimmed" "Greatest.trimmed" (defArgs s_Greatest_trimmed) (defBody s_Greatest_trimmed) (defScope s_Greatest_trimmed) .none kV15 dc15 pm15 an15 cd15 ct15), sl15⟩) (d15 : PySem.W.codeIn K cd15 "Greatest.trimmed" = true) (k15 : PySem.W.keepIn K (.ref f15) = true)
    (a16 : PySem.W.findIn K (.ref c4) "trimmed" = some (some (.ref f16))) (i16 : PySem.W.isFn K (.ref f16) = true) (l16 : K.lookup f16 = some ⟨oc16, od16, .func (PySem.W.fnOf "trimmed" "Last.trimmed" (defArgs s_Last_trimmed) (defBody s_Last_trimmed) (defScope s_Last_trimmed) .none kV16 dc16 pm16 an16 cd16 ct16), sl16⟩) (d16 : PySem.W.codeIn K cd16 "Last.trimmed" = true) (k16 : PySem.W.keepIn K (.ref f16) = true)
    (a17 : PySem.W.findIn K (.ref c5) "trimmed" = some (some (.ref f17))) (i17 : PySem.W.isFn K (.ref f17) = true) (l17 : K.lookup f17 = some ⟨oc17, od17, .func (PySem.W.fnOf "trimmed" "Unlike.trimmed" (defArgs s_Unlike_trimmed) (defBody s_Unlike_trimmed) (defScope s_Unlike_trimmed) .none kV17 dc17 pm17 an17 cd17 ct17), sl17⟩) (d17 : PySem.W.codeIn K cd17 "Unlike.trimmed" = true) (k17 : PySem.W.keepIn K (.ref f17) = true)
    (a18 : PySem.W.findIn K (.ref c0) "behind" = some (some (.ref f18))) (i18 : PySem.W.isFn K (.ref f18) = true) (l18 : K.lookup f18 = some ⟨oc18, od18, .func (PySem.W.fnOf "behind" "Count.behind" (defArgs s_Count_behind) (defBody s_Count_behind) (defScope s_Count_behind) .none kV18 dc18 pm18 an18 cd18 ct18), sl18⟩) (d18 : PySem.W.codeIn K cd18 "Count.behind" = true) (k18 : PySem.W.keepIn K (.ref f18) = true)
    (a19 : PySem.W.findIn K (.ref c1) "behind" = some (some (.ref f19))) (i19 : PySem.W.isFn K (.ref f19) = true) (l19 : K.lookup f19 = some ⟨oc19, od19, .func (PySem.W.fnOf "behind" "Total.behind" (defArgs s_Total_behind) (defBody s_Total_behind) (defScope s_Total_behind) .none kV19 dc19 pm19 an19 cd19 ct19), sl19⟩) (d19 : PySem.W.codeIn K cd19 "Total.behind" = true) (k19 : PySem.W.keepIn K (.ref f19) = true)
    (a20 : PySem.W.findIn K (.ref c2) "behind" = some (some (.ref f20))) (i20 : PySem.W.isFn K (.ref f20) = true) (l20 : K.lookup f20 = some ⟨oc20, od20, .func (PySem.W.fnOf "behind" "Least.behind" (defArgs s_Least_behind) (defBody s_Least_behind) (defScope s_Least_behind) .none kV20 dc20 pm20 an20 cd20 ct20), sl20⟩) (d20 : PySem.W.codeIn K cd20 "Least.behind" = true) (k20 : PySem.W.keepIn K (.ref f20) = true)
    (a21 : PySem.W.findIn K (.ref c3) "behind" = some (some (.ref f21))) (i21 : PySem.W.isFn K (.ref f21) = true) (l21 : K.lookup f21 = some ⟨oc21, od21, .func (PySem.W.fnOf "behind" "Greatest.behind" (defArgs s_Greatest_behind) (defBody s_Greatest_behind) (defScope s_Greatest_behind) .none kV21 dc21 pm21 an21 cd21 ct21), sl21⟩) (d21 : PySem.W.codeIn K cd21 "Greatest.behind" = true) (k21 : PySem.W.keepIn K (.ref f21) = true)
    (a22 : PySem.W.findIn K (.ref c4) "behind" = some (some (.ref f22))) (i22 : PySem.W.isFn K (.ref f22) = true) (l22 : K.lookup f22 = some ⟨oc22, od22, .func (PySem.W.fnOf "behind" "Last.behind" (defArgs s_Last_behind) (defBody s_Last_behind) (defScope s_Last_behind) .none kV22 dc22 pm22 an22 cd22 ct22), sl22⟩) (d22 : PySem.W.codeIn K cd22 "Last.behind" = true) (k22 : PySem.W.keepIn K (.ref f22) = true)
    (a23 : PySem.W.findIn K (.ref c5) "behind" = some (some (.ref f23))) (i23 : PySem.W.isFn K (.ref f23) = true) (l23 : K.lookup f23 = some ⟨oc23, od23, .func (PySem.W.fnOf "behind" "Unlike.behind" (defArgs s_Unlike_behind) (defBody s_Unlike_behind) (defScope s_Unlike_behind) .none kV23 dc23 pm23 an23 cd23 ct23), sl23⟩) (d23 : PySem.W.codeIn K cd23 "Unlike.behind" = true) (k23 : PySem.W.keepIn K (.ref f23) = true)
    (a24 : PySem.W.findIn K (.ref c0) "shown" = some (some (.ref f24))) (i24 : PySem.W.isFn K (.ref f24) = true) (l24 : K.lookup f24 = some ⟨oc24, od24, .func (PySem.W.fnOf "shown" "Count.shown" (defArgs s_Count_shown) (defBody s_Count_shown) (defScope s_Count_shown) .none kV24 dc24 pm24 an24 cd24 ct24), sl24⟩) (d24 : PySem.W.codeIn K cd24 "Count.shown" = true) (k24 : PySem.W.keepIn K (.ref f24) = true)
    (a25 : PySem.W.findIn K (.ref c1) "shown" = some (some (.ref f25))) (i25 : PySem.W.isFn K (.ref f25) = true) (l25 : K.lookup f25 = some ⟨oc25, od25, .func (PySem.W.fnOf "shown" "Total.shown" (defArgs s_Total_shown) (defBody s_Total_shown) (defScope s_Total_shown) .none kV25 dc25 pm25 an25 cd25 ct25), sl25⟩) (d25 : PySem.W.codeIn K cd25 "Total.shown" = true) (k25 : PySem.W.keepIn K (.ref f25) = true)
    (a26 : PySem.W.findIn K (.ref c2) "shown" = some (some (.ref f26))) (i26 : PySem.W.isFn K (.ref f26) = true) (l26 : K.lookup f26 = some ⟨oc26, od26, .func (PySem.W.fnOf "shown" "Least.shown" (defArgs s_Least_shown) (defBody s_Least_shown) (defScope s_Least_shown) .none kV26 dc26 pm26 an26 cd26 ct26), sl26⟩) (d26 : PySem.W.codeIn K cd26 "Least.shown" = true) (k26 : PySem.W.keepIn K (.ref f26) = true)
    (a27 : PySem.W.findIn K (.ref c3) "shown" = some (some (.ref f27))) (i27 : PySem.W.isFn K (.ref f27) = true) (l27 : K.lookup f27 = some ⟨oc27, od27, .func (PySem.W.fnOf "shown" "Greatest.shown" (defArgs s_Greatest_shown) (defBody s_Greatest_shown) (defScope s_Greatest_shown) .none kV27 dc27 pm27 an27 cd27 ct27), sl27⟩) (d27 : PySem.W.codeIn K cd27 "Greatest.shown" = true) (k27 : PySem.W.keepIn K (.ref f27) = true)
    (a28 : PySem.W.findIn K (.ref c4) "shown" = some (some (.ref f28))) (i28 : PySem.W.isFn K (.ref f28) = true) (l28 : K.lookup f28 = some ⟨oc28, od28, .func (PySem.W.fnOf "shown" "Last.shown" (defArgs s_Last_shown) (defBody s_Last_shown) (defScope s_Last_shown) .none kV28 dc28 pm28 an28 cd28 ct28), sl28⟩) (d28 : PySem.W.codeIn K cd28 "Last.shown" = true) (k28 : PySem.W.keepIn K (.ref f28) = true)
    (a29 : PySem.W.findIn K (.ref c5) "shown" = some (some (.ref f29))) (i29 : PySem.W.isFn K (.ref f29) = true) (l29 : K.lookup f29 = some ⟨oc29, od29, .func (PySem.W.fnOf "shown" "Unlike.shown" (defArgs s_Unlike_shown) (defBody s_Unlike_shown) (defScope s_Unlike_shown) .none kV29 dc29 pm29 an29 cd29 ct29), sl29⟩) (d29 : PySem.W.codeIn K cd29 "Unlike.shown" = true) (k29 : PySem.W.keepIn K (.ref f29) = true)
    (chk : ([c0, c1, c2, c3, c4, c5].all fun C => kOne K S C) = true) : ∃ C, RX_X K mg C := by
  have o : ∀ C, C ∈ [c0, c1, c2, c3, c4, c5] → _ := fun C m => kOne_of (List.all_eq_true.mp chk C m)
  have o0 := o c0 (by simp)
  have o1 := o c1 (by simp)
  have o2 := o c2 (by simp)
  have o3 := o c3 (by simp)
  have o4 := o c4 (by simp)
  have o5 := o c5 (by simp)
  have F0 := fun_mk (st := s_Count_word) l0 d0 k0
  have b0 := F0.binds (ps := ["self"]) fun _ _ _ _ _ _ us hl => match us, hl with | [_], _ => rfl
  have F1 := fun_mk (st := s_Total_word) l1 d1 k1
  have b1 := F1.binds (ps := ["self"]) fun _ _ _ _ _ _ us hl => match us, hl with | [_], _ => rfl
  have F2 := fun_mk (st := s_Least_word) l2 d2 k2
  have b2 := F2.binds (ps := ["self"]) fun _ _ _ _ _ _ us hl => match us, hl with | [_], _ => rfl
  have F3 := fun_mk (st := s_Greatest_word) l3 d3 k3
  have b3 := F3.binds (ps := ["self"]) fun _ _ _ _ _ _ us hl => match us, hl with | [_], _ => rfl
  have F4 := fun_mk (st := s_Last_word) l4 d4 k4
  have b4 := F4.binds (ps := ["self"]) fun _ _ _ _ _ _ us hl => match us, hl with | [_], _ => rfl
  have F5 := fun_mk (st := s_Unlike_word) l5 d5 k5
  have b5 := F5.binds (ps := ["self"]) fun _ _ _ _ _ _ us hl => match us, hl with | [_], _ => rfl
  have F6 := fun_mk (st := s_Count_weighs) l6 d6 k6
  have b6 := F6.binds (ps := ["self", "part", "value"]) fun _ _ _ _ _ _ us hl => match us, hl with | [_, _, _], _ => rfl
  have F7 := fun_mk (st := s_Total_weighs) l7 d7 k7
  have b7 := F7.binds (ps := ["self", "part", "value"]) fun _ _ _ _ _ _ us hl => match us, hl with | [_, _, _], _ => rfl
  have F8 := fun_mk (st := s_Least_weighs) l8 d8 k8
  have b8 := F8.binds (ps := ["self", "part", "value"]) fun _ _ _ _ _ _ us hl => match us, hl with | [_, _, _], _ => rfl
  have F9 := fun_mk (st := s_Greatest_weighs) l9 d9 k9
  have b9 := F9.binds (ps := ["self", "part", "value"]) fun _ _ _ _ _ _ us hl => match us, hl with | [_, _, _], _ => rfl
  have F10 := fun_mk (st := s_Last_weighs) l10 d10 k10
  have b10 := F10.binds (ps := ["self", "part", "value"]) fun _ _ _ _ _ _ us hl => match us, hl with | [_, _, _], _ => rfl
  have F11 := fun_mk (st := s_Unlike_weighs) l11 d11 k11
  have b11 := F11.binds (ps := ["self", "part", "value"]) fun _ _ _ _ _ _ us hl => match us, hl with | [_, _, _], _ => rfl
  have F12 := fun_mk (st := s_Count_trimmed) l12 d12 k12
  have b12 := F12.binds (ps := ["self", "part", "value"]) fun _ _ _ _ _ _ us hl => match us, hl with | [_, _, _], _ => rfl
  have F13 := fun_mk (st := s_Total_trimmed) l13 d13 k13
  have b13 := F13.binds (ps := ["self", "part", "value"]) fun _ _ _ _ _ _ us hl => match us, hl with | [_, _, _], _ => rfl
  have F14 := fun_mk (st := s_Least_trimmed) l14 d14 k14
  have b14 := F14.binds (ps := ["self", "part", "value"]) fun _ _ _ _ _ _ us hl => match us, hl with | [_, _, _], _ => rfl
  have F15 := fun_mk (st := s_Greatest_trimmed) l15 d15 k15
  have b15 := F15.binds (ps := ["self", "part", "value"]) fun _ _ _ _ _ _ us hl => match us, hl with | [_, _, _], _ => rfl
  have F16 := fun_mk (st := s_Last_trimmed) l16 d16 k16
  have b16 := F16.binds (ps := ["self", "part", "value"]) fun _ _ _ _ _ _ us hl => match us, hl with | [_, _, _], _ => rfl
  have F17 := fun_mk (st := s_Unlike_trimmed) l17 d17 k17
  have b17 := F17.binds (ps := ["self", "part", "value"]) fun _ _ _ _ _ _ us hl => match us, hl with | [_, _, _], _ => rfl
  have F18 := fun_mk (st := s_Count_behind) l18 d18 k18
  have b18 := F18.binds (ps := ["self", "part", "value"]) fun _ _ _ _ _ _ us hl => match us, hl with | [_, _, _], _ => rfl
  have F19 := fun_mk (st := s_Total_behind) l19 d19 k19
  have b19 := F19.binds (ps := ["self", "part", "value"]) fun _ _ _ _ _ _ us hl => match us, hl with | [_, _, _], _ => rfl
  have F20 := fun_mk (st := s_Least_behind) l20 d20 k20
  have b20 := F20.binds (ps := ["self", "part", "value"]) fun _ _ _ _ _ _ us hl => match us, hl with | [_, _, _], _ => rfl
  have F21 := fun_mk (st := s_Greatest_behind) l21 d21 k21
  have b21 := F21.binds (ps := ["self", "part", "value"]) fun _ _ _ _ _ _ us hl => match us, hl with | [_, _, _], _ => rfl
  have F22 := fun_mk (st := s_Last_behind) l22 d22 k22
  have b22 := F22.binds (ps := ["self", "part", "value"]) fun _ _ _ _ _ _ us hl => match us, hl with | [_, _, _], _ => rfl
  have F23 := fun_mk (st := s_Unlike_behind) l23 d23 k23
  have b23 := F23.binds (ps := ["self", "part", "value"]) fun _ _ _ _ _ _ us hl => match us, hl with | [_, _, _], _ => rfl
  have F24 := fun_mk (st := s_Count_shown) l24 d24 k24
  have b24 := F24.binds (ps := ["self", "part", "values"]) fun _ _ _ _ _ _ us hl => match us, hl with | [_, _, _], _ => rfl
  have F25 := fun_mk (st := s_Total_shown) l25 d25 k25
  have b25 := F25.binds (ps := ["self", "part", "values"]) fun _ _ _ _ _ _ us hl => match us, hl with | [_, _, _], _ => rfl
  have F26 := fun_mk (st := s_Least_shown) l26 d26 k26
  have b26 := F26.binds (ps := ["self", "part", "values"]) fun _ _ _ _ _ _ us hl => match us, hl with | [_, _, _], _ => rfl
  have F27 := fun_mk (st := s_Greatest_shown) l27 d27 k27
  have b27 := F27.binds (ps := ["self", "part", "values"]) fun _ _ _ _ _ _ us hl => match us, hl with | [_, _, _], _ => rfl
  have F28 := fun_mk (st := s_Last_shown) l28 d28 k28
  have b28 := F28.binds (ps := ["self", "part", "values"]) fun _ _ _ _ _ _ us hl => match us, hl with | [_, _, _], _ => rfl
  have F29 := fun_mk (st := s_Unlike_shown) l29 d29 k29
  have b29 := F29.binds (ps := ["self", "part", "values"]) fun _ _ _ _ _ _ us hl => match us, hl with | [_, _, _], _ => rfl
  refine ⟨⟨fun i => [c0, c1, c2, c3, c4, c5].getD i 0, S⟩, ⟨⟨o0.1.1.1, o0.1.1.2, o0.1.2.1, PySem.W.mg_of X G g0⟩, ⟨o1.1.1.1, o1.1.1.2, o1.1.2.1, PySem.W.mg_of X G g1⟩, ⟨o2.1.1.1, o2.1.1.2, o2.1.2.1, PySem.W.mg_of X G g2⟩, ⟨o3.1.1.1, o3.1.1.2, o3.1.2.1, PySem.W.mg_of X G g3⟩, ⟨o4.1.1.1, o4.1.1.2, o4.1.2.1, PySem.W.mg_of X G g4⟩, ⟨o5.1.1.1, o5.1.1.2, o5.1.2.1, PySem.W.mg_of X G g5⟩, all6 ⟨o0.1.2.2, o0.2.1.1, o0.2.1.2, o0.2.2.1.1⟩ ⟨o1.1.2.2, o1.2.1.1, o1.2.1.2, o1.2.2.1.1⟩ ⟨o2.1.2.2, o2.2.1.1, o2.2.1.2, o2.2.2.1.1⟩ ⟨o3.1.2.2, o3.2.1.1, o3.2.1.2, o3.2.2.1.1⟩ ⟨o4.1.2.2, o4.2.1.1, o4.2.1.2, o4.2.2.1.1⟩ ⟨o5.1.2.2, o5.2.1.1, o5.2.1.2, o5.2.2.1.1⟩, PySem.W.mg_of X G aS, all6 ⟨o0.2.2.2.1.1, o0.2.2.2.1.2, o0.2.2.2.2.1, o0.2.2.2.2.2⟩ ⟨o1.2.2.2.1.1, o1.2.2.2.1.2, o1.2.2.2.2.1, o1.2.2.2.2.2⟩ ⟨o2.2.2.2.1.1, o2.2.2.2.1.2, o2.2.2.2.2.1, o2.2.2.2.2.2⟩ ⟨o3.2.2.2.1.1, o3.2.2.2.1.2, o3.2.2.2.2.1, o3.2.2.2.2.2⟩ ⟨o4.2.2.2.1.1, o4.2.2.2.1.2, o4.2.2.2.2.1, o4.2.2.2.2.2⟩ ⟨o5.2.2.2.1.1, o5.2.2.2.1.2, o5.2.2.2.2.1, o5.2.2.2.2.2⟩, all6 o0.2.2.1.2 o1.2.2.1.2 o2.2.2.1.2 o3.2.2.1.2 o4.2.2.1.2 o5.2.2.1.2⟩, ⟨_, _, F0, ⟨a0, i0, k0⟩, b0⟩, ⟨_, _, F1, ⟨a1, i1, k1⟩, b1⟩, ⟨_, _, F2, ⟨a2, i2, k2⟩, b2⟩, ⟨_, _, F3, ⟨a3, i3, k3⟩, b3⟩, ⟨_, _, F4, ⟨a4, i4, k4⟩, b4⟩, ⟨_, _, F5, ⟨a5, i5, k5⟩, b5⟩, ⟨_, _, F6, ⟨a6, i6, k6⟩, b6⟩, ⟨_, _, F7, ⟨a7, i7, k7⟩, b7⟩, ⟨_, _, F8, ⟨a8, i8, k8⟩, b8⟩, ⟨_, _, F9, ⟨a9, i9, k9⟩, b9⟩, ⟨_, _, F10, ⟨a10, i10, k10⟩, b10⟩, ⟨_, _, F11, ⟨a11, i11, k11⟩, b11⟩, ⟨_, _, F12, ⟨a12, i12, k12⟩, b12⟩, ⟨_, _, F13, ⟨a13, i13, k13⟩, b13⟩, ⟨_, _, F14, ⟨a14, i14, k14⟩, b14⟩, ⟨_, _, F15, ⟨a15, i15, k15⟩, b15⟩, ⟨_, _, F16, ⟨a16, i16, k16⟩, b16⟩, ⟨_, _, F17, ⟨a17, i17, k17⟩, b17⟩, ⟨_, _, F18, ⟨a18, i18, k18⟩, b18⟩, ⟨_, _, F19, ⟨a19, i19, k19⟩, b19⟩, ⟨_, _, F20, ⟨a20, i20, k20⟩, b20⟩, ⟨_, _, F21, ⟨a21, i21, k21⟩, b21⟩, ⟨_, _, F22, ⟨a22, i22, k22⟩, b22⟩, ⟨_, _, F23, ⟨a23, i23, k23⟩, b23⟩, ⟨_, _, F24, ⟨a24, i24, k24⟩, b24⟩, ⟨_, _, F25, ⟨a25, i25, k25⟩, b25⟩, ⟨_, _, F26, ⟨a26, i26, k26⟩, b26⟩, ⟨_, _, F27, ⟨a27, i27, k27⟩, b27⟩, ⟨_, _, F28, ⟨a28, i28, k28⟩, b28⟩, ⟨_, _, F29, ⟨a29, i29, k29⟩, b29⟩⟩
end K25
end
section
set_option Elab.async false
set_option linter.all false
set_option maxRecDepth 100000
set_option maxHeartbeats 0
namespace K25
open PySem L2 PyProof.Rows PySem.Spec PySem.W
def qv : Program := PySem.W.view PySem.Challenge.pw_weirmark_k25_what_is_trimmed [0, 2, 4, 5, 6, 8, 9, 10, 11, 12, 14, 15, 17, 19, 20, 21, 22, 23, 24, 25, 26, 27, 28, 29, 30, 31, 32, 33]
def blts : List Str := ["len", "abs", "range", "isinstance", "int", "bool", "str", "list", "tuple", "sum", "min", "max", "set", "sorted", "all", "zip"]
def dfs : List (Str × Stmt) := [("known", s_known), ("unlike_values", s_unlike_values), ("sum_of", s_sum_of), ("_law_open", s_open), ("_law_draw", s_draw), ("_law_far", s_far), ("_law_values", s_values), ("_law_word", s_word), ("_law_sum", s_sum), ("_law_amount", s_amount), ("_law_whole", s_whole), ("_law_is", s_is), ("_law_part", s_part), ("_law_same_part", s_same_part), ("_law_trim", s_trim), ("_law_none_stands", s_none_stands), ("_law_trimmed", s_trimmed), ("law", s_law)]
def mts : List (Str × Str × Str × Stmt) := [("Count", "word", "Count.word", s_Count_word), ("Total", "word", "Total.word", s_Total_word), ("Least", "word", "Least.word", s_Least_word), ("Greatest", "word", "Greatest.word", s_Greatest_word), ("Last", "word", "Last.word", s_Last_word), ("Unlike", "word", "Unlike.word", s_Unlike_word), ("Count", "weighs", "Count.weighs", s_Count_weighs), ("Total", "weighs", "Total.weighs", s_Total_weighs), ("Least", "weighs", "Least.weighs", s_Least_weighs), ("Greatest", "weighs", "Greatest.weighs", s_Greatest_weighs), ("Last", "weighs", "Last.weighs", s_Last_weighs), ("Unlike", "weighs", "Unlike.weighs", s_Unlike_weighs), ("Count", "trimmed", "Count.trimmed", s_Count_trimmed), ("Total", "trimmed", "Total.trimmed", s_Total_trimmed), ("Least", "trimmed", "Least.trimmed", s_Least_trimmed), ("Greatest", "trimmed", "Greatest.trimmed", s_Greatest_trimmed), ("Last", "trimmed", "Last.trimmed", s_Last_trimmed), ("Unlike", "trimmed", "Unlike.trimmed", s_Unlike_trimmed), ("Count", "behind", "Count.behind", s_Count_behind), ("Total", "behind", "Total.behind", s_Total_behind), ("Least", "behind", "Least.behind", s_Least_behind), ("Greatest", "behind", "Greatest.behind", s_Greatest_behind), ("Last", "behind", "Last.behind", s_Last_behind), ("Unlike", "behind", "Unlike.behind", s_Unlike_behind), ("Count", "shown", "Count.shown", s_Count_shown), ("Total", "shown", "Total.shown", s_Total_shown), ("Least", "shown", "Least.shown", s_Least_shown), ("Greatest", "shown", "Greatest.shown", s_Greatest_shown), ("Last", "shown", "Last.shown", s_Last_shown), ("Unlike", "shown", "Unlike.shown", s_Unlike_shown)]
def clsB (K : PySem.W.Frag) : Bool := match PySem.W.nsIn K mainGlobals "Sum" with
  | some (some (.ref S)) => (["Count", "Total", "Least", "Greatest", "Last", "Unlike"] : List Str).all fun n => (match PySem.W.nsIn K mainGlobals n with
      | some (some (.ref C)) => kOne K S C
      | _ => false)
  | _ => false
def isFnO (K : PySem.W.Frag) : Option (Option Value) → Bool
  | some (some v) => PySem.W.isFn K v
  | _ => false
def obsB (K : PySem.W.Frag) : Bool := ((blts.all fun n => PySem.W.nsIn K mainGlobals n == some none) && (dfs.all fun d => fnGood K d.1 (PySem.W.nsIn K mainGlobals d.1))) && ((mts.all fun m => fnGood K m.2.2.1 (methAt K m.1 m.2.1) && isFnO K (methAt K m.1 m.2.1)) && clsB K)
def obs1 (K : PySem.W.Frag) : List (Option FnLook) := dfs.map fun d => fnLook K (PySem.W.nsIn K mainGlobals d.1)
def obs2 (K : PySem.W.Frag) : List (Option FnLook) := mts.map fun m => fnLook K (methAt K m.1 m.2.1)
def obs3 (K : PySem.W.Frag) : Bool × List (Option FnLook) × List (Option FnLook) := (obsB K, obs1 K, obs2 K)
def ads : List Addr := [3, 34, 35, 48, 49, 55, 56, 62, 63, 69, 70, 79, 80, 97, 98, 111, 112, 118, 119, 125, 126, 132, 133, 142, 143, 158, 159, 172, 173, 179, 180, 186, 187, 193, 194, 203, 204, 219, 220, 233, 234, 240, 241, 247, 248, 254, 255, 264, 265, 271, 272, 278, 279, 292, 293, 306, 307, 313, 314, 320, 321, 327, 328, 337, 338, 353, 354, 367, 368, 374, 375, 381, 382, 388, 389, 398, 399, 414, 415, 428, 429, 435, 436, 442, 443, 449, 450, 459, 460, 500, 501, 505, 506, 512, 513, 519, 520, 526, 527, 533, 534, 540, 541, 547, 548, 554, 555, 561, 562, 568, 569, 573, 574, 580, 581, 587, 588, 592, 593, 597, 598]
def obs (s : Shared) : Bool × List (Option FnLook) × List (Option FnLook) := obs3 (fragOf s.heap ads)
def want : Bool × List (Option FnLook) × List (Option FnLook) := (true, dfs.map (fun d => fnWant d.1 d.1 d.2), mts.map fun m => fnWant m.2.1 m.2.2.1 m.2.2.2)
def Xt (s : Shared) : Bool := PySem.W.xlAt qv [] s && PySem.W.recOk [] s
noncomputable def ru (w : World) (os : OsState) : Option SharedT := runT PySem.Challenge.pw_weirmark_k25_what_is_trimmed 8344 w os
def f1 (s : Shared) := (PyProof.Rows.seen ((recsOf qv).map (·.name)) (ownsOf qv) [] { s with gens := #[] }, s.heap.bltView)
def g1 := (expectedOf qv, bltViewBooted)
def f2 (s : Shared) : Bool × Bool := (s.heap.keysOk (looseW qv []) ((recsOf qv).map (·.name)) ((litsOf qv).map (·.1)) ((clssOf qv (looseW qv [])).map (·.name)) && s.heap.accountedOkI (importedModules (Program.main PySem.Challenge.pw_weirmark_k25_what_is_trimmed).body) && s.heap.isNs mainGlobals && s.heap.isNs builtinsNs && tablesOk qv s.heap && Xt s && (if true then s.gens.size == 0 else !leftWithCleanup s.gens), tabsOk qv s)
def f3 (s : Shared) := (pinSeenD qv (drecsOf qv) s, plainSeenE qv (looseW qv []) s)
def g3 := (pinGoodD (drecsOf qv), plainGoodE qv (looseW qv []))
def f4 (s : Shared) := (plainSeenD qv [] s, wideSeen qv s, clsSeenW qv [] s)
def g4 := (plainGoodD qv [], wideGood qv, clsGoodW qv [])
noncomputable def s1 (w : World) (os : OsState) := (ru w os).map fun s => f1 s.abs
noncomputable def s2 (w : World) (os : OsState) := (ru w os).map fun s => (endOk PySem.Challenge.pw_weirmark_k25_what_is_trimmed w s.abs, f2 s.abs)
noncomputable def s3 (w : World) (os : OsState) := (ru w os).map fun s => f3 s.abs
noncomputable def s4 (w : World) (os : OsState) := (ru w os).map fun s => f4 s.abs
noncomputable def s5 (w : World) (os : OsState) := (ru w os).map fun s => obs s.abs
def r1 := some g1
def r2 : Option (Bool × Bool × Bool) := some (true, true, true)
def r3 := some g3
def r4 := some g4
def r5 := some want
lay_quick K25.s1 K25.s2 K25.s3 K25.s4 K25.s5 K25.r1 K25.r3 K25.r4 K25.r5
end K25
end
section
set_option Elab.async false
set_option linter.all false
set_option maxRecDepth 100000
set_option maxHeartbeats 0
namespace K25
open PySem L2 PyProof.Rows PySem.Spec PySem.W
theorem q1 (w : World) (os : OsState) : PySem.W.Fast.tw5752160485785495992 w os = PySem.W.Fast.tw318479771968869537 := by kernel_rfl
theorem h1 (w : World) (os : OsState) : s1 w os = r1 := (congrFun (congrFun PySem.W.Fast.te5752160485785495992 w) os).trans ((q1 w os).trans PySem.W.Fast.te318479771968869537.symm)
theorem q2 (w : World) (os : OsState) : PySem.W.Fast.tw11857535361720618712 w os = r2 := by kernel_rfl
theorem h2 (w : World) (os : OsState) : s2 w os = r2 := (congrFun (congrFun PySem.W.Fast.te11857535361720618712 w) os).trans (q2 w os)
theorem q3 (w : World) (os : OsState) : PySem.W.Fast.tw2309847667131690737 w os = PySem.W.Fast.tw14419454635483374759 := by kernel_rfl
theorem h3 (w : World) (os : OsState) : s3 w os = r3 := (congrFun (congrFun PySem.W.Fast.te2309847667131690737 w) os).trans ((q3 w os).trans PySem.W.Fast.te14419454635483374759.symm)
theorem q4 (w : World) (os : OsState) : PySem.W.Fast.tw9930368257889514207 w os = PySem.W.Fast.tw13441011522905409010 := by kernel_rfl
theorem h4 (w : World) (os : OsState) : s4 w os = r4 := (congrFun (congrFun PySem.W.Fast.te9930368257889514207 w) os).trans ((q4 w os).trans PySem.W.Fast.te13441011522905409010.symm)
theorem q5 (w : World) (os : OsState) : PySem.W.Fast.tw9866929813101904901 w os = PySem.W.Fast.tw11746656962819432871 := by kernel_rfl
theorem h5 (w : World) (os : OsState) : s5 w os = r5 := (congrFun (congrFun PySem.W.Fast.te9866929813101904901 w) os).trans ((q5 w os).trans PySem.W.Fast.te11746656962819432871.symm)
theorem seen_of {s : Shared} (a1 : f1 s = g1) (a2 : f2 s = (true, true)) (a3 : f3 s = g3) (a4 : f4 s = g4) : openSeen qv [] (importedModules (Program.main PySem.Challenge.pw_weirmark_k25_what_is_trimmed).body) Xt true s = openGood qv [] := by
  have p1 : (f1 s).1 = g1.1 := congrArg Prod.fst a1
  have p2 : (f1 s).2 = g1.2 := congrArg Prod.snd a1
  have p3 : (f2 s).1 = true := congrArg Prod.fst a2
  have p4 : (f2 s).2 = true := congrArg Prod.snd a2
  have p5 : (f3 s).1 = g3.1 := congrArg Prod.fst a3
  have p6 : (f3 s).2 = g3.2 := congrArg Prod.snd a3
  have p7 : (f4 s).1 = g4.1 := congrArg Prod.fst a4
  have p8 : (f4 s).2.1 = g4.2.1 := congrArg (fun p => p.2.1) a4
  have p9 : (f4 s).2.2 = g4.2.2 := congrArg (fun p => p.2.2) a4
  exact Prod.ext p1 (Prod.ext p2 (Prod.ext p3 (Prod.ext p4 (Prod.ext p5 (Prod.ext p6 (Prod.ext p7 (Prod.ext p8 p9)))))))
theorem map_inj {α : Type} {o : Option SharedT} {s : SharedT} {f : SharedT → α} {a : α} (q : o = some s) (e : o.map f = some a) : f s = a := by
  rw [q] at e
  exact Option.some.inj e
theorem left : LeftO PySem.Challenge.pw_weirmark_k25_what_is_trimmed qv [] Xt obs (fun _ => want) 8344 := left_of (by kernel_rfl) (by decide) (fun s => rfl) fun w os => by
  have e1 : (ru w os).map (fun s => f1 s.abs) = some g1 := h1 w os
  have e2 : (ru w os).map (fun s => (endOk PySem.Challenge.pw_weirmark_k25_what_is_trimmed w s.abs, f2 s.abs)) = some (true, true, true) := h2 w os
  have e3 : (ru w os).map (fun s => f3 s.abs) = some g3 := h3 w os
  have e4 : (ru w os).map (fun s => f4 s.abs) = some g4 := h4 w os
  have e5 : (ru w os).map (fun s => obs s.abs) = some want := h5 w os
  show ∃ s : SharedT, ru w os = some s ∧ _
  generalize ru w os = o at e1 e2 e3 e4 e5 ⊢
  cases o with
  | none => cases e1
  | some s =>
    have z := map_inj rfl e2
    exact ⟨s, rfl, congrArg Prod.fst z, seen_of (map_inj rfl e1) (congrArg Prod.snd z) (map_inj rfl e3) (map_inj rfl e4), map_inj rfl e5⟩
end K25
end
section
set_option Elab.async false
set_option linter.all false
set_option maxRecDepth 100000
set_option maxHeartbeats 4000000
namespace K25
open PySem L2 PyProof.Rows
theorem lk_law {K : PySem.W.Frag} {h : Heap} {mg : Str → Option Value} {f : Addr} {oc : Value} {od an : Option Addr} {osl : Array (Option Value)} {kV doc pm cdv ct : Value} (X : K.In h) (G : h.Ns mainGlobals mg)
    (a : PySem.W.nsIn K mainGlobals "law" = some (some (.ref f))) (l : K.lookup f = some ⟨oc, od, .func (PySem.W.fnOf "law" "law" (defArgs s_law) (defBody s_law) (defScope s_law) .none kV doc pm an cdv ct), osl⟩)
    (c : PySem.W.codeIn K cdv "law" = true) (k : PySem.W.keepIn K (.ref f) = true) : ∃ f fd, (∀ (s : Shared) (v : Value), BindsTo s fd ⟨[v], []⟩ [("_law_script", v)]) ∧ Lk K mg "law" s_law ["_law_script"] f fd :=
  ⟨f, _, fun s v => .of_eq rfl, fun_mk l c k, PySem.W.mg_of X G a, (fun_mk l c k).binds fun _ _ _ _ _ _ us hl => match us, hl with | [_], _ => rfl⟩
def Fa (K : PySem.W.Frag) : Prop := obs3 K = want
theorem cls_one {K : PySem.W.Frag} {S : Addr} {n : Str} (h : (match PySem.W.nsIn K mainGlobals n with | some (some (.ref C)) => kOne K S C | _ => false) = true) : ∃ C, PySem.W.nsIn K mainGlobals n = some (some (.ref C)) ∧ kOne K S C = true := by
  split at h
  · rename_i C e
    exact ⟨C, e, h⟩
  · cases h
theorem cls_of {K : PySem.W.Frag} (h : clsB K = true) : ∃ S, PySem.W.nsIn K mainGlobals "Sum" = some (some (.ref S)) ∧ ∀ n ∈ (["Count", "Total", "Least", "Greatest", "Last", "Unlike"] : List Str), ∃ C, PySem.W.nsIn K mainGlobals n = some (some (.ref C)) ∧ kOne K S C = true := by
  unfold clsB at h
  split at h
  · rename_i S e
    exact ⟨S, e, fun n m => cls_one (List.all_eq_true.mp h n m)⟩
  · cases h
theorem meth_of {K : PySem.W.Frag} {C m : Str} {c : Addr} {v : Option (Option Value)} (g : PySem.W.nsIn K mainGlobals C = some (some (.ref c))) (e : methAt K C m = v) : PySem.W.findIn K (.ref c) m = v := by
  unfold methAt at e
  rw [g] at e
  exact e
theorem all_ok {P : Program} {w : World} {K : PySem.W.Frag} {mg : Str → Option Value} {base : Heap} (T : Txt mg)
    (e_known : ∃ f fd, Lk K mg "known" s_known ["things"] f fd)
    (e_unlike_values : ∃ f fd, Lk K mg "unlike_values" s_unlike_values ["part", "values"] f fd)
    (e_sum_of : ∃ f fd, Lk K mg "sum_of" s_sum_of ["word"] f fd)
    (e_open : ∃ f fd, Lk K mg "_law_open" s_open ["_law_script", "_law_place"] f fd)
    (e_draw : ∃ f fd, Lk K mg "_law_draw" s_draw ["_law_hand", "_law_many"] f fd)
    (e_far : ∃ f fd, Lk K mg "_law_far" s_far ["_law_hand", "_law_bound"] f fd)
    (e_values : ∃ f fd, Lk K mg "_law_values" s_values ["_law_hand", "_law_least", "_law_most"] f fd)
    (e_word : ∃ f fd, Lk K mg "_law_word" s_word ["_law_k"] f fd)
    (e_sum : ∃ f fd, Lk K mg "_law_sum" s_sum ["_law_word_here", "_law_turn"] f fd)
    (e_amount : ∃ f fd, Lk K mg "_law_amount" s_amount ["_law_word_here", "_law_values_here"] f fd)
    (e_whole : ∃ f fd, Lk K mg "_law_whole" s_whole ["_law_found"] f fd)
    (e_is : ∃ f fd, Lk K mg "_law_is" s_is ["_law_found", "_law_due"] f fd)
    (e_part : ∃ f fd, Lk K mg "_law_part" s_part ["_law_word_here", "_law_values_here"] f fd)
    (e_same_part : ∃ f fd, Lk K mg "_law_same_part" s_same_part ["_law_found", "_law_due"] f fd)
    (e_trim : ∃ f fd, Lk K mg "_law_trim" s_trim ["_law_word_here", "_law_ahead", "_law_value"] f fd)
    (e_none_stands : ∃ f fd, Lk K mg "_law_none_stands" s_none_stands ["_law_adder", "_law_word_here", "_law_ahead", "_law_value", "_law_after", "_law_at"] f fd)
    (e_trimmed : ∃ f fd, Lk K mg "_law_trimmed" s_trimmed ["_law_adder", "_law_word_here", "_law_ahead", "_law_pair", "_law_after", "_law_at"] f fd)
    (x_X : ∃ C, RX_X K mg C)
    {f : Addr} {fd : FuncData} (L : Lk K mg "law" s_law ["_law_script"] f fd) : FnOk P w K mg base CX0 7 f fd ["_law_script"] (spLaw K) := by
  obtain ⟨_, _, L_known⟩ := e_known
  obtain ⟨_, _, L_unlike_values⟩ := e_unlike_values
  obtain ⟨_, _, L_sum_of⟩ := e_sum_of
  obtain ⟨_, _, L_open⟩ := e_open
  obtain ⟨_, _, L_draw⟩ := e_draw
  obtain ⟨_, _, L_far⟩ := e_far
  obtain ⟨_, _, L_values⟩ := e_values
  obtain ⟨_, _, L_word⟩ := e_word
  obtain ⟨_, _, L_sum⟩ := e_sum
  obtain ⟨_, _, L_amount⟩ := e_amount
  obtain ⟨_, _, L_whole⟩ := e_whole
  obtain ⟨_, _, L_is⟩ := e_is
  obtain ⟨_, _, L_part⟩ := e_part
  obtain ⟨_, _, L_same_part⟩ := e_same_part
  obtain ⟨_, _, L_trim⟩ := e_trim
  obtain ⟨_, _, L_none_stands⟩ := e_none_stands
  obtain ⟨_, _, L_trimmed⟩ := e_trimmed
  obtain ⟨⟨c, S⟩, R, ⟨_, _, W0⟩, ⟨_, _, W1⟩, ⟨_, _, W2⟩, ⟨_, _, W3⟩, ⟨_, _, W4⟩, ⟨_, _, W5⟩, ⟨_, _, G0⟩, ⟨_, _, G1⟩, ⟨_, _, G2⟩, ⟨_, _, G3⟩, ⟨_, _, G4⟩, ⟨_, _, G5⟩, ⟨_, _, Y0⟩, ⟨_, _, Y1⟩, ⟨_, _, Y2⟩, ⟨_, _, Y3⟩, ⟨_, _, Y4⟩, ⟨_, _, Y5⟩, ⟨_, _, B0⟩, ⟨_, _, B1⟩, ⟨_, _, B2⟩, ⟨_, _, B3⟩, ⟨_, _, B4⟩, ⟨_, _, B5⟩, ⟨_, _, O0⟩, ⟨_, _, O1⟩, ⟨_, _, O2⟩, ⟨_, _, O3⟩, ⟨_, _, O4⟩, ⟨_, _, O5⟩⟩ := x_X
  have R : RX K mg c S := R
  have c1 := ok_draw (P := P) (w := w) (base := base) L_draw T
  have c2 := ok_open (P := P) (w := w) (base := base) L_open T
  have c3 := ok_far L_far T c1
  have c4 := ok_values L_values T c1 c3
  have c5 := ok_word (P := P) (w := w) (base := base) L_word T
  have c7 := ok_amount (P := P) (w := w) (base := base) L_amount T
  have c8 := ok_whole (P := P) (w := w) (base := base) L_whole T
  have c9 := ok_is L_is T c8
  have c10 := ok_known (P := P) (w := w) (base := base) L_known T
  have c11 := ok_unlike L_unlike_values T c10
  have FW : Fam P w K mg base c 6 "word" ["self"] 1 spWord := ⟨R.cl, all6 (ok_w0 W0) (ok_w1 W1) (ok_w2 W2) (ok_w3 W3) (ok_w4 W4) (ok_w5 W5)⟩
  have FG : Fam P w K mg base c 6 "weighs" ["self", "part", "value"] 3 spWeighs := ⟨R.cl, all6 (ok_g0 T G0) (ok_g1 T G1) (ok_g2 T G2) (ok_g3 T G3) (ok_g4 T G4) (ok_g5 T G5)⟩
  have FS : Fam P w K mg base c 6 "shown" ["self", "part", "values"] 3 spShown := ⟨R.cl, all6 (ok_s0 T O0) (ok_s1 T O1) (ok_s2 T c10 O2) (ok_s3 T c10 O3) (ok_s4 T O4) (ok_s5 T c11 O5)⟩
  have FB : Fam P w K mg base c 6 "behind" ["self", "part", "value"] 4 (spBehind c) := ⟨R.cl, all6 (ok_b0 T B0) (ok_b1 T B1) (ok_b2 T FS B2) (ok_b3 T FS B3) (ok_b4 T B4) (ok_b5 T c11 B5)⟩
  have FT : Fam P w K mg base c 6 "trimmed" ["self", "part", "value"] 4 (spTrimmed c) := ⟨R.cl, all6 (ok_t0 T Y0) (ok_t1 T Y1) (ok_t2 T FG Y2) (ok_t3 T FG Y3) (ok_t4 T Y4) (ok_t5 T FG Y5)⟩
  have c6 := ok_sum_of L_sum_of T R FW
  have c12 := ok_sum L_sum T R c6
  have c13 := ok_part L_part T c7
  have c14 := ok_same L_same_part T c8 c9
  have c15 := ok_trim (P := P) (w := w) (base := base) L_trim T
  have c16 := ok_stands L_none_stands T FB FS c13 c7 c9 c14
  have c17 := ok_trimmed L_trimmed T FT FS c13 c7 c9 c15 c14 c16
  exact ok_law L T FT c2 c1 c4 c5 c12 c13 c17
theorem all_in {w : World} {P : Program} {K : PySem.W.Frag} {mg : Str → Option Value} {h : Heap} (hF : Fa K) (KX : K.In h) (G : h.Ns mainGlobals mg) : ∃ f fd, (∀ (s : Shared) (v : Value), BindsTo s fd ⟨[v], []⟩ [("_law_script", v)]) ∧ mg "law" = some (.ref f) ∧ ∀ base : Heap, FnOk P w K mg base CX0 7 f fd ["_law_script"] (spLaw K) := by
  have e0 : obsB K = true := congrArg Prod.fst hF
  have e1 : (dfs.map fun d => fnLook K (PySem.W.nsIn K mainGlobals d.1)) = dfs.map (fun d => fnWant d.1 d.1 d.2) := congrArg (fun p => p.2.1) hF
  have e2 : (mts.map fun m => fnLook K (methAt K m.1 m.2.1)) = mts.map (fun m => fnWant m.2.1 m.2.2.1 m.2.2.2) := congrArg (fun p => p.2.2) hF
  unfold obsB at e0
  rw [Bool.and_eq_true, Bool.and_eq_true, Bool.and_eq_true] at e0
  obtain ⟨⟨b1, b2⟩, b3, b4⟩ := e0
  have bl : ∀ n ∈ blts, mg n = none := fun n m => PySem.W.mg_none_of KX G (beq_iff_eq.mp (List.all_eq_true.mp b1 n m))
  have dl := List.map_inj_left.mp e1
  have dg := List.all_eq_true.mp b2
  have ml := List.map_inj_left.mp e2
  have mg' : ∀ m ∈ mts, fnGood K m.2.2.1 (methAt K m.1 m.2.1) = true ∧ isFnO K (methAt K m.1 m.2.1) = true := fun m hm => Bool.and_eq_true_iff.mp (List.all_eq_true.mp b3 m hm)
  obtain ⟨S, hS, hC⟩ := cls_of b4
  have T : Txt mg := ⟨bl "len" (List.mem_of_getElem? (i := 0) rfl), bl "abs" (List.mem_of_getElem? (i := 1) rfl), bl "range" (List.mem_of_getElem? (i := 2) rfl), bl "isinstance" (List.mem_of_getElem? (i := 3) rfl), bl "int" (List.mem_of_getElem? (i := 4) rfl), bl "bool" (List.mem_of_getElem? (i := 5) rfl), bl "str" (List.mem_of_getElem? (i := 6) rfl), bl "list" (List.mem_of_getElem? (i := 7) rfl), bl "tuple" (List.mem_of_getElem? (i := 8) rfl), bl "sum" (List.mem_of_getElem? (i := 9) rfl), bl "min" (List.mem_of_getElem? (i := 10) rfl), bl "max" (List.mem_of_getElem? (i := 11) rfl), bl "set" (List.mem_of_getElem? (i := 12) rfl), bl "sorted" (List.mem_of_getElem? (i := 13) rfl), bl "all" (List.mem_of_getElem? (i := 14) rfl), bl "zip" (List.mem_of_getElem? (i := 15) rfl)⟩
  obtain ⟨c0, g0, k0⟩ := hC "Count" (List.mem_of_getElem? (i := 0) rfl)
  obtain ⟨c1, g1, k1⟩ := hC "Total" (List.mem_of_getElem? (i := 1) rfl)
  obtain ⟨c2, g2, k2⟩ := hC "Least" (List.mem_of_getElem? (i := 2) rfl)
  obtain ⟨c3, g3, k3⟩ := hC "Greatest" (List.mem_of_getElem? (i := 3) rfl)
  obtain ⟨c4, g4, k4⟩ := hC "Last" (List.mem_of_getElem? (i := 4) rfl)
  obtain ⟨c5, g5, k5⟩ := hC "Unlike" (List.mem_of_getElem? (i := 5) rfl)
  have e_known : ∃ f fd, Lk K mg "known" s_known ["things"] f fd := by
    have hm : (("known", s_known) : Str × Stmt) ∈ dfs := List.mem_of_getElem? (i := 0) rfl
    obtain ⟨f, oc, od, an, osl, kV, doc, pm, cdv, ct, hv, hl, hc, hk⟩ := fun_of (dl _ hm) (dg _ hm)
    exact lk_mk KX G hv hl hc hk (fun _ _ _ _ _ _ us hl => match us, hl with | [_], _ => rfl)
  have e_unlike_values : ∃ f fd, Lk K mg "unlike_values" s_unlike_values ["part", "values"] f fd := by
    have hm : (("unlike_values", s_unlike_values) : Str × Stmt) ∈ dfs := List.mem_of_getElem? (i := 1) rfl
    obtain ⟨f, oc, od, an, osl, kV, doc, pm, cdv, ct, hv, hl, hc, hk⟩ := fun_of (dl _ hm) (dg _ hm)
    exact lk_mk KX G hv hl hc hk (fun _ _ _ _ _ _ us hl => match us, hl with | [_, _], _ => rfl)
  have e_sum_of : ∃ f fd, Lk K mg "sum_of" s_sum_of ["word"] f fd := by
    have hm : (("sum_of", s_sum_of) : Str × Stmt) ∈ dfs := List.mem_of_getElem? (i := 2) rfl
    obtain ⟨f, oc, od, an, osl, kV, doc, pm, cdv, ct, hv, hl, hc, hk⟩ := fun_of (dl _ hm) (dg _ hm)
    exact lk_mk KX G hv hl hc hk (fun _ _ _ _ _ _ us hl => match us, hl with | [_], _ => rfl)
  have e_open : ∃ f fd, Lk K mg "_law_open" s_open ["_law_script", "_law_place"] f fd := by
    have hm : (("_law_open", s_open) : Str × Stmt) ∈ dfs := List.mem_of_getElem? (i := 3) rfl
    obtain ⟨f, oc, od, an, osl, kV, doc, pm, cdv, ct, hv, hl, hc, hk⟩ := fun_of (dl _ hm) (dg _ hm)
    exact lk_mk KX G hv hl hc hk (fun _ _ _ _ _ _ us hl => match us, hl with | [_, _], _ => rfl)
  have e_draw : ∃ f fd, Lk K mg "_law_draw" s_draw ["_law_hand", "_law_many"] f fd := by
    have hm : (("_law_draw", s_draw) : Str × Stmt) ∈ dfs := List.mem_of_getElem? (i := 4) rfl
    obtain ⟨f, oc, od, an, osl, kV, doc, pm, cdv, ct, hv, hl, hc, hk⟩ := fun_of (dl _ hm) (dg _ hm)
    exact lk_mk KX G hv hl hc hk (fun _ _ _ _ _ _ us hl => match us, hl with | [_, _], _ => rfl)
  have e_far : ∃ f fd, Lk K mg "_law_far" s_far ["_law_hand", "_law_bound"] f fd := by
    have hm : (("_law_far", s_far) : Str × Stmt) ∈ dfs := List.mem_of_getElem? (i := 5) rfl
    obtain ⟨f, oc, od, an, osl, kV, doc, pm, cdv, ct, hv, hl, hc, hk⟩ := fun_of (dl _ hm) (dg _ hm)
    exact lk_mk KX G hv hl hc hk (fun _ _ _ _ _ _ us hl => match us, hl with | [_, _], _ => rfl)
  have e_values : ∃ f fd, Lk K mg "_law_values" s_values ["_law_hand", "_law_least", "_law_most"] f fd := by
    have hm : (("_law_values", s_values) : Str × Stmt) ∈ dfs := List.mem_of_getElem? (i := 6) rfl
    obtain ⟨f, oc, od, an, osl, kV, doc, pm, cdv, ct, hv, hl, hc, hk⟩ := fun_of (dl _ hm) (dg _ hm)
    exact lk_mk KX G hv hl hc hk (fun _ _ _ _ _ _ us hl => match us, hl with | [_, _, _], _ => rfl)
  have e_word : ∃ f fd, Lk K mg "_law_word" s_word ["_law_k"] f fd := by
    have hm : (("_law_word", s_word) : Str × Stmt) ∈ dfs := List.mem_of_getElem? (i := 7) rfl
    obtain ⟨f, oc, od, an, osl, kV, doc, pm, cdv, ct, hv, hl, hc, hk⟩ := fun_of (dl _ hm) (dg _ hm)
    exact lk_mk KX G hv hl hc hk (fun _ _ _ _ _ _ us hl => match us, hl with | [_], _ => rfl)
  have e_sum : ∃ f fd, Lk K mg "_law_sum" s_sum ["_law_word_here", "_law_turn"] f fd := by
    have hm : (("_law_sum", s_sum) : Str × Stmt) ∈ dfs := List.mem_of_getElem? (i := 8) rfl
    obtain ⟨f, oc, od, an, osl, kV, doc, pm, cdv, ct, hv, hl, hc, hk⟩ := fun_of (dl _ hm) (dg _ hm)
    exact lk_mk KX G hv hl hc hk (fun _ _ _ _ _ _ us hl => match us, hl with | [_, _], _ => rfl)
  have e_amount : ∃ f fd, Lk K mg "_law_amount" s_amount ["_law_word_here", "_law_values_here"] f fd := by
    have hm : (("_law_amount", s_amount) : Str × Stmt) ∈ dfs := List.mem_of_getElem? (i := 9) rfl
    obtain ⟨f, oc, od, an, osl, kV, doc, pm, cdv, ct, hv, hl, hc, hk⟩ := fun_of (dl _ hm) (dg _ hm)
    exact lk_mk KX G hv hl hc hk (fun _ _ _ _ _ _ us hl => match us, hl with | [_, _], _ => rfl)
  have e_whole : ∃ f fd, Lk K mg "_law_whole" s_whole ["_law_found"] f fd := by
    have hm : (("_law_whole", s_whole) : Str × Stmt) ∈ dfs := List.mem_of_getElem? (i := 10) rfl
    obtain ⟨f, oc, od, an, osl, kV, doc, pm, cdv, ct, hv, hl, hc, hk⟩ := fun_of (dl _ hm) (dg _ hm)
    exact lk_mk KX G hv hl hc hk (fun _ _ _ _ _ _ us hl => match us, hl with | [_], _ => rfl)
  have e_is : ∃ f fd, Lk K mg "_law_is" s_is ["_law_found", "_law_due"] f fd := by
    have hm : (("_law_is", s_is) : Str × Stmt) ∈ dfs := List.mem_of_getElem? (i := 11) rfl
    obtain ⟨f, oc, od, an, osl, kV, doc, pm, cdv, ct, hv, hl, hc, hk⟩ := fun_of (dl _ hm) (dg _ hm)
    exact lk_mk KX G hv hl hc hk (fun _ _ _ _ _ _ us hl => match us, hl with | [_, _], _ => rfl)
  have e_part : ∃ f fd, Lk K mg "_law_part" s_part ["_law_word_here", "_law_values_here"] f fd := by
    have hm : (("_law_part", s_part) : Str × Stmt) ∈ dfs := List.mem_of_getElem? (i := 12) rfl
    obtain ⟨f, oc, od, an, osl, kV, doc, pm, cdv, ct, hv, hl, hc, hk⟩ := fun_of (dl _ hm) (dg _ hm)
    exact lk_mk KX G hv hl hc hk (fun _ _ _ _ _ _ us hl => match us, hl with | [_, _], _ => rfl)
  have e_same_part : ∃ f fd, Lk K mg "_law_same_part" s_same_part ["_law_found", "_law_due"] f fd := by
    have hm : (("_law_same_part", s_same_part) : Str × Stmt) ∈ dfs := List.mem_of_getElem? (i := 13) rfl
    obtain ⟨f, oc, od, an, osl, kV, doc, pm, cdv, ct, hv, hl, hc, hk⟩ := fun_of (dl _ hm) (dg _ hm)
    exact lk_mk KX G hv hl hc hk (fun _ _ _ _ _ _ us hl => match us, hl with | [_, _], _ => rfl)
  have e_trim : ∃ f fd, Lk K mg "_law_trim" s_trim ["_law_word_here", "_law_ahead", "_law_value"] f fd := by
    have hm : (("_law_trim", s_trim) : Str × Stmt) ∈ dfs := List.mem_of_getElem? (i := 14) rfl
    obtain ⟨f, oc, od, an, osl, kV, doc, pm, cdv, ct, hv, hl, hc, hk⟩ := fun_of (dl _ hm) (dg _ hm)
    exact lk_mk KX G hv hl hc hk (fun _ _ _ _ _ _ us hl => match us, hl with | [_, _, _], _ => rfl)
  have e_none_stands : ∃ f fd, Lk K mg "_law_none_stands" s_none_stands ["_law_adder", "_law_word_here", "_law_ahead", "_law_value", "_law_after", "_law_at"] f fd := by
    have hm : (("_law_none_stands", s_none_stands) : Str × Stmt) ∈ dfs := List.mem_of_getElem? (i := 15) rfl
    obtain ⟨f, oc, od, an, osl, kV, doc, pm, cdv, ct, hv, hl, hc, hk⟩ := fun_of (dl _ hm) (dg _ hm)
    exact lk_mk KX G hv hl hc hk (fun _ _ _ _ _ _ us hl => match us, hl with | [_, _, _, _, _, _], _ => rfl)
  have e_trimmed : ∃ f fd, Lk K mg "_law_trimmed" s_trimmed ["_law_adder", "_law_word_here", "_law_ahead", "_law_pair", "_law_after", "_law_at"] f fd := by
    have hm : (("_law_trimmed", s_trimmed) : Str × Stmt) ∈ dfs := List.mem_of_getElem? (i := 16) rfl
    obtain ⟨f, oc, od, an, osl, kV, doc, pm, cdv, ct, hv, hl, hc, hk⟩ := fun_of (dl _ hm) (dg _ hm)
    exact lk_mk KX G hv hl hc hk (fun _ _ _ _ _ _ us hl => match us, hl with | [_, _, _, _, _, _], _ => rfl)
  have e_law : ∃ f fd, (∀ (s : Shared) (v : Value), BindsTo s fd ⟨[v], []⟩ [("_law_script", v)]) ∧ Lk K mg "law" s_law ["_law_script"] f fd := by
    have hm : (("law", s_law) : Str × Stmt) ∈ dfs := List.mem_of_getElem? (i := 17) rfl
    obtain ⟨f, oc, od, an, osl, kV, doc, pm, cdv, ct, hv, hl, hc, hk⟩ := fun_of (dl _ hm) (dg _ hm)
    exact lk_law KX G hv hl hc hk
  have hm0 : (("Count", "word", "Count.word", s_Count_word) : Str × Str × Str × Stmt) ∈ mts := List.mem_of_getElem? (i := 0) rfl
  obtain ⟨f0, oc0, od0, an0, osl0, kV0, doc0, pm0, cdv0, ct0, hv0, hl0, hc0, hk0⟩ := fun_of (ml _ hm0) (mg' _ hm0).1
  have hi0 : PySem.W.isFn K (.ref f0) = true := by
    have z := (mg' _ hm0).2
    rw [hv0] at z
    exact z
  have hm1 : (("Total", "word", "Total.word", s_Total_word) : Str × Str × Str × Stmt) ∈ mts := List.mem_of_getElem? (i := 1) rfl
  obtain ⟨f1, oc1, od1, an1, osl1, kV1, doc1, pm1, cdv1, ct1, hv1, hl1, hc1, hk1⟩ := fun_of (ml _ hm1) (mg' _ hm1).1
  have hi1 : PySem.W.isFn K (.ref f1) = true := by
    have z := (mg' _ hm1).2
    rw [hv1] at z
    exact z
  have hm2 : (("Least", "word", "Least.word", s_Least_word) : Str × Str × Str × Stmt) ∈ mts := List.mem_of_getElem? (i := 2) rfl
  obtain ⟨f2, oc2, od2, an2, osl2, kV2, doc2, pm2, cdv2, ct2, hv2, hl2, hc2, hk2⟩ := fun_of (ml _ hm2) (mg' _ hm2).1
  have hi2 : PySem.W.isFn K (.ref f2) = true := by
    have z := (mg' _ hm2).2
    rw [hv2] at z
    exact z
  have hm3 : (("Greatest", "word", "Greatest.word", s_Greatest_word) : Str × Str × Str × Stmt) ∈ mts := List.mem_of_getElem? (i := 3) rfl
  obtain ⟨f3, oc3, od3, an3, osl3, kV3, doc3, pm3, cdv3, ct3, hv3, hl3, hc3, hk3⟩ := fun_of (ml _ hm3) (mg' _ hm3).1
  have hi3 : PySem.W.isFn K (.ref f3) = true := by
    have z := (mg' _ hm3).2
    rw [hv3] at z
    exact z
  have hm4 : (("Last", "word", "Last.word", s_Last_word) : Str × Str × Str × Stmt) ∈ mts := List.mem_of_getElem? (i := 4) rfl
  obtain ⟨f4, oc4, od4, an4, osl4, kV4, doc4, pm4, cdv4, ct4, hv4, hl4, hc4, hk4⟩ := fun_of (ml _ hm4) (mg' _ hm4).1
  have hi4 : PySem.W.isFn K (.ref f4) = true := by
    have z := (mg' _ hm4).2
    rw [hv4] at z
    exact z
  have hm5 : (("Unlike", "word", "Unlike.word", s_Unlike_word) : Str × Str × Str × Stmt) ∈ mts := List.mem_of_getElem? (i := 5) rfl
  obtain ⟨f5, oc5, od5, an5, osl5, kV5, doc5, pm5, cdv5, ct5, hv5, hl5, hc5, hk5⟩ := fun_of (ml _ hm5) (mg' _ hm5).1
  have hi5 : PySem.W.isFn K (.ref f5) = true := by
    have z := (mg' _ hm5).2
    rw [hv5] at z
    exact z
  have hm6 : (("Count", "weighs", "Count.weighs", s_Count_weighs) : Str × Str × Str × Stmt) ∈ mts := List.mem_of_getElem? (i := 6) rfl
  obtain ⟨f6, oc6, od6, an6, osl6, kV6, doc6, pm6, cdv6, ct6, hv6, hl6, hc6, hk6⟩ := fun_of (ml _ hm6) (mg' _ hm6).1
  have hi6 : PySem.W.isFn K (.ref f6) = true := by
    have z := (mg' _ hm6).2
    rw [hv6] at z
    exact z
  have hm7 : (("Total", "weighs", "Total.weighs", s_Total_weighs) : Str × Str × Str × Stmt) ∈ mts := List.mem_of_getElem? (i := 7) rfl
  obtain ⟨f7, oc7, od7, an7, osl7, kV7, doc7, pm7, cdv7, ct7, hv7, hl7, hc7, hk7⟩ := fun_of (ml _ hm7) (mg' _ hm7).1
  have hi7 : PySem.W.isFn K (.ref f7) = true := by
    have z := (mg' _ hm7).2
    rw [hv7] at z
    exact z
  have hm8 : (("Least", "weighs", "Least.weighs", s_Least_weighs) : Str × Str × Str × Stmt) ∈ mts := List.mem_of_getElem? (i := 8) rfl
  obtain ⟨f8, oc8, od8, an8, osl8, kV8, doc8, pm8, cdv8, ct8, hv8, hl8, hc8, hk8⟩ := fun_of (ml _ hm8) (mg' _ hm8).1
  have hi8 : PySem.W.isFn K (.ref f8) = true := by
    have z := (mg' _ hm8).2
    rw [hv8] at z
    exact z
  have hm9 : (("Greatest", "weighs", "Greatest.weighs", s_Greatest_weighs) : Str × Str × Str × Stmt) ∈ mts := List.mem_of_getElem? (i := 9) rfl
  obtain ⟨f9, oc9, od9, an9, osl9, kV9, doc9, pm9, cdv9, ct9, hv9, hl9, hc9, hk9⟩ := fun_of (ml _ hm9) (mg' _ hm9).1
  have hi9 : PySem.W.isFn K (.ref f9) = true := by
    have z := (mg' _ hm9).2
    rw [hv9] at z
    exact z
  have hm10 : (("Last", "weighs", "Last.weighs", s_Last_weighs) : Str × Str × Str × Stmt) ∈ mts := List.mem_of_getElem? (i := 10) rfl
  obtain ⟨f10, oc10, od10, an10, osl10, kV10, doc10, pm10, cdv10, ct10, hv10, hl10, hc10, hk10⟩ := fun_of (ml _ hm10) (mg' _ hm10).1
  have hi10 : PySem.W.isFn K (.ref f10) = true := by
    have z := (mg' _ hm10).2
    rw [hv10] at z
    exact z
  have hm11 : (("Unlike", "weighs", "Unlike.weighs", s_Unlike_weighs) : Str × Str × Str × Stmt) ∈ mts := List.mem_of_getElem? (i := 11) rfl
  obtain ⟨f11, oc11, od11, an11, osl11, kV11, doc11, pm11, cdv11, ct11, hv11, hl11, hc11, hk11⟩ := fun_of (ml _ hm11) (mg' _ hm11).1
  have hi11 : PySem.W.isFn K (.ref f11) = true := by
    have z := (mg' _ hm11).2
    rw [hv11] at z
    exact z
  have hm12 : (("Count", "trimmed", "Count.trimmed", s_Count_trimmed) : Str × Str × Str × Stmt) ∈ mts := List.mem_of_getElem? (i := 12) rfl
  obtain ⟨f12, oc12, od12, an12, osl12, kV12, doc12, pm12, cdv12, ct12, hv12, hl12, hc12, hk12⟩ := fun_of (ml _ hm12) (mg' _ hm12).1
  have hi12 : PySem.W.isFn K (.ref f12) = true := by
    have z := (mg' _ hm12).2
    rw [hv12] at z
    exact z
  have hm13 : (("Total", "trimmed", "Total.trimmed", s_Total_trimmed) : Str × Str × Str × Stmt) ∈ mts := List.mem_of_getElem? (i := 13) rfl
  obtain ⟨f13, oc13, od13, an13, osl13, kV13, doc13, pm13, cdv13, ct13, hv13, hl13, hc13, hk13⟩ := fun_of (ml _ hm13) (mg' _ hm13).1
  have hi13 : PySem.W.isFn K (.ref f13) = true := by
    have z := (mg' _ hm13).2
    rw [hv13] at z
    exact z
  have hm14 : (("Least", "trimmed", "Least.trimmed", s_Least_trimmed) : Str × Str × Str × Stmt) ∈ mts := List.mem_of_getElem? (i := 14) rfl
  obtain ⟨f14, oc14, od14, an14, osl14, kV14, doc14, pm14, cdv14, ct14, hv14, hl14, hc14, hk14⟩ := fun_of (ml _ hm14) (mg' _ hm14).1
  have hi14 : PySem.W.isFn K (.ref f14) = true := by
    have z := (mg' _ hm14).2
    rw [hv14] at z
    exact z
  have hm15 : (("Greatest", "trimmed", "Greatest.trimmed", s_Greatest_trimmed) : Str × Str × Str × Stmt) ∈ mts := List.mem_of_getElem? (i := 15) rfl
  obtain ⟨f15, oc15, od15, an15, osl15, kV15, doc15, pm15, cdv15, ct15, hv15, hl15, hc15, hk15⟩ := fun_of (ml _ hm15) (mg' _ hm15).1
  have hi15 : PySem.W.isFn K (.ref f15) = true := by
    have z := (mg' _ hm15).2
    rw [hv15] at z
    exact z
  have hm16 : (("Last", "trimmed", "Last.trimmed", s_Last_trimmed) : Str × Str × Str × Stmt) ∈ mts := List.mem_of_getElem? (i := 16) rfl
  obtain ⟨f16, oc16, od16, an16, osl16, kV16, doc16, pm16, cdv16, ct16, hv16, hl16, hc16, hk16⟩ := fun_of (ml _ hm16) (mg' _ hm16).1
  have hi16 : PySem.W.isFn K (.ref f16) = true := by
    have z := (mg' _ hm16).2
    rw [hv16] at z
    exact z
  have hm17 : (("Unlike", "trimmed", "Unlike.trimmed", s_Unlike_trimmed) : Str × Str × Str × Stmt) ∈ mts := List.mem_of_getElem? (i := 17) rfl
  obtain ⟨f17, oc17, od17, an17, osl17, kV17, doc17, pm17, cdv17, ct17, hv17, hl17, hc17, hk17⟩ := fun_of (ml _ hm17) (mg' _ hm17).1
  have hi17 : PySem.W.isFn K (.ref f17) = true := by
    have z := (mg' _ hm17).2
    rw [hv17] at z
    exact z
  have hm18 : (("Count", "behind", "Count.behind", s_Count_behind) : Str × Str × Str × Stmt) ∈ mts := List.mem_of_getElem? (i := 18) rfl
  obtain ⟨f18, oc18, od18, an18, osl18, kV18, doc18, pm18, cdv18, ct18, hv18, hl18, hc18, hk18⟩ := fun_of (ml _ hm18) (mg' _ hm18).1
  have hi18 : PySem.W.isFn K (.ref f18) = true := by
    have z := (mg' _ hm18).2
    rw [hv18] at z
    exact z
  have hm19 : (("Total", "behind", "Total.behind", s_Total_behind) : Str × Str × Str × Stmt) ∈ mts := List.mem_of_getElem? (i := 19) rfl
  obtain ⟨f19, oc19, od19, an19, osl19, kV19, doc19, pm19, cdv19, ct19, hv19, hl19, hc19, hk19⟩ := fun_of (ml _ hm19) (mg' _ hm19).1
  have hi19 : PySem.W.isFn K (.ref f19) = true := by
    have z := (mg' _ hm19).2
    rw [hv19] at z
    exact z
  have hm20 : (("Least", "behind", "Least.behind", s_Least_behind) : Str × Str × Str × Stmt) ∈ mts := List.mem_of_getElem? (i := 20) rfl
  obtain ⟨f20, oc20, od20, an20, osl20, kV20, doc20, pm20, cdv20, ct20, hv20, hl20, hc20, hk20⟩ := fun_of (ml _ hm20) (mg' _ hm20).1
  have hi20 : PySem.W.isFn K (.ref f20) = true := by
    have z := (mg' _ hm20).2
    rw [hv20] at z
    exact z
  have hm21 : (("Greatest", "behind", "Greatest.behind", s_Greatest_behind) : Str × Str × Str × Stmt) ∈ mts := List.mem_of_getElem? (i := 21) rfl
  obtain ⟨f21, oc21, od21, an21, osl21, kV21, doc21, pm21, cdv21, ct21, hv21, hl21, hc21, hk21⟩ := fun_of (ml _ hm21) (mg' _ hm21).1
  have hi21 : PySem.W.isFn K (.ref f21) = true := by
    have z := (mg' _ hm21).2
    rw [hv21] at z
    exact z
  have hm22 : (("Last", "behind", "Last.behind", s_Last_behind) : Str × Str × Str × Stmt) ∈ mts := List.mem_of_getElem? (i := 22) rfl
  obtain ⟨f22, oc22, od22, an22, osl22, kV22, doc22, pm22, cdv22, ct22, hv22, hl22, hc22, hk22⟩ := fun_of (ml _ hm22) (mg' _ hm22).1
  have hi22 : PySem.W.isFn K (.ref f22) = true := by
    have z := (mg' _ hm22).2
    rw [hv22] at z
    exact z
  have hm23 : (("Unlike", "behind", "Unlike.behind", s_Unlike_behind) : Str × Str × Str × Stmt) ∈ mts := List.mem_of_getElem? (i := 23) rfl
  obtain ⟨f23, oc23, od23, an23, osl23, kV23, doc23, pm23, cdv23, ct23, hv23, hl23, hc23, hk23⟩ := fun_of (ml _ hm23) (mg' _ hm23).1
  have hi23 : PySem.W.isFn K (.ref f23) = true := by
    have z := (mg' _ hm23).2
    rw [hv23] at z
    exact z
  have hm24 : (("Count", "shown", "Count.shown", s_Count_shown) : Str × Str × Str × Stmt) ∈ mts := List.mem_of_getElem? (i := 24) rfl
  obtain ⟨f24, oc24, od24, an24, osl24, kV24, doc24, pm24, cdv24, ct24, hv24, hl24, hc24, hk24⟩ := fun_of (ml _ hm24) (mg' _ hm24).1
  have hi24 : PySem.W.isFn K (.ref f24) = true := by
    have z := (mg' _ hm24).2
    rw [hv24] at z
    exact z
  have hm25 : (("Total", "shown", "Total.shown", s_Total_shown) : Str × Str × Str × Stmt) ∈ mts := List.mem_of_getElem? (i := 25) rfl
  obtain ⟨f25, oc25, od25, an25, osl25, kV25, doc25, pm25, cdv25, ct25, hv25, hl25, hc25, hk25⟩ := fun_of (ml _ hm25) (mg' _ hm25).1
  have hi25 : PySem.W.isFn K (.ref f25) = true := by
    have z := (mg' _ hm25).2
    rw [hv25] at z
    exact z
  have hm26 : (("Least", "shown", "Least.shown", s_Least_shown) : Str × Str × Str × Stmt) ∈ mts := List.mem_of_getElem? (i := 26) rfl
  obtain ⟨f26, oc26, od26, an26, osl26, kV26, doc26, pm26, cdv26, ct26, hv26, hl26, hc26, hk26⟩ := fun_of (ml _ hm26) (mg' _ hm26).1
  have hi26 : PySem.W.isFn K (.ref f26) = true := by
    have z := (mg' _ hm26).2
    rw [hv26] at z
    exact z
  have hm27 : (("Greatest", "shown", "Greatest.shown", s_Greatest_shown) : Str × Str × Str × Stmt) ∈ mts := List.mem_of_getElem? (i := 27) rfl
  obtain ⟨f27, oc27, od27, an27, osl27, kV27, doc27, pm27, cdv27, ct27, hv27, hl27, hc27, hk27⟩ := fun_of (ml _ hm27) (mg' _ hm27).1
  have hi27 : PySem.W.isFn K (.ref f27) = true := by
    have z := (mg' _ hm27).2
    rw [hv27] at z
    exact z
  have hm28 : (("Last", "shown", "Last.shown", s_Last_shown) : Str × Str × Str × Stmt) ∈ mts := List.mem_of_getElem? (i := 28) rfl
  obtain ⟨f28, oc28, od28, an28, osl28, kV28, doc28, pm28, cdv28, ct28, hv28, hl28, hc28, hk28⟩ := fun_of (ml _ hm28) (mg' _ hm28).1
  have hi28 : PySem.W.isFn K (.ref f28) = true := by
    have z := (mg' _ hm28).2
    rw [hv28] at z
    exact z
  have hm29 : (("Unlike", "shown", "Unlike.shown", s_Unlike_shown) : Str × Str × Str × Stmt) ∈ mts := List.mem_of_getElem? (i := 29) rfl
  obtain ⟨f29, oc29, od29, an29, osl29, kV29, doc29, pm29, cdv29, ct29, hv29, hl29, hc29, hk29⟩ := fun_of (ml _ hm29) (mg' _ hm29).1
  have hi29 : PySem.W.isFn K (.ref f29) = true := by
    have z := (mg' _ hm29).2
    rw [hv29] at z
    exact z
  have x_X : ∃ C, RX_X K mg C := rx_X_mk KX G hS g0 g1 g2 g3 g4 g5 (meth_of g0 hv0) hi0 hl0 hc0 hk0 (meth_of g1 hv1) hi1 hl1 hc1 hk1 (meth_of g2 hv2) hi2 hl2 hc2 hk2 (meth_of g3 hv3) hi3 hl3 hc3 hk3 (meth_of g4 hv4) hi4 hl4 hc4 hk4 (meth_of g5 hv5) hi5 hl5 hc5 hk5 (meth_of g0 hv6) hi6 hl6 hc6 hk6 (meth_of g1 hv7) hi7 hl7 hc7 hk7 (meth_of g2 hv8) hi8 hl8 hc8 hk8 (meth_of g3 hv9) hi9 hl9 hc9 hk9 (meth_of g4 hv10) hi10 hl10 hc10 hk10 (meth_of g5 hv11) hi11 hl11 hc11 hk11 (meth_of g0 hv12) hi12 hl12 hc12 hk12 (meth_of g1 hv13) hi13 hl13 hc13 hk13 (meth_of g2 hv14) hi14 hl14 hc14 hk14 (meth_of g3 hv15) hi15 hl15 hc15 hk15 (meth_of g4 hv16) hi16 hl16 hc16 hk16 (meth_of g5 hv17) hi17 hl17 hc17 hk17 (meth_of g0 hv18) hi18 hl18 hc18 hk18 (meth_of g1 hv19) hi19 hl19 hc19 hk19 (meth_of g2 hv20) hi20 hl20 hc20 hk20 (meth_of g3 hv21) hi21 hl21 hc21 hk21 (meth_of g4 hv22) hi22 hl22 hc22 hk22 (meth_of g5 hv23) hi23 hl23 hc23 hk23 (meth_of g0 hv24) hi24 hl24 hc24 hk24 (meth_of g1 hv25) hi25 hl25 hc25 hk25 (meth_of g2 hv26) hi26 hl26 hc26 hk26 (meth_of g3 hv27) hi27 hl27 hc27 hk27 (meth_of g4 hv28) hi28 hl28 hc28 hk28 (meth_of g5 hv29) hi29 hl29 hc29 hk29 (by
    simp only [List.all_cons, List.all_nil, k0, k1, k2, k3, k4, k5, Bool.and_self])
  obtain ⟨f, fd, hb, L⟩ := e_law
  exact ⟨f, fd, hb, L.m, fun base => all_ok T e_known e_unlike_values e_sum_of e_open e_draw e_far e_values e_word e_sum e_amount e_whole e_is e_part e_same_part e_trim e_none_stands e_trimmed x_X L⟩
end K25
open PySem PySem.W PyProof.Rows
set_option maxRecDepth 100000 in
set_option maxHeartbeats 0 in
theorem PySem.Challenge.cw_weirmark_k25_what_is_trimmed_holds : PySem.Challenge.rw_weirmark_k25_what_is_trimmed.Holds := by
  w_on; o_law
  refine PySem.W.holds_open (q := K25.qv) (loose := []) (Xt := K25.Xt) (XP := XL K25.qv []) (Yf := K25.obs) (Ya := fun _ => K25.want) (YP := fun _ h => ∃ K : PySem.W.Frag, K25.Fa K ∧ K.In h) (N := 8344) K25.left (fun w s e => ⟨_, e, L2.fragOf_in _ _⟩) (fun w h h' ⟨K, a, b⟩ k => ⟨K, a, b.keeps k⟩) (fun s e => xl_of s (Bool.and_eq_true_iff.mp e).1) XL.keeps (by rfl) (by rfl) (by rfl) (fun s e => recFacts_of (Bool.and_eq_true_iff.mp e).2) (by rfl) (by first | assumption | decide +kernel) (by decide +kernel) ⟨rfl, rfl, rfl, rfl, rfl, by decide +kernel⟩ ?hw ?hc
  case hw => w_witness2
  case hc =>
    refine L2.walk_ofE (l := PySem.Challenge.rw_weirmark_k25_what_is_trimmed) (n := 63) (k := 7) (x := "_law_script") (CX := L2.CX0) (sp := K25.spLaw) rfl (by decide) rfl ⟨rfl, by decide, by decide⟩ ?_ (fun K H a ns hl _ hS => ⟨a, ns, rfl, hS, hl, fun _ => rfl⟩) fun _ _ _ _ z => z
    intro w K mg fa h hF KX G hmg
    obtain ⟨f, fd, hb, hm, ok⟩ := K25.all_in (w := w) (P := PySem.Challenge.pw_weirmark_k25_what_is_trimmed) hF KX G
    have e0 := hmg.symm.trans hm
    cases e0
    exact ⟨fd, hb, fun base _ _ => ok base⟩
end
