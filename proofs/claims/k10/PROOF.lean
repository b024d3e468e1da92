import PyProof.Rows.All
import Wide.All
import OpenK.AllK
import Wide.FinOn
import Lean
import PyProof.EqAt
import PyProof.EqKinds
import PyProof.TupleCall
import PyProof.NeKinds
import KE.IntBitsLaws
import PyProof.ZipIter
import PyProof.StrCalls2
import PyProof.Rows.Range3
import PyProof.ListRange
import PyProof.LongRange
import PySem.Challenge.RW_nearerwork_k10_choices
set_option Elab.async false
set_option linter.all false
set_option maxRecDepth 100000
/-! THE HAND LAYER, for ints, bools, texts, own classes, LISTS and tuples (index, slices, in, append, pop ..), calls, loops. Paste it whole ahead of your own text; what your proof does not reach may be deleted. -/
namespace L2
open PySem PySem.Spec PyProof.Rows

/-- a key: an int or a str -/
abbrev Key := Sum Int Str
def keyIs : Key → Value → Bool
  | .inl k, v => Value.isInt k v
  | .inr x, v => Value.isStrOf x v
def keyH (w : World) : Key → Int
  | .inl k => hashInt k
  | .inr x => hashStr w x
theorem keyIs_shape : ∀ {k : Key} {v : Value}, keyIs k v = true → (∃ i t, k = Sum.inl i ∧ v = Value.int i t) ∨ (∃ x t, k = Sum.inr x ∧ v = Value.str x t)
  | .inl i, v, h => by
    obtain ⟨t, e⟩ := Value.isInt_shape (k := i) (v := v) h
    exact .inl ⟨i, t, rfl, e⟩
  | .inr x, v, h => by
    obtain ⟨t, e⟩ := Value.isStrOf_shape (x := x) (v := v) h
    exact .inr ⟨x, t, rfl, e⟩
theorem keyIs_int (i : Int) (t : Tok) : keyIs (.inl i) (.int i t) = true := by simp [keyIs, Value.isInt]
theorem keyIs_str (x : Str) (t : Tok) : keyIs (.inr x) (.str x t) = true := by simp [keyIs, Value.isStrOf]
theorem key_ll (a b : Int) : decide ((Sum.inl a : Key) = Sum.inl b) = (a == b) := by
  by_cases e : a = b
  · subst e; simp
  · have h : ¬ (Sum.inl a : Key) = Sum.inl b := fun q => e (Sum.inl.inj q)
    rw [decide_eq_false h]
    exact (beq_eq_false_iff_ne.mpr e).symm
theorem key_rr (a b : Str) : decide ((Sum.inr a : Key) = Sum.inr b) = decide (a = b) := by
  by_cases e : a = b
  · subst e; simp
  · have h : ¬ (Sum.inr a : Key) = Sum.inr b := fun q => e (Sum.inr.inj q)
    rw [decide_eq_false h, decide_eq_false e]
theorem key_lr (a : Int) (b : Str) : decide ((Sum.inl a : Key) = Sum.inr b) = false := decide_eq_false (fun q => nomatch q)
theorem key_rl (a : Str) (b : Int) : decide ((Sum.inr a : Key) = Sum.inl b) = false := decide_eq_false (fun q => nomatch q)

def mixKind (prog : Program) (w : World) : PySem.KeyKind prog w Key where
  is := keyIs
  hash := keyH w
  inj := fun v a b ha hb => by
    rcases keyIs_shape ha with ⟨i, t, rfl, rfl⟩ | ⟨x, t, rfl, rfl⟩
    · rcases keyIs_shape hb with ⟨j, u, rfl, e⟩ | ⟨y, u, rfl, e⟩
      · injection e with e1 _; rw [e1]
      · exact nomatch e
    · rcases keyIs_shape hb with ⟨j, u, rfl, e⟩ | ⟨y, u, rfl, e⟩
      · exact nomatch e
      · injection e with e1 _; rw [e1]
  byValue := fun k v h => by
    rcases keyIs_shape h with ⟨i, t, rfl, rfl⟩ | ⟨x, t, rfl, rfl⟩ <;> rfl
  pyHash := fun hv h => by
    rcases keyIs_shape hv with ⟨i, t, rfl, rfl⟩ | ⟨x, t, rfl, rfl⟩
    · exact wpAny_pyHash_int h
    · exact wpAny_pyHash_str h
  eqBool := fun hu hv h => by
    rcases keyIs_shape hu with ⟨i, t, rfl, rfl⟩ | ⟨x, t, rfl, rfl⟩
    · rcases keyIs_shape hv with ⟨j, u, rfl, rfl⟩ | ⟨y, u, rfl, rfl⟩
      · rw [key_ll] at h; exact wpAny_eqBool_int h
      · rw [key_lr] at h; exact SeqAt.EqAt.int_str i t y u _ _ _ _ h
    · rcases keyIs_shape hv with ⟨j, u, rfl, rfl⟩ | ⟨y, u, rfl, rfl⟩
      · rw [key_rl] at h; exact SeqAt.EqAt.str_int x t j u _ _ _ _ h
      · rw [key_rr] at h; exact wpAny_eqBool_str h
  «strs» := fun k x t v h => by
    rcases keyIs_shape h with ⟨i, u, rfl, e⟩ | ⟨y, u, rfl, e⟩
    · exact nomatch e
    · injection e with e1 _
      subst e1
      cases v <;> rfl

theorem mixKind_int (prog : Program) (w : World) (i : Int) (t : Tok) : (mixKind prog w).is (.inl i) (.int i t) = true := keyIs_int i t
theorem mixKind_str (prog : Program) (w : World) (x : Str) (t : Tok) : (mixKind prog w).is (.inr x) (.str x t) = true := keyIs_str x t
end L2

namespace L2
open PySem PySem.Spec PyProof.Rows

/-- a value, without the heap -/
inductive V where
  | non | bl (b : Bool) | int (i : Int) | str (x : Str) | byt (b : Array UInt8) | flt (b : UInt64) | ref (a : Addr) | ty (n : String)
  deriving DecidableEq

def RelV : V → Value → Prop
  | .non, u => u = Value.none
  | .bl b, u => u = Value.bool b
  | .int i, u => ∃ t, u = Value.int i t
  | .str x, u => ∃ t, u = Value.str x t
  | .byt b, u => ∃ t, u = Value.bytes b t
  | .flt b, u => ∃ t, u = Value.float b t
  | .ref a, u => u = Value.ref a
  | .ty n, u => u = Value.type n

abbrev Vals : List V → List Value → Prop := Paired RelV
theorem Vals.length {xs : List V} {us : List Value} (r : Vals xs us) : xs.length = us.length := Paired.length r
theorem Vals.get : ∀ {xs : List V} {us : List Value} {i : Nat} {x : V}, Vals xs us → xs[i]? = some x → ∃ u, us[i]? = some u ∧ RelV x u
  | _, _, _, _, .nil, e => by simp at e
  | _, _, 0, _, .cons r _, e => by simp at e; subst e; exact ⟨_, rfl, r⟩
  | _, _, i + 1, x, .cons _ t, e => by
    obtain ⟨u, h1, h2⟩ := Vals.get (i := i) (x := x) t (by simpa using e)
    exact ⟨u, by simpa using h1, h2⟩
theorem Vals.set {x : V} {u : Value} (r : RelV x u) : ∀ {xs : List V} {us : List Value} (i : Nat), Vals xs us → Vals (xs.set i x) (us.set i u)
  | _, _, _, .nil => .nil
  | _, _, 0, .cons _ t => .cons r t
  | _, _, i + 1, .cons q t => .cons q (Vals.set r i t)
theorem Vals.append : ∀ {xs ys : List V} {us ws : List Value}, Vals xs us → Vals ys ws → Vals (xs ++ ys) (us ++ ws)
  | _, _, _, _, .nil, s => s
  | _, _, _, _, .cons r t, s => .cons r (Vals.append t s)
def RelO : Option V → Option Value → Prop
  | some v, some u => RelV v u
  | none, none => True
  | _, _ => False
def KV {κ : Type} : List (κ × V) → List (κ × Value) → Prop := Paired fun (p : κ × V) (q : κ × Value) => p.1 = q.1 ∧ RelV p.2 q.2

/-- a key of a dict (00_mix): an int or a text -/
def kV : Key → V
  | .inl i => .int i
  | .inr x => .str x

/-- what stands at a tracked address -/
inductive HO where
  /-- a list -/
  | lst (xs : List V)
  /-- a tuple (never changes) -/
  | tup (xs : List V)
  /-- a dict whose keys are ints and texts; one whose keys are tuples of ints and texts (the empty one is both) -/
  | dK (kvs : List (Key × V)) | dT (kvs : List (List Key × V))
  /-- a set of ints: its members, its size -/
  | set (S : Int → Bool) (n : Nat)
  /-- an instance of the class at C, its dict at dx, its attributes -/
  | ins (C dx : Addr) (fs : List (Str × V))
  /-- the dict of the instance at x -/
  | own (x : Addr)
  /-- the dict of an exception -/
  | xd (fs : List (Str × V))
  /-- a bound method, f of x -/
  | met (f x : Addr)
  /-- a range object lo, lo + 1, .. below hi -/
  | rng (lo hi : Int)
  /-- a thing that is known to the object (the script; a dict while a loop walks it): read, never written while it is so -/
  | frz (o : Obj) (u : HO)
  /-- a code object's table -/
  | tbl (ps : Array Value)
  /-- any other thing, by what is true of its one object (a def of one's own: SetO a S n := HO.ext fun h => ..) -/
  | ext (φ : Heap → Prop)

abbrev Hp := Addr → Option HO
def upd (H : Hp) (a : Addr) (o : HO) : Hp := fun b => if b = a then some o else H b
theorem upd_same {H : Hp} {a : Addr} {o : HO} : upd H a o a = some o := by unfold upd; rw [if_pos rfl]
theorem upd_ne {H : Hp} {a b : Addr} {o : HO} (h : b ≠ a) : upd H a o b = H b := by unfold upd; rw [if_neg h]
theorem upd_upd {H : Hp} {a : Addr} {o u : HO} : upd (upd H a o) a u = upd H a u := by
  funext b; unfold upd; split <;> rfl
/-- two objects of different content stand apart -/
theorem ne_of {H : Hp} {a b : Addr} {o u : HO} (h : H a = some o) (h' : H b = some u) (d : o ≠ u) : a ≠ b := by
  intro e; subst e; rw [h] at h'; exact d (Option.some.inj h')
theorem ne_of_none {H : Hp} {a b : Addr} {o : HO} (h : H a = some o) (h' : H b = none) : a ≠ b := by
  intro e; subst e; rw [h] at h'; cases h'

section
variable (P : Program) (w : World)
def ObjOk (H : Hp) (h : Heap) (a : Addr) : HO → Prop
  | .lst xs => xs.length ≤ sizeLine ∧ ∃ (its : List Value) (n : Nat), Vals xs its ∧ h.get? a = some { cls := .type "list", data := .seq its.toArray n }
  | .tup xs => xs.length ≤ sizeLine ∧ ∃ its : List Value, Vals xs its ∧ IsTup h a its.toArray
  | .dK kvs => kvs.length ≤ sizeLine ∧ (a == sysModules) = false ∧ ∃ vs, KV kvs vs ∧ h.DictOf (mixKind P w) a vs
  | .dT kvs => kvs.length ≤ sizeLine ∧ (a == sysModules) = false ∧ ∃ xs : List (List Key × Addr × Value),
      Paired (fun (p : List Key × V) (q : List Key × Addr × Value) => p.1 = q.1 ∧ H q.2.1 = some (.tup (p.1.map kV)) ∧ RelV p.2 q.2.2) kvs xs ∧
      ∃ o es ep, h.get? a = some o ∧ o.ExactDict ∧ o.data = .dict es ep ∧ es.toList = xs.map (entryOfKey (tupleKind (mixKind P w))) ∧ (xs.map (·.1)).Nodup
  | .set S n => h.SetOf (intKind P w) a S n
  | .ins C dx fs => H dx = some (.own a) ∧ fs.length ≤ 1000 ∧ dx ≠ a ∧ h.get? a = some (PySem.W.instObj C dx) ∧
      ∃ mA, h.Ns1 dx mA ∧ (∀ f, RelO (fs.lookup f) (mA f)) ∧ PySem.Within mA (fs.map (·.1))
  | .own _ => ∃ o, h.get? a = some o
  | .xd fs => ∃ mA, h.Ns1 a mA ∧ ∀ f, RelO (fs.lookup f) (mA f)
  | .rng lo hi => ∃ t u v, h.get? a = some { cls := .type "range", data := .fields #[.int lo t, .int hi u, .int 1 v] }
  | .frz o u => h.get? a = some o ∧ ObjOk H h a u
  | .tbl ps => h.get? a = some { cls := .none, data := .fields ps }
  | .met f x => h.get? a = some (PySem.W.methodObj (.ref f) (.ref x))
  | .ext φ => φ h ∧ (∃ o, h.get? a = some o) ∧ ∀ h1 h2 : Heap, φ h1 → (∀ o, h1.get? a = some o → h2.get? a = some o) → φ h2
/-- the abstract heap is held -/
def HOk (H : Hp) (h : Heap) : Prop := ∀ a o, H a = some o → ObjOk P w H h a o
end

section
variable {P : Program} {w : World} {H H' : Hp} {h h' : Heap} {a : Addr} {o : HO}
theorem ObjOk.lt (x : ObjOk P w H h a o) : a < h.objs.size := by
  cases o with
  | lst xs => obtain ⟨_, _, _, _, e⟩ := x; exact Heap.lt_size e
  | tup xs => obtain ⟨_, _, _, p⟩ := x; exact p.lt
  | dK kvs => obtain ⟨_, _, _, _, o, _, _, e, _⟩ := x; exact Heap.lt_size e
  | dT kvs => obtain ⟨_, _, _, _, o, _, _, e, _⟩ := x; exact Heap.lt_size e
  | set S n => obtain ⟨o, _, _, _, e, _⟩ := x; exact Heap.lt_size e
  | ins C dx fs => obtain ⟨_, _, _, e, _⟩ := x; exact Heap.lt_size e
  | own y => obtain ⟨_, e⟩ := x; exact Heap.lt_size e
  | xd fs => obtain ⟨_, ⟨_, _, _, e, _⟩, _⟩ := x; exact Heap.lt_size e
  | rng lo hi => obtain ⟨_, _, _, e⟩ := x; exact Heap.lt_size e
  | frz ob u => obtain ⟨e, _⟩ := x; exact Heap.lt_size e
  | tbl ps => exact Heap.lt_size (show h.get? a = some _ from x)
  | met f y => exact Heap.lt_size (show h.get? a = some _ from x)
  | ext φ => obtain ⟨_, ⟨_, e⟩, _⟩ := x; exact Heap.lt_size e
theorem Paired.mapP {α β : Type} {F G : α → β → Prop} : ∀ {l₁ : List α} {l₂ : List β}, Paired F l₁ l₂ → (∀ a b, F a b → G a b) → Paired G l₁ l₂
  | _, _, .nil, _ => .nil
  | _, _, .cons r t, f => .cons (f _ _ r) (Paired.mapP t f)
/-- what an object's description leans on: its own object, its own dict, the tuples -/
theorem ObjOk.stay (x : ObjOk P w H h a o) (k : ∀ b u, (b = a ∨ H b = some (.own a)) → h.get? b = some u → h'.get? b = some u)
    (ho : ∀ b, H b = some (.own a) → H' b = some (.own a)) (ht : ∀ b xs, H b = some (.tup xs) → H' b = some (.tup xs)) : ObjOk P w H' h' a o := by
  induction o with
  | lst xs => obtain ⟨z, its, n, r, e⟩ := x; exact ⟨z, its, n, r, k _ _ (.inl rfl) e⟩
  | tup xs => obtain ⟨z, its, r, ob, e, c⟩ := x; exact ⟨z, its, r, ob, k _ _ (.inl rfl) e, c⟩
  | dK kvs => obtain ⟨z, y, vs, r, ob, es, ep, e, c⟩ := x; exact ⟨z, y, vs, r, ob, es, ep, k _ _ (.inl rfl) e, c⟩
  | dT kvs =>
    obtain ⟨z, y, xs, r, ob, es, ep, e, c⟩ := x
    exact ⟨z, y, xs, Paired.mapP r fun p q z => ⟨z.1, ht _ _ z.2.1, z.2.2⟩, ob, es, ep, k _ _ (.inl rfl) e, c⟩
  | set S n => obtain ⟨ob, es, ep, t, e, c⟩ := x; exact ⟨ob, es, ep, t, k _ _ (.inl rfl) e, c⟩
  | ins C dx fs =>
    obtain ⟨d, z, ne, e, mA, ⟨od, es, ep, e2, c⟩, r⟩ := x
    exact ⟨ho _ d, z, ne, k _ _ (.inl rfl) e, mA, ⟨od, es, ep, k _ _ (.inr d) e2, c⟩, r⟩
  | own y => obtain ⟨ob, e⟩ := x; exact ⟨ob, k _ _ (.inl rfl) e⟩
  | xd fs => obtain ⟨mA, ⟨od, es, ep, e, c⟩, r⟩ := x; exact ⟨mA, ⟨od, es, ep, k _ _ (.inl rfl) e, c⟩, r⟩
  | rng lo hi => obtain ⟨t, u, v, e⟩ := x; exact ⟨t, u, v, k _ _ (.inl rfl) e⟩
  | frz ob u ih => obtain ⟨e, q⟩ := x; exact ⟨k _ _ (.inl rfl) e, ih q⟩
  | tbl ps =>
    have e : h.get? a = some { cls := .none, data := .fields ps } := x
    show h'.get? a = some { cls := .none, data := .fields ps }
    exact k a _ (.inl rfl) e
  | met f y =>
    have e : h.get? a = some (PySem.W.methodObj (.ref f) (.ref y)) := x
    show h'.get? a = some (PySem.W.methodObj (.ref f) (.ref y))
    exact k a _ (.inl rfl) e
  | ext φ => obtain ⟨p, ⟨o, e⟩, st⟩ := x; exact ⟨st _ _ p fun o q => k _ _ (.inl rfl) q, ⟨o, k _ _ (.inl rfl) e⟩, st⟩
theorem HOk.lt (x : HOk P w H h) (e : H a = some o) : a < h.objs.size := (x a o e).lt
theorem HOk.fresh (x : HOk P w H h) (e : h.objs.size ≤ a) : H a = none := by
  cases q : H a with
  | none => rfl
  | some u => exact absurd (Nat.lt_of_lt_of_le (x.lt q) e) (Nat.lt_irrefl _)
/-- every object of the heap is kept -/
theorem HOk.kept (x : HOk P w H h) (k : ∀ b u, h.get? b = some u → h'.get? b = some u) : HOk P w H h' := fun a o e =>
  (x a o e).stay (fun b u _ q => k b u q) (fun _ q => q) fun _ _ q => q
/-- a new object is laid and tracked -/
theorem HOk.laid (x : HOk P w H h) (k : ∀ b u, h.get? b = some u → h'.get? b = some u) (hp : h.objs.size ≤ a) (new : ObjOk P w (upd H a o) h' a o) : HOk P w (upd H a o) h' := fun b u e => by
  have hn := x.fresh hp
  by_cases hb : b = a
  · subst hb; rw [upd_same] at e; cases e; exact new
  · rw [upd_ne hb] at e
    exact (x b u e).stay (fun c v _ q => k c v q) (fun c q => by rw [upd_ne (ne_of_none q hn)]; exact q) fun c xs q => by rw [upd_ne (ne_of_none q hn)]; exact q
end

/-- what may be read as u: it is u, or a known u -/
def Rd (H : Hp) (a : Addr) (u : HO) : Prop := H a = some u ∨ ∃ o, H a = some (.frz o u)
theorem Rd.of {H : Hp} {a : Addr} {u : HO} (h : H a = some u) : Rd H a u := .inl h
theorem Rd.ok {P : Program} {w : World} {H : Hp} {h : Heap} {a : Addr} {u : HO} (r : Rd H a u) (x : HOk P w H h) : ObjOk P w H h a u := by
  rcases r with r | ⟨o, r⟩
  · exact x a u r
  · obtain ⟨_, q⟩ := x a _ r
    exact q
/-- what may be written -/
def Mut : Option HO → Prop
  | some (.lst _) => True
  | some (.dK _) => True
  | some (.dT _) => True
  | some (.set _ _) => True
  | some (.ins _ _ _) => True
  | some (.ext _) => True
  | _ => False
section
variable {P : Program} {w : World} {H : Hp} {h h' : Heap} {x e : Addr} {o' : HO}
/-- the object at e is changed: x itself, or the dict of the instance x -/
theorem HOk.write (ok : HOk P w H h) (mu : Mut (H x)) (he : e = x ∨ H e = some (.own x)) (k : ∀ b u, b ≠ e → h.get? b = some u → h'.get? b = some u) (heo : ∃ u, h'.get? e = some u)
    (new : ObjOk P w (upd H x o') h' x o') : HOk P w (upd H x o') h' := fun b u q => by
  have nown : ∀ c y, H c = some (.own y) → c ≠ x := fun c y r z => by subst z; rw [r] at mu; exact mu
  have ntup : ∀ c xs, H c = some (.tup xs) → c ≠ x := fun c xs r z => by subst z; rw [r] at mu; exact mu
  by_cases hb : b = x
  · subst hb; rw [upd_same] at q; cases q; exact new
  · rw [upd_ne hb] at q
    by_cases hbe : b = e
    · have q' : H b = some (.own x) := by
        rcases he with z | z
        · exact absurd (hbe.trans z) hb
        · rw [hbe]; exact z
      rw [q] at q'; cases q'
      obtain ⟨v, hv⟩ := heo
      exact ⟨v, by rw [hbe]; exact hv⟩
    · refine (ok b u q).stay (fun c v hc r => k c v ?_ r) (fun c r => by rw [upd_ne (nown c b r)]; exact r) fun c xs r => by rw [upd_ne (ntup c xs r)]; exact r
      rcases hc with rfl | hc
      · exact hbe
      · rintro rfl
        rcases he with z | z
        · exact nown c b hc z
        · rw [hc] at z; cases z; exact hb rfl
end

/-! ### kept unless tracked; of the frames at fs (the callers') the slots may change (an exception that passes writes there); of the records at ex (iterators) nothing is said -/
structure Un (fs ex : List Addr) (H H' : Hp) (h h' : Heap) : Prop where
  keep : ∀ b o, h.get? b = some o → H b = none → b ∉ fs → b ∉ ex → h'.get? b = some o
  slot : ∀ b o, h.get? b = some o → H b = none → b ∈ fs → b ∉ ex → ∃ sl, h'.get? b = some { o with slots := sl }
  free : ∀ b o, h.get? b = some o → H b = none → b ∉ ex → H' b = none
  there : ∀ b o, h.get? b = some o → b ∉ ex → ∃ o', h'.get? b = some o'
  tups : ∀ b xs, H b = some (.tup xs) → H' b = some (.tup xs)
  frzs : ∀ b o u, H b = some (.frz o u) → H' b = some (.frz o u)
  tbls : ∀ b ps, H b = some (.tbl ps) → ∃ more, H' b = some (.tbl (ps ++ more))
section
variable {fs fs' ex ex' : List Addr} {H H1 H2 : Hp} {h h1 h2 h' : Heap} {a x e : Addr} {o : HO}
theorem Un.any (u : Un fs ex H H1 h h1) {b : Addr} {ob : Obj} (q : h.get? b = some ob) (n : H b = none) (hx : b ∉ ex) : ∃ sl, h1.get? b = some { ob with slots := sl } := by
  by_cases hb : b ∈ fs
  · exact u.slot b ob q n hb hx
  · exact ⟨ob.slots, u.keep b ob q n hb hx⟩
theorem Un.kept (k : ∀ b u, h.get? b = some u → h'.get? b = some u) : Un fs ex H H h h' :=
  ⟨fun b ob q _ _ _ => k b ob q, fun b ob q _ _ _ => ⟨ob.slots, k b ob q⟩, fun _ _ _ n _ => n, fun b ob q _ => ⟨ob, k b ob q⟩, fun _ _ q => q, fun _ _ _ q => q, fun _ ps q => ⟨#[], by rw [q]; simp⟩⟩
theorem Un.refl : Un fs ex H H h h := Un.kept fun _ _ q => q
theorem Un.laid (k : ∀ b u, h.get? b = some u → h'.get? b = some u) (hp : h.objs.size ≤ a) (hn : H a = none) : Un fs ex H (upd H a o) h h' where
  keep := fun b u q _ _ _ => k b u q
  slot := fun b u q _ _ _ => ⟨u.slots, k b u q⟩
  free := fun b u q n _ => by rw [upd_ne (Nat.ne_of_lt (Nat.lt_of_lt_of_le (Heap.lt_size q) hp))]; exact n
  there := fun b u q _ => ⟨u, k b u q⟩
  tups := fun b xs q => by rw [upd_ne (ne_of_none q hn)]; exact q
  frzs := fun b u xs q => by rw [upd_ne (ne_of_none q hn)]; exact q
  tbls := fun b ps q => ⟨#[], by rw [upd_ne (ne_of_none q hn), q]; simp⟩
theorem Un.write (mu : Mut (H x)) (he : e = x ∨ H e = some (.own x)) (k : ∀ b u, b ≠ e → h.get? b = some u → h'.get? b = some u) (heo : ∃ u, h'.get? e = some u) : Un fs ex H (upd H x o) h h' := by
  have hx : ∀ b, H b = none → b ≠ x := fun b n z => by subst z; rw [n] at mu; exact mu
  have hb : ∀ b, H b = none → b ≠ e := fun b n z => by
    subst z
    rcases he with r | r
    · exact hx b n r
    · rw [n] at r; cases r
  have hm : ∀ b u, H b = some u → ¬ Mut (some u) → b ≠ x := fun b u q nm z => by subst z; rw [q] at mu; exact nm mu
  refine ⟨fun b u q n _ _ => k b u (hb b n) q, fun b u q n _ _ => ⟨u.slots, k b u (hb b n) q⟩, fun b u q n _ => by rw [upd_ne (hx b n)]; exact n, fun b u q _ => ?_,
    fun b xs q => by rw [upd_ne (hm b _ q fun z => z)]; exact q, fun b u xs q => by rw [upd_ne (hm b _ q fun z => z)]; exact q, fun b ps q => ⟨#[], by rw [upd_ne (hm b _ q fun z => z), q]; simp⟩⟩
  by_cases hbe : b = e
  · subst hbe; exact heo
  · exact ⟨u, k b u hbe q⟩
end

/-! ### the heap without what is tracked -/
def trk (h : Heap) (H : Hp) : List Addr := (List.range h.objs.size).filter fun a => (H a).isSome
def hidT (h : Heap) (H : Hp) : Heap := PySem.W.hideAll h (trk h H)
theorem hidT_size (h : Heap) (H : Hp) : (hidT h H).objs.size = h.objs.size := PySem.W.hideAll_size _ _
theorem hidT_get {h : Heap} {H : Hp} {b : Addr} {o : Obj} (e : h.get? b = some o) (n : H b = none) : (hidT h H).get? b = some o :=
  PySem.W.hideAll_get _ e fun hm => by
    have q : (H b).isSome = true := (List.mem_filter.mp hm).2
    rw [n] at q; simp at q
theorem of_hidT {h : Heap} {H : Hp} {b : Addr} {o : Obj} (e : (hidT h H).get? b = some o) : h.get? b = some o ∧ H b = none := by
  have e' : h.get? b = some o := PySem.W.of_hideAll (trk h H) e
  refine ⟨e', ?_⟩
  cases q : H b with
  | none => rfl
  | some x =>
    have hm : b ∈ trk h H := List.mem_filter.mpr ⟨List.mem_range.mpr (Heap.lt_size e'), by simp [q]⟩
    have z : (hidT h H).get? b = none := PySem.W.hideAll_none (trk h H) hm
    rw [z] at e; cases e

/-! ### OpenK's ledger, filled with every new object but one -/
end L2

namespace L2
open PySem PySem.Spec PyProof.Rows

/-- the module's facts, over the base: the heap at the law's entry without what is tracked there -/
structure Mod (K : PySem.W.Frag) (mg : Str → Option Value) (base : Heap) : Prop where
  kin : K.In base
  glob : base.Ns mainGlobals mg
  blt : ∃ mb, base.Ns builtinsNs mb ∧ ∀ x : Str, x ≠ "__name__" → mb x = bootBuiltins x
  nolimit : base.NoLimit

/-- the context: a def's body (or a comprehension's block) running. base: fixed through the whole law; s₀, H₀: the entry; outer: the frames whose slots others may change (a def's callers); stack: all frames that run;
   ex: iterators that were made ahead of the entry and are walked here (a comprehension's); fn: the names whose cells were made at the entry (a def: all; a comprehension's block: its own); calm: not within an except suite; pn: pins that every state bears; xe: what is wanted of an exception that leaves the code -/
structure Cx where
  prog : Program
  w : World
  K : PySem.W.Frag
  mg : Str → Option Value
  base : Heap
  A : Around
  N : List Str
  s₀ : Shared
  H₀ : Hp
  env : Env
  outer : List Env
  stack : List Env
  ex : List Addr
  fn : Str → Bool
  calm : Bool
  pn : List (Addr × Obj)
  xe : Value → Shared → Prop
/-- the callers' frames -/
def frs (l : List Env) : List Addr := l.filterMap (·.frame)
abbrev Cx.fs (X : Cx) : List Addr := frs X.outer

def Vis (sc : Scope) (x : Str) : Prop := sc.names.lookup x = some .local ∨ sc.names.lookup x = some .cell ∨ sc.names.lookup x = some .free
def Loc (sc : Scope) (x : Str) : Prop := sc.names.lookup x = some .local ∨ sc.names.lookup x = some .cell
def Look (env : Env) (h : Heap) (m : Str → Option Value) (x : Str) (u : Value) : Prop :=
  (env.kindOf x = some .local ∧ m x = some u) ∨ ((env.kindOf x = some .cell ∨ env.kindOf x = some .free) ∧ ∃ c, env.cells.lookup x = some c ∧ h.IsCell c (some u))

structure Cx.Ok (X : Cx) : Prop where
  mod : Mod X.K X.mg X.base
  kind : X.env.scope.kind = .function
  glob : X.env.globals = mainGlobals
  blt : X.env.builtins = builtinsNs
  above : X.s₀.heap.objs.size ≤ X.env.locals
  inj : ∀ x y c, X.env.cells.lookup x = some c → X.env.cells.lookup y = some c → x = y
  has : ∀ x, (X.env.kindOf x = some .cell ∨ X.env.kindOf x = some .free) → ∃ c, X.env.cells.lookup x = some c
  cab : ∀ x c, X.fn x = true → X.env.cells.lookup x = some c → X.s₀.heap.objs.size ≤ c
  hd : X.calm = true → X.A.handled = none
  frames : X.A.frames = some X.stack
  stk : X.stack = X.outer ∨ (X.stack = X.env :: X.outer ∧ X.env.frame = some X.env.locals)
  exf : ∀ b ∈ X.ex, b ≠ X.env.locals ∧ ∀ x c, X.env.cells.lookup x = some c → c ≠ b
  bs : ∀ b o, X.base.get? b = some o → X.s₀.heap.get? b = some o ∧ X.H₀ b = none
  bsz : X.base.objs.size ≤ X.s₀.heap.objs.size
  noex : ∀ b o, X.base.get? b = some o → b ∉ X.ex
  exfs : ∀ b ∈ X.ex, b ∉ X.fs
  funs : X.s₀.heap.FunFrames X.base X.outer
  frf : ∀ b ∈ X.fs, X.H₀ b = none

structure Inv (X : Cx) (pins : List (Addr × Obj)) (σ : List (Option V)) (H : Hp) (s : Shared) : Prop where
  ok : X.Ok
  os : s.os = X.s₀.os
  bare : AllBare s.gens
  base : Un X.fs X.ex X.H₀ H X.s₀.heap s.heap
  loc : ∃ m, s.heap.Ns X.env.locals m ∧ ∀ (i : Nat) (x : Str) (v : V), X.N[i]? = some x → σ[i]? = some (some v) → Vis X.env.scope x → ∃ u, RelV v u ∧ Look X.env s.heap m x u
  cell : ∀ x c, X.env.cells.lookup x = some c → ∃ v, s.heap.IsCell c v
  free : H X.env.locals = none
  freeC : ∀ x c, X.env.cells.lookup x = some c → H c = none
  pin : ∀ p ∈ X.pn ++ pins, s.heap.get? p.1 = some p.2 ∧ H p.1 = none ∧ p.1 ≠ X.env.locals ∧ p.1 ∉ X.fs ∧ ∀ v, p.2.data ≠ .cell v
  hok : HOk X.prog X.w H s.heap
  len : σ.length = X.N.length

section
variable {X : Cx} {pins : List (Addr × Obj)} {σ : List (Option V)} {H H' : Hp} {s : Shared} {h' : Heap}

theorem Cx.Ok.nofr (ok : X.Ok) {b : Addr} {o : Obj} (e : X.base.get? b = some o) : b ∉ X.fs := fun hb => by
  have := (ok.funs.mem hb).1
  rw [e] at this; cases this
theorem Inv.bs (I : Inv X pins σ H s) : ∀ b o, X.base.get? b = some o → s.heap.get? b = some o ∧ H b = none := fun b o e =>
  ⟨I.base.keep b o (I.ok.bs b o e).1 (I.ok.bs b o e).2 (I.ok.nofr e) (I.ok.noex b o e), I.base.free b o (I.ok.bs b o e).1 (I.ok.bs b o e).2 (I.ok.noex b o e)⟩
theorem Inv.bk (I : Inv X pins σ H s) : ∀ b o, X.base.get? b = some o → s.heap.get? b = some o := fun b o e => (I.bs b o e).1
theorem Inv.mod (I : Inv X pins σ H s) : Mod X.K X.mg X.base := I.ok.mod
theorem Inv.kIn (I : Inv X pins σ H s) : X.K.In s.heap := I.ok.mod.kin.keeps I.bk
/-- the frame over the base: for OpenK's rules (K.In X.base is I.mod.kin) -/
theorem Inv.fr (I : Inv X pins σ H s) : ∃ m, Fr X.base X.env.locals s.heap m :=
  let ⟨m, hn, _⟩ := I.loc
  ⟨m, hn, I.bk, Nat.le_trans I.ok.bsz I.ok.above⟩
theorem Inv.lt (I : Inv X pins σ H s) : X.env.locals < s.heap.objs.size := let ⟨_, hn, _⟩ := I.loc; hn.lt
theorem Inv.sz (I : Inv X pins σ H s) : X.s₀.heap.objs.size ≤ s.heap.objs.size := Nat.le_trans I.ok.above (Nat.le_of_lt I.lt)
theorem Inv.nofs (I : Inv X pins σ H s) {a : Addr} (h : s.heap.objs.size ≤ a) : a ∉ X.fs := fun hb => by
  obtain ⟨_, o, ho, _⟩ := I.ok.funs.mem hb
  exact absurd (Nat.lt_of_lt_of_le (Heap.lt_size ho) (Nat.le_trans I.sz h)) (Nat.lt_irrefl _)
theorem Inv.cne (I : Inv X pins σ H s) : ∀ x c, X.env.cells.lookup x = some c → c ≠ X.env.locals := fun x c e z => by
  obtain ⟨v, o, ho, hd⟩ := I.cell x c e
  obtain ⟨m, ⟨o', es, ep, ho', hd', _⟩, _⟩ := I.loc
  rw [z, ho'] at ho; cases ho; rw [hd'] at hd; cases hd
theorem Inv.funs (I : Inv X pins σ H s) : s.heap.FunFrames X.base X.outer := by
  have all : ∀ (l : List Env), (∀ b ∈ frs l, b ∈ X.fs) → X.s₀.heap.FunFrames X.base l → s.heap.FunFrames X.base l := by
    intro l
    induction l with
    | nil => intro _ _; trivial
    | cons env r ih =>
      intro hs hl
      obtain ⟨hk, ⟨L, o, hf, hn, ho, hd⟩, hr⟩ := hl
      have hL : L ∈ X.fs := hs L (by unfold frs; rw [List.filterMap_cons, hf]; exact List.mem_cons_self)
      obtain ⟨sl, e⟩ := I.base.slot L o ho (I.ok.frf L hL) hL fun z => I.ok.exfs L z hL
      exact ⟨hk, ⟨L, _, hf, hn, e, hd⟩, ih (fun b hb => hs b (by unfold frs; rw [List.filterMap_cons, hf]; exact List.mem_cons_of_mem _ hb)) hr⟩
  exact all X.outer (fun _ hb => hb) I.ok.funs

/-- the frames that run, for a call -/
theorem Inv.stack (I : Inv X pins σ H s) : s.heap.FunFrames X.base X.stack := by
  rcases I.ok.stk with e | ⟨e, hf⟩
  · rw [e]; exact I.funs
  · rw [e]
    obtain ⟨m, hn, _⟩ := I.loc
    refine .cons (by rw [I.ok.kind]; decide) hf hn ?_ I.funs
    exact Heap.get?_none_of_le (Nat.le_trans I.ok.bsz I.ok.above)
theorem Inv.stkSub (I : Inv X pins σ H s) : ∀ b ∈ frs X.stack, b ∈ X.env.locals :: X.fs := fun b hb => by
  rcases I.ok.stk with e | ⟨e, hf⟩
  · rw [e] at hb; exact List.mem_cons_of_mem _ hb
  · rw [e] at hb
    unfold frs at hb
    rw [List.filterMap_cons, hf] at hb
    exact hb
theorem Inv.stkFree (I : Inv X pins σ H s) : ∀ b ∈ frs X.stack, H b = none := fun b hb => by
  rcases List.mem_cons.mp (I.stkSub b hb) with e | hb
  · rw [e]; exact I.free
  · obtain ⟨_, o, ho, _⟩ := I.ok.funs.mem hb
    exact I.base.free b o ho (I.ok.frf b hb) fun z => I.ok.exfs b z hb

/-- THE STEP: the untracked objects but the frame and the records at ch are kept (the callers' frames up to slots), the frame's map is kept, the new abstract heap is held -/
theorem Inv.step {g' : Array GenState} {t' : Nat} {d' : Drawn} {ch : List Addr} (I : Inv X pins σ H s)
    (hch : ∀ b ∈ ch, (b ∈ X.ex ∨ X.s₀.heap.objs.size ≤ b) ∧ b ≠ X.env.locals ∧ (∀ x c, X.env.cells.lookup x = some c → c ≠ b) ∧ ∀ p ∈ X.pn ++ pins, p.1 ≠ b)
    (keep : ∀ b o, b ≠ X.env.locals → b ∉ X.fs → b ∉ ch → s.heap.get? b = some o → H b = none → h'.get? b = some o)
    (slot : ∀ b o, b ≠ X.env.locals → b ∈ X.fs → b ∉ ch → s.heap.get? b = some o → H b = none → ∃ sl, h'.get? b = some { o with slots := sl }) (free : ∀ b o, b ∉ ch → s.heap.get? b = some o → H b = none → H' b = none)
    (there : ∀ b o, b ∉ ch → s.heap.get? b = some o → ∃ o', h'.get? b = some o')
    (tups : ∀ b xs, H b = some (.tup xs) → H' b = some (.tup xs)) (frzs : ∀ b o u, H b = some (.frz o u) → H' b = some (.frz o u)) (tbls : ∀ b ps, H b = some (.tbl ps) → ∃ more, H' b = some (.tbl (ps ++ more)))
    (ns : ∀ m, s.heap.Ns X.env.locals m → h'.Ns X.env.locals m) (hok : HOk X.prog X.w H' h') (hg : AllBare g') :
    Inv X pins σ H' { s with heap := h', gens := g', drawn := d', toks := t' } := by
  have neL : ∀ b o, X.s₀.heap.get? b = some o → b ≠ X.env.locals := fun b o e => Nat.ne_of_lt (Nat.lt_of_lt_of_le (Heap.lt_size e) I.ok.above)
  have neC : ∀ b o, X.s₀.heap.get? b = some o → b ∉ X.ex → b ∉ ch := fun b o e hx hb => by
    rcases (hch b hb).1 with z | z
    · exact hx z
    · exact absurd (Nat.lt_of_lt_of_le (Heap.lt_size e) z) (Nat.lt_irrefl _)
  have cellK : ∀ x c, X.env.cells.lookup x = some c → ∀ v, s.heap.IsCell c v → h'.IsCell c v := fun x c e v ⟨o, ho, hd⟩ => by
    have nch : c ∉ ch := fun z => (hch c z).2.2.1 x c e rfl
    by_cases hc : c ∈ X.fs
    · obtain ⟨sl, q⟩ := slot c o (I.cne x c e) hc nch ho (I.freeC x c e)
      exact ⟨_, q, hd⟩
    · exact ⟨o, keep c o (I.cne x c e) hc nch ho (I.freeC x c e), hd⟩
  refine ⟨I.ok, I.os, hg, ⟨fun b o e n hb hx => ?_, fun b o e n hb hx => ?_, fun b o e n hx => ?_, fun b o e hx => ?_, fun b xs e => tups b xs (I.base.tups b xs e), fun b o xs e => frzs b o xs (I.base.frzs b o xs e), fun b ps e => ?_⟩, ?_, fun x c e => ?_, ?_, fun x c e => ?_, fun p hp => ?_, hok, I.len⟩
  · exact keep b o (neL b o e) hb (neC b o e hx) (I.base.keep b o e n hb hx) (I.base.free b o e n hx)
  · obtain ⟨sl, e1⟩ := I.base.slot b o e n hb hx
    obtain ⟨sl', e2⟩ := slot b _ (neL b o e) hb (neC b o e hx) e1 (I.base.free b o e n hx)
    exact ⟨sl', e2⟩
  · obtain ⟨o', e1⟩ := I.base.there b o e hx
    exact free b o' (neC b o e hx) e1 (I.base.free b o e n hx)
  · obtain ⟨o', e1⟩ := I.base.there b o e hx
    exact there b o' (neC b o e hx) e1
  · obtain ⟨m1, e1⟩ := I.base.tbls b ps e
    obtain ⟨m2, e2⟩ := tbls b _ e1
    exact ⟨m1 ++ m2, by rw [e2, Array.append_assoc]⟩
  · obtain ⟨m, hn, hl⟩ := I.loc
    refine ⟨m, ns m hn, fun i x v e1 e2 e3 => ?_⟩
    obtain ⟨u, r, l⟩ := hl i x v e1 e2 e3
    refine ⟨u, r, ?_⟩
    rcases l with l | ⟨k, c, e, z⟩
    · exact .inl l
    · exact .inr ⟨k, c, e, cellK x c e _ z⟩
  · obtain ⟨v, z⟩ := I.cell x c e
    exact ⟨v, cellK x c e v z⟩
  · obtain ⟨m, ⟨o, _, _, ho, _⟩, _⟩ := I.loc
    exact free _ o (fun z => (hch _ z).2.1 rfl) ho I.free
  · obtain ⟨v, o, ho, hd⟩ := I.cell x c e
    exact free c o (fun z => (hch c z).2.2.1 x c e rfl) ho (I.freeC x c e)
  · obtain ⟨e, n, ne, nf, d⟩ := I.pin p hp
    have nch : p.1 ∉ ch := fun z => (hch p.1 z).2.2.2 p hp rfl
    exact ⟨keep p.1 p.2 ne nf nch e n, free p.1 p.2 nch e n, ne, nf, d⟩
/-- .. where the frame's own object is kept too -/
theorem Inv.un {t' : Nat} (I : Inv X pins σ H s) (u : Un X.fs [] H H' s.heap h') (hok : HOk X.prog X.w H' h') : Inv X pins σ H' { s with heap := h', toks := t' } := by
  obtain ⟨m, ⟨o, es, ep, ho, r⟩, _⟩ := id I.loc
  obtain ⟨sl, hL⟩ := u.any ho I.free (by simp)
  exact I.step (g' := s.gens) (d' := s.drawn) (ch := []) (fun _ z => nomatch z) (fun b o _ hb _ e n => u.keep b o e n hb (by simp)) (fun b o _ hb _ e n => u.slot b o e n hb (by simp)) (fun b o _ e n => u.free b o e n (by simp)) (fun b o _ e => u.there b o e (by simp)) u.tups u.frzs u.tbls (fun m' hm => by
    obtain ⟨o', es', ep', ho', r'⟩ := hm
    rw [ho] at ho'; cases ho'
    exact ⟨_, es', ep', hL, r'⟩) hok I.bare
/-- behind a call (or a comprehension's block): the slots of this frame may have changed too, the records at ch may have turned -/
theorem Inv.call {g' : Array GenState} {t' : Nat} {d' : Drawn} {ch : List Addr} (I : Inv X pins σ H s) (u : Un (frs X.stack) ch H H' s.heap h') (hok : HOk X.prog X.w H' h') (hg : AllBare g')
    (hch : ∀ b ∈ ch, (b ∈ X.ex ∨ X.s₀.heap.objs.size ≤ b) ∧ b ≠ X.env.locals ∧ (∀ x c, X.env.cells.lookup x = some c → c ≠ b) ∧ ∀ p ∈ X.pn ++ pins, p.1 ≠ b) :
    Inv X pins σ H' { s with heap := h', gens := g', drawn := d', toks := t' } := by
  obtain ⟨m, ⟨o, es, ep, ho, r⟩, _⟩ := id I.loc
  obtain ⟨sl, hL⟩ := u.any ho I.free fun z => (hch _ z).2.1 rfl
  exact I.step (ch := ch) hch (fun b o hL hb hc e n => u.keep b o e n (fun z => (List.mem_cons.mp (I.stkSub b z)).elim hL hb) hc) (fun b o _ _ hc e n => u.any e n hc) (fun b o hc e n => u.free b o e n hc) (fun b o hc e => u.there b o e hc) u.tups u.frzs u.tbls (fun m' hm => by
    obtain ⟨o', es', ep', ho', r'⟩ := hm
    rw [ho] at ho'; cases ho'
    exact ⟨_, es', ep', hL, r'⟩) hok hg
/-- an untracked record of ours (an iterator) has turned -/
theorem Inv.turned {t' : Nat} {it : Addr} (I : Inv X pins σ H s) (k : ∀ b o, b ≠ it → s.heap.get? b = some o → h'.get? b = some o) (hn : H it = none) (hL : it ≠ X.env.locals)
    (h1 : it ∈ X.ex ∨ X.s₀.heap.objs.size ≤ it) (h2 : ∀ x c, X.env.cells.lookup x = some c → c ≠ it) (h3 : ∀ p ∈ X.pn ++ pins, p.1 ≠ it) : Inv X pins σ H { s with heap := h', toks := t' } := by
  have nit : ∀ b u, H b = some u → b ≠ it := fun b u e z => by rw [z, hn] at e; cases e
  refine I.step (g' := s.gens) (d' := s.drawn) (ch := [it]) (fun b hb => ?_) (fun b o _ _ hc e _ => k b o (fun z => hc (by simp [z])) e) (fun b o _ _ hc e _ => ⟨o.slots, k b o (fun z => hc (by simp [z])) e⟩) (fun _ _ _ _ n => n)
    (fun b o hc e => ⟨o, k b o (fun z => hc (by simp [z])) e⟩) (fun _ _ e => e) (fun _ _ _ e => e) (fun b ps e => ⟨#[], by rw [e]; simp⟩) (fun m hm => ?_) (fun b u e => ?_) I.bare
  · have e : b = it := by simpa using hb
    subst e
    exact ⟨h1, hL, h2, h3⟩
  · obtain ⟨o, es, ep, ho, r⟩ := hm
    exact ⟨o, es, ep, k _ o (Ne.symm hL) ho, r⟩
  · refine (I.hok b u e).stay (fun c v hc q => k c v ?_ q) (fun _ q => q) fun _ _ q => q
    rcases hc with z | z
    · rw [z]; exact nit b u e
    · exact nit c _ z
theorem Inv.tok (I : Inv X pins σ H s) (t : Nat) : Inv X pins σ H { s with toks := t } := I.un (h' := s.heap) (t' := t) Un.refl I.hok
/-- all objects kept -/
theorem Inv.kept {t' : Nat} (I : Inv X pins σ H s) (k : ∀ b u, s.heap.get? b = some u → h'.get? b = some u) : Inv X pins σ H { s with heap := h', toks := t' } := I.un (Un.kept k) (I.hok.kept k)
/-- a new object laid and tracked -/
theorem Inv.laid {a : Addr} {o : HO} {t' : Nat} (I : Inv X pins σ H s) (k : ∀ b u, s.heap.get? b = some u → h'.get? b = some u) (hp : s.heap.objs.size ≤ a) (new : ObjOk X.prog X.w (upd H a o) h' a o) :
    Inv X pins σ (upd H a o) { s with heap := h', toks := t' } := I.un (Un.laid k hp (I.hok.fresh hp)) (I.hok.laid k hp new)
/-- an object written -/
theorem Inv.write {x e : Addr} {o : HO} {t' : Nat} (I : Inv X pins σ H s) (mu : Mut (H x)) (he : e = x ∨ H e = some (.own x)) (k : ∀ b u, b ≠ e → s.heap.get? b = some u → h'.get? b = some u) (heo : ∃ u, h'.get? e = some u)
    (new : ObjOk X.prog X.w (upd H x o) h' x o) : Inv X pins σ (upd H x o) { s with heap := h', toks := t' } := I.un (Un.write mu he k heo) (I.hok.write mu he k heo new)
/-- forgetting slots, pins -/
theorem Inv.weak {σ' : List (Option V)} (I : Inv X pins σ H s) (hl : σ'.length = σ.length) (w : ∀ (i : Nat) v, σ'[i]? = some (some v) → σ[i]? = some (some v)) : Inv X pins σ' H s :=
  ⟨I.ok, I.os, I.bare, I.base, let ⟨m, hn, hl'⟩ := I.loc; ⟨m, hn, fun i x v e1 e2 e3 => hl' i x v e1 (w i v e2) e3⟩, I.cell, I.free, I.freeC, I.pin, I.hok, hl.trans I.len⟩
theorem Inv.pins_of {pins' : List (Addr × Obj)} (I : Inv X pins σ H s) (h : ∀ p ∈ pins', s.heap.get? p.1 = some p.2 ∧ H p.1 = none ∧ p.1 ≠ X.env.locals ∧ p.1 ∉ X.fs ∧ ∀ v, p.2.data ≠ .cell v) : Inv X pins' σ H s :=
  ⟨I.ok, I.os, I.bare, I.base, I.loc, I.cell, I.free, I.freeC, fun p hp => (List.mem_append.mp hp).elim (fun z => I.pin p (List.mem_append_left _ z)) (h p), I.hok, I.len⟩

theorem nodup_ix {N : List Str} (hN : N.Nodup) {i j : Nat} {x : Str} (a : N[i]? = some x) (b : N[j]? = some x) : i = j := by
  obtain ⟨h1, e1⟩ := List.getElem?_eq_some_iff.mp a
  obtain ⟨h2, e2⟩ := List.getElem?_eq_some_iff.mp b
  exact (List.getElem_inj hN).mp (e1.trans e2.symm)

/-- a name is stored; what changed -/
theorem store_ok2 {M : Model} {A : Around} {E : Value → Shared → Prop} {i : Nat} {x : Str} {v : V} {u : Value} {Q : Unit → Shared → Prop} (I : Inv X pins σ H s) (hN : X.N.Nodup) (hi : X.N[i]? = some x) (hx : Loc X.env.scope x) (r : RelV v u)
    (h : ∀ s', Inv X pins (σ.set i (some v)) H s' → (∃ a, Heap.SameBut a s.heap s'.heap ∧ (a = X.env.locals ∨ X.env.cells.lookup x = some a)) → Q () s') (hf : X.fn x = true ∨ X.env.scope.names.lookup x = some .local := by first | exact .inl rfl | exact .inr rfl | assumption) : wpAny M A (storeName X.env x u) Q E s := by
  obtain ⟨m, hn, hl⟩ := id I.loc
  have hcls : (X.env.scope.kind == .class || (X.env.scope.kind == .module && X.env.locals != X.env.globals)) = false := by rw [I.ok.kind]; rfl
  have hiσ : i < σ.length := by rw [I.len]; exact (List.getElem?_eq_some_iff.mp hi).1
  have cne := I.cne
  have tracked : ∀ {a : Addr} {h' : Heap}, (∃ o, s.heap.get? a = some o ∧ H a = none) → Heap.SameBut a s.heap h' → HOk X.prog X.w H h' := fun {a h'} ha hs b ob e => by
    obtain ⟨_, _, hfree⟩ := ha
    refine (I.hok b ob e).stay (fun c w' hc q => (hs.2 c ?_).trans q) (fun _ q => q) fun _ _ q => q
    rintro rfl
    rcases hc with rfl | hc
    · rw [hfree] at e; cases e
    · rw [hfree] at hc; cases hc
  rcases hx with hk | hk
  · refine wpAny_storeName_local hk hn (fun h' hn' hs => ?_) hcls
    obtain ⟨oL, _, _, hoL, _⟩ := id hn
    refine h _ ⟨I.ok, I.os, I.bare, ⟨fun b o e n hb hx => ?_, fun b o e n hb hx => ?_, I.base.free, fun b o e hx => ?_, I.base.tups, I.base.frzs, I.base.tbls⟩, ⟨_, hn', fun j y v' e1 e2 e3 => ?_⟩, fun y c e => ?_, I.free, I.freeC, fun p hp => ?_, tracked ⟨oL, hoL, I.free⟩ hs, by simpa using I.len⟩ ⟨_, hs, .inl rfl⟩
    · exact (hs.2 b (Nat.ne_of_lt (Nat.lt_of_lt_of_le (Heap.lt_size e) I.ok.above))).trans (I.base.keep b o e n hb hx)
    · obtain ⟨sl, e1⟩ := I.base.slot b o e n hb hx
      exact ⟨sl, (hs.2 b (Nat.ne_of_lt (Nat.lt_of_lt_of_le (Heap.lt_size e) I.ok.above))).trans e1⟩
    · obtain ⟨o', e1⟩ := I.base.there b o e hx
      exact ⟨o', (hs.2 b (Nat.ne_of_lt (Nat.lt_of_lt_of_le (Heap.lt_size e) I.ok.above))).trans e1⟩
    · by_cases hj : j = i
      · subst hj
        rw [hi] at e1; cases e1
        rw [List.getElem?_set_self hiσ] at e2
        cases e2
        exact ⟨u, r, .inl ⟨hk, by simp⟩⟩
      · rw [List.getElem?_set_ne (Ne.symm hj)] at e2
        obtain ⟨u', r', q⟩ := hl j y v' e1 e2 e3
        refine ⟨u', r', ?_⟩
        rcases q with ⟨k, e⟩ | ⟨k, c, e, z⟩
        · refine .inl ⟨k, ?_⟩
          have : y ≠ x := fun e => hj (nodup_ix hN e1 (e ▸ hi))
          simp [this, e]
        · exact .inr ⟨k, c, e, z.sameBut hs (cne y c e)⟩
    · obtain ⟨w', z⟩ := I.cell y c e
      exact ⟨w', z.sameBut hs (cne y c e)⟩
    · obtain ⟨e, n, ne, nf, d⟩ := I.pin p hp
      exact ⟨(hs.2 p.1 ne).trans e, n, ne, nf, d⟩
  · have hfn : X.fn x = true := by
      rcases hf with z | z
      · exact z
      · rw [z] at hk; cases hk
    obtain ⟨c, hc⟩ := I.ok.has x (.inl hk)
    obtain ⟨w', z⟩ := I.cell x c hc
    refine wpAny_storeName_cell I.ok.kind hk hc z (fun h' hc' hs => ?_)
    obtain ⟨oc, hoc, hocd⟩ := id z
    refine h { s with heap := h' } ⟨I.ok, I.os, I.bare, ⟨fun b o e n hb hx => ?_, fun b o e n hb hx => ?_, I.base.free, fun b o e hx => ?_, I.base.tups, I.base.frzs, I.base.tbls⟩, ⟨m, hn.sameBut hs (Ne.symm (cne x c hc)), fun j y v' e1 e2 e3 => ?_⟩, fun y c' e => ?_, I.free, I.freeC, fun p hp => ?_, tracked ⟨oc, hoc, I.freeC x c hc⟩ hs, by simpa using I.len⟩ ⟨c, hs, .inr hc⟩
    · exact (hs.2 b (Nat.ne_of_lt (Nat.lt_of_lt_of_le (Heap.lt_size e) (I.ok.cab x c hfn hc)))).trans (I.base.keep b o e n hb hx)
    · obtain ⟨sl, e1⟩ := I.base.slot b o e n hb hx
      exact ⟨sl, (hs.2 b (Nat.ne_of_lt (Nat.lt_of_lt_of_le (Heap.lt_size e) (I.ok.cab x c hfn hc)))).trans e1⟩
    · obtain ⟨o', e1⟩ := I.base.there b o e hx
      exact ⟨o', (hs.2 b (Nat.ne_of_lt (Nat.lt_of_lt_of_le (Heap.lt_size e) (I.ok.cab x c hfn hc)))).trans e1⟩
    · by_cases hj : j = i
      · subst hj
        rw [hi] at e1; cases e1
        rw [List.getElem?_set_self hiσ] at e2
        cases e2
        exact ⟨u, r, .inr ⟨.inl hk, c, hc, hc'⟩⟩
      · rw [List.getElem?_set_ne (Ne.symm hj)] at e2
        obtain ⟨u', r', q⟩ := hl j y v' e1 e2 e3
        refine ⟨u', r', ?_⟩
        rcases q with q | ⟨k, c', e, z'⟩
        · exact .inl q
        · refine .inr ⟨k, c', e, z'.sameBut hs ?_⟩
          rintro rfl
          exact hj (nodup_ix hN e1 (I.ok.inj _ _ _ e hc ▸ hi))
    · by_cases hcc : c' = c
      · subst hcc; exact ⟨_, hc'⟩
      · obtain ⟨w2, z2⟩ := I.cell y c' e
        exact ⟨w2, z2.sameBut hs hcc⟩
    · obtain ⟨e, n, ne, nf, d⟩ := I.pin p hp
      refine ⟨(hs.2 p.1 ?_).trans e, n, ne, nf, d⟩
      intro q
      rw [q, hoc] at e
      have q' : oc = p.2 := Option.some.inj e
      exact d w' (by rw [← q']; exact hocd)
theorem store_ok {M : Model} {A : Around} {E : Value → Shared → Prop} {i : Nat} {x : Str} {v : V} {u : Value} {Q : Unit → Shared → Prop} (I : Inv X pins σ H s) (hN : X.N.Nodup) (hi : X.N[i]? = some x) (hx : Loc X.env.scope x) (r : RelV v u)
    (h : ∀ s', Inv X pins (σ.set i (some v)) H s' → Q () s') (hf : X.fn x = true ∨ X.env.scope.names.lookup x = some .local := by first | exact .inl rfl | exact .inr rfl | assumption) : wpAny M A (storeName X.env x u) Q E s :=
  store_ok2 I hN hi hx r (fun s' I' _ => h s' I') hf
/-- behind a call or a block, the state as it is -/
theorem Inv.call' {s' : Shared} {ch : List Addr} (I : Inv X pins σ H s) (ho : s'.os = s.os) (u : Un (frs X.stack) ch H H' s.heap s'.heap) (hok : HOk X.prog X.w H' s'.heap) (hg : AllBare s'.gens)
    (hch : ∀ b ∈ ch, (b ∈ X.ex ∨ X.s₀.heap.objs.size ≤ b) ∧ b ≠ X.env.locals ∧ (∀ x c, X.env.cells.lookup x = some c → c ≠ b) ∧ ∀ p ∈ X.pn ++ pins, p.1 ≠ b) : Inv X pins σ H' s' := by
  obtain ⟨h', g', d', t', o'⟩ := s'
  have e : o' = s.os := ho
  subst e
  exact I.call (g' := g') (t' := t') (d' := d') u hok hg hch
end

/-! ### the judgements -/
/-- an exception: its class, its own dict's address (where it has one), the abstract heap behind it -/
abbrev XK := Value → Option Addr → Hp → Prop
abbrev St := List (Option V)
abbrev VK := V → Hp → Prop
/-- an expression's reading; a test's; an argument list's -/
abbrev TE := St → Hp → VK → Prop
abbrev TT := St → Hp → (Bool → Hp → Prop) → Prop
abbrev TA := St → Hp → (List V → Hp → Prop) → Prop
/-- what is wanted behind a statement -/
structure Ends where
  nx : St → Hp → Prop
  rt : VK
  bk : St → Hp → Prop := fun _ _ => False
  ct : St → Hp → Prop := fun _ _ => False
abbrev TS := Ends → St → Hp → Prop

def EP (X : Cx) (pins : List (Addr × Obj)) (σ : St) (Q : VK) (u : Value) (s' : Shared) : Prop := ∃ v H', Inv X pins σ H' s' ∧ RelV v u ∧ Q v H'
def TP (X : Cx) (pins : List (Addr × Obj)) (σ : St) (Q : Bool → Hp → Prop) (b : Bool) (s' : Shared) : Prop := ∃ H', Inv X pins σ H' s' ∧ Q b H'
def AP (X : Cx) (pins : List (Addr × Obj)) (σ : St) (Q : List V → Hp → Prop) (us : List Value) (s' : Shared) : Prop := ∃ vs H', Inv X pins σ H' s' ∧ Vals vs us ∧ Q vs H'
def SP (X : Cx) (pins : List (Addr × Obj)) (D : Ends) (f : Flow) (s' : Shared) : Prop :=
  match f with
  | .next => ∃ σ' H', Inv X pins σ' H' s' ∧ D.nx σ' H'
  | .brk => ∃ σ' H', Inv X pins σ' H' s' ∧ D.bk σ' H'
  | .cont => ∃ σ' H', Inv X pins σ' H' s' ∧ D.ct σ' H'
  | .ret u => ∃ v σ' H', Inv X pins σ' H' s' ∧ RelV v u ∧ D.rt v H'

def PE (X : Cx) (e : Expr) (t : TE) : Prop :=
  ∀ (pins : List (Addr × Obj)) (s : Shared) (σ : St) (H : Hp) (Q : VK), Inv X pins σ H s → t σ H Q → wpAny (model X.prog X.w) X.A (eval e X.env) (EP X pins σ Q) X.xe s
def PT (X : Cx) (e : Expr) (t : TT) : Prop :=
  ∀ (pins : List (Addr × Obj)) (s : Shared) (σ : St) (H : Hp) (Q : Bool → Hp → Prop), Inv X pins σ H s → t σ H Q → wpAny (model X.prog X.w) X.A (isTrue e X.env (eval e X.env)) (TP X pins σ Q) X.xe s
/-- a test whatever its 'whole' is (and, or) -/
def PW (X : Cx) (e : Expr) (t : TT) : Prop :=
  ∀ (whole : Sem Value) (pins : List (Addr × Obj)) (s : Shared) (σ : St) (H : Hp) (Q : Bool → Hp → Prop), Inv X pins σ H s → t σ H Q → wpAny (model X.prog X.w) X.A (isTrue e X.env whole) (TP X pins σ Q) X.xe s
theorem PW.pt {X : Cx} {e : Expr} {t : TT} (h : PW X e t) : PT X e t := h _
/-- an argument list (no star), from the left -/
def PA (X : Cx) (es : List Expr) (t : TA) : Prop :=
  ∀ (pos : Pos) (pins : List (Addr × Obj)) (s : Shared) (σ : St) (H : Hp) (Q : List V → Hp → Prop), Inv X pins σ H s → t σ H Q → wpAny (model X.prog X.w) X.A (spliced (backTo pos (starEach es X.env))) (AP X pins σ Q) X.xe s
def PS (X : Cx) (st : Stmt) (t : TS) : Prop :=
  ∀ (pins : List (Addr × Obj)) (s : Shared) (σ : St) (H : Hp) (D : Ends), Inv X pins σ H s → t D σ H → wpAny (model X.prog X.w) X.A (exec st X.env) (SP X pins D) X.xe s
def PSs (X : Cx) (st : List Stmt) (t : TS) : Prop :=
  ∀ (pins : List (Addr × Obj)) (s : Shared) (σ : St) (H : Hp) (D : Ends), Inv X pins σ H s → t D σ H → wpAny (model X.prog X.w) X.A (execs st X.env) (SP X pins D) X.xe s
/-- weaken the end -/
theorem thn {α : Type} {t : Sem α} {Q Q' : α → Shared → Prop} {M : Model} {A : Around} {E : Value → Shared → Prop} {s : Shared} (h : wpAny M A t Q E s) (hQ : ∀ a s, Q a s → Q' a s) : wpAny M A t Q' E s := wpAny_mono h hQ fun _ _ x => x
end L2

namespace L2
open PySem PySem.Spec PyProof.Rows
section
variable {X : Cx}

/-- two expressions in a row -/
theorem bin {a b : Expr} {ta tb : TE} (ha : PE X a ta) (hb : PE X b tb) {pins : List (Addr × Obj)} {s : Shared} {σ : St} {H : Hp} {R : V → V → Hp → Prop} (I : Inv X pins σ H s) (h : ta σ H fun x H1 => tb σ H1 fun y H2 => R x y H2)
    {α : Type} {Q : α → Shared → Prop} {f : Value → Value → Sem α}
    (hf : ∀ v u s2 x y H2, Inv X pins σ H2 s2 → RelV x v → RelV y u → R x y H2 → wpAny (model X.prog X.w) X.A (f v u) Q X.xe s2) :
    wpAny (model X.prog X.w) X.A (eval a X.env) (fun v s₁ => wpAny (model X.prog X.w) X.A (eval b X.env) (fun u s₂ => wpAny (model X.prog X.w) X.A (f v u) Q X.xe s₂) X.xe s₁) X.xe s := by
  refine thn (ha pins s σ H _ I h) fun v s1 ⟨x, H1, I1, r1, q1⟩ => ?_
  refine thn (hb pins s1 σ H1 _ I1 q1) fun u s2 ⟨y, H2, I2, r2, q2⟩ => ?_
  exact hf v u s2 x y H2 I2 r1 r2 q2

/-! ### names and constants -/
def tVar (i : Nat) : TE := fun σ H Q => ∃ v, σ[i]? = some (some v) ∧ Q v H
def tC (v : V) : TE := fun _ H Q => Q v H
theorem pe_var {i : Nat} {x : Str} {pos : Pos} (hN : X.N[i]? = some x) (hv : Vis X.env.scope x) (hd : (x == ("__debug__" : Str)) = false := by decide) (hcd : (x == ("__classdict__" : Str)) = false := by decide) : PE X (.Name x pos) (tVar i) := by
  intro pins s σ H Q I h
  obtain ⟨v, e, h⟩ := h
  obtain ⟨m, hn, hl⟩ := I.loc
  obtain ⟨u, r, l⟩ := hl i x v hN e hv
  have fin : EP X pins σ Q u s := ⟨v, H, I, r, h⟩
  rcases l with ⟨hk, hm⟩ | ⟨hk, c, hc, hcell⟩
  · exact wpAny_Name (wpAny_loadName_local I.ok.kind hk hn hm fin) hd
  · rcases hk with hk | hk
    · exact wpAny_Name (wpAny_loadName_cell I.ok.kind hk hc hcell fin) hd
    · exact wpAny_Name (wpAny_loadName_free I.ok.kind hk hc hcell fin hcd) hd
theorem pe_int {i j pos} : PE X (.Constant (.int i) j pos) (tC (.int i)) := fun _ _ _ H _ I h => wpAny_Constant_int ⟨.int i, H, I.tok _, ⟨_, rfl⟩, h⟩
theorem pe_bl {b j pos} : PE X (.Constant (.bool b) j pos) (tC (.bl b)) := fun _ _ _ H _ I h => Constant_bool ⟨.bl b, H, I, rfl, h⟩
theorem pe_str {x j pos} : PE X (.Constant (.str x) j pos) (tC (.str x)) := fun _ _ _ H _ I h => Calls.Constant_str ⟨.str x, H, I.tok _, ⟨_, rfl⟩, h⟩

/-- a global name of the def -/
def Gl (X : Cx) (x : Str) : Prop := X.env.kindOf x = some .globalImplicit
theorem ld_glob {E : Value → Shared → Prop} {pins : List (Addr × Obj)} {s : Shared} {σ : St} {H : Hp} {x : Str} {u : Value} {pos : Pos} {Q : Value → Shared → Prop} (I : Inv X pins σ H s) (hg : Gl X x) (hm : X.mg x = some u) (h : Q u s)
    (hd : (x == ("__debug__" : Str)) = false := by decide) : wpAny (model X.prog X.w) X.A (eval (.Name x pos) X.env) Q E s :=
  Calls.Name_function_global I.ok.kind hg (Calls.loadGlobal_global (by rw [I.ok.glob]; exact I.mod.glob.keeps I.bk) hm h) hd
theorem ld_blt {E : Value → Shared → Prop} {pins : List (Addr × Obj)} {s : Shared} {σ : St} {H : Hp} {x : Str} {u : Value} {pos : Pos} {Q : Value → Shared → Prop} (I : Inv X pins σ H s) (hg : Gl X x) (hm : X.mg x = none) (hv : bootBuiltins x = some u) (h : Q u s)
    (hn : x ≠ "__name__" := by decide) (hd : (x == ("__debug__" : Str)) = false := by decide) : wpAny (model X.prog X.w) X.A (eval (.Name x pos) X.env) Q E s := by
  obtain ⟨mb, h1, h2⟩ := I.mod.blt
  exact Calls.Name_function_global I.ok.kind hg (Calls.loadGlobal_builtin (by rw [I.ok.glob]; exact I.mod.glob.keeps I.bk) hm (by rw [I.ok.blt]; exact h1.keeps I.bk) ((h2 x hn).trans hv) h) hd
/-- a module's constant, a class, a function, as a value -/
theorem pe_glob {x : Str} {v : V} {u : Value} {pos : Pos} (hg : Gl X x) (hm : X.mg x = some u) (r : RelV v u) (hd : (x == ("__debug__" : Str)) = false := by decide) : PE X (.Name x pos) (tC v) :=
  fun _ _ _ H _ I h => ld_glob I hg hm ⟨v, H, I, r, h⟩ hd
theorem pe_bltn {x : Str} {v : V} {u : Value} {pos : Pos} (hg : Gl X x) (hm : X.mg x = none) (hv : bootBuiltins x = some u) (r : RelV v u) (hn : x ≠ "__name__" := by decide) (hd : (x == ("__debug__" : Str)) = false := by decide) : PE X (.Name x pos) (tC v) :=
  fun _ _ _ H _ I h => ld_blt I hg hm hv ⟨v, H, I, r, h⟩ hn hd

/-! ### arithmetic -/
variable {a b : Expr} {ta tb : TE} {pos : Pos}
/-! ### comparisons -/
def PC (X : Cx) (op : CmpOp) (a b : Expr) (t : TE) : Prop :=
  ∀ (pins : List (Addr × Obj)) (s : Shared) (σ : St) (H : Hp) (Q : VK), Inv X pins σ H s → t σ H Q →
    wpAny (model X.prog X.w) X.A (eval a X.env) (fun v s₁ => wpAny (model X.prog X.w) X.A (eval b X.env) (fun u s₂ => wpAny (model X.prog X.w) X.A (compareOp op v u) (EP X pins σ Q) X.xe s₂) X.xe s₁) X.xe s
/-- a comparison as a value, as a test -/
def tB (t : TE) : TT := fun σ H Q => t σ H fun x H1 => ∃ c, x = .bl c ∧ Q c H1
theorem pt_cmp {op : CmpOp} {t : TE} (h : PC X op a b t) (h1 : behindInMarks op b = false := by first | exact nobehind _ (by decide) (by decide) | rfl) : PT X (.Compare a [op] [b] pos) (tB t) := by
  intro pins s σ H Q I hw
  refine wpAny_isTrue_Compare1 (thn (h pins s σ H _ I hw) fun v s1 h1 => thn h1 fun u s2 h2 => thn h2 fun c s3 ⟨x, H1, I1, r1, q1⟩ => ?_) h1
  obtain ⟨d, rfl, q⟩ := q1
  cases r1
  exact wpAny_truthy_bool ⟨H1, I1, q⟩
/-- an expression whose value is a bool, as a test -/
theorem pt_val {e : Expr} {t : TE} (h : PE X e t) (he : ∀ whole, isTrue e X.env whole = (do let v ← whole; standAt e.pos; holding [v] (truthy v)) := by intro _; rfl) : PT X e (tB t) := by
  intro pins s σ H Q I hw
  refine isTrue_plain (thn (h pins s σ H _ I hw) fun v s1 ⟨x, H1, I1, r1, q1⟩ => ?_) (he _)
  obtain ⟨d, rfl, q⟩ := q1
  cases r1
  exact wpAny_truthy_bool ⟨H1, I1, q⟩

/-! ### and, or, not -/
variable {tA tB' : TT} {rest : List Expr}
def tOr (t u : TT) : TT := fun σ H Q => t σ H fun c H1 => if c = true then Q true H1 else u σ H1 Q
def tNot (t : TT) : TT := fun σ H Q => t σ H fun c H1 => Q (!c) H1
theorem pw_or1 (ha : PT X a tA) : PW X (.BoolOp .Or [a] pos) tA := by
  intro wh pins s σ H Q I h
  refine isTrue_or (thn (ha pins s σ H Q I h) fun c s1 e => ?_)
  cases c with
  | false => exact isTrue_or_nil e
  | true => exact e
theorem pw_or (ha : PT X a tA) (hb : PW X (.BoolOp .Or (b :: rest) pos) tB') : PW X (.BoolOp .Or (a :: b :: rest) pos) (tOr tA tB') := by
  intro wh pins s σ H Q I h
  refine isTrue_or (thn (ha pins s σ H _ I h) fun c s1 ⟨H1, I1, q1⟩ => ?_)
  cases c with
  | true => exact ⟨H1, I1, q1⟩
  | false => exact hb wh pins s1 σ H1 Q I1 q1
theorem pt_not (ha : PT X a tA) : PT X (.UnaryOp .Not a pos) (tNot tA) := by
  intro pins s σ H Q I h
  exact isTrue_not (ha pins s σ H (fun c H1 => Q (!c) H1) I h)
/-- .. as values (bools) -/
def tAndV (ta tb : TE) : TE := fun σ H Q => ta σ H fun x H1 => ∃ c, x = .bl c ∧ if c = true then tb σ H1 Q else Q (.bl false) H1
def tNotV (ta : TE) : TE := fun σ H Q => ta σ H fun x H1 => ∃ c, x = .bl c ∧ Q (.bl (!c)) H1
theorem pe_one {op} {t : TE} (h : PE X a t) : PE X (.BoolOp op [a] pos) t := fun pins s σ H Q I hw => BoolOp_one (h pins s σ H Q I hw)
theorem pe_and (ha : PE X a ta) (hb : PE X (.BoolOp .And (b :: rest) pos) tb) : PE X (.BoolOp .And (a :: b :: rest) pos) (tAndV ta tb) := by
  intro pins s σ H Q I h
  refine BoolOp_and (thn (ha pins s σ H _ I h) fun v s1 ⟨x, H1, I1, r1, q1⟩ => ?_)
  obtain ⟨c, rfl, q1⟩ := q1
  cases r1
  refine wpAny_truthy_bool ?_
  cases c with
  | true => exact hb pins s1 σ H1 Q I1 q1
  | false => exact ⟨.bl false, H1, I1, rfl, q1⟩
theorem pe_not (ha : PE X a ta) : PE X (.UnaryOp .Not a pos) (tNotV ta) := by
  intro pins s σ H Q I h
  refine UnaryOp_ (thn (ha pins s σ H _ I h) fun v s1 ⟨x, H1, I1, r1, q1⟩ => ?_)
  obtain ⟨c, rfl, q1⟩ := q1
  cases r1
  exact not_of (wpAny_truthy_bool ⟨.bl (!c), H1, I1, rfl, q1⟩)
end
end L2

namespace L2
open PySem PySem.Spec PyProof.Rows

/-! ### a list, a tuple that is read: tracked, frozen, or an object of the module -/
def SqL (K : PySem.W.Frag) (H : Hp) (a : Addr) (xs : List V) : Prop :=
  Rd H a (.lst xs) ∨
    ∃ (o : Obj) (its : Array Value) (n : Nat), K.lookup a = some o ∧ o.cls = .type "list" ∧ o.dict = none ∧ o.data = .seq its n ∧ its.size ≤ sizeLine ∧ Vals xs its.toList
def SqT (K : PySem.W.Frag) (H : Hp) (a : Addr) (xs : List V) : Prop :=
  Rd H a (.tup xs) ∨
    ∃ (o : Obj) (its : Array Value) (n : Nat), K.lookup a = some o ∧ o.cls = .type "tuple" ∧ o.data = .seq its n ∧ its.size ≤ sizeLine ∧ Vals xs its.toList
def absV : Value → Option V
  | .none => some .non
  | .bool b => some (.bl b)
  | .int i _ => some (.int i)
  | .str x _ => some (.str x)
  | .bytes b _ => some (.byt b)
  | .float b _ => some (.flt b)
  | .ref a => some (.ref a)
  | .type n => some (.ty n)
  | _ => none
theorem RelV.abs {x : V} {u : Value} (r : RelV x u) : absV u = some x := by
  cases x with
  | non => cases r; rfl
  | bl _ => cases r; rfl
  | int _ => obtain ⟨t, rfl⟩ := r; rfl
  | str _ => obtain ⟨t, rfl⟩ := r; rfl
  | byt _ => obtain ⟨t, rfl⟩ := r; rfl
  | flt _ => obtain ⟨t, rfl⟩ := r; rfl
  | ref _ => cases r; rfl
  | ty _ => cases r; rfl
theorem RelV.inj {x y : V} {u : Value} (r : RelV x u) (q : RelV y u) : x = y := Option.some.inj (r.abs.symm.trans q.abs)
theorem Vals.inj : ∀ {xs ys : List V} {us : List Value}, Vals xs us → Vals ys us → xs = ys
  | _, _, _, .nil, .nil => rfl
  | _, _, _, .cons r t, .cons r' t' => by rw [r.inj r', Vals.inj t t']
section
variable {X : Cx} {pins : List (Addr × Obj)} {σ : St} {H : Hp} {s : Shared} {a : Addr} {xs ys : List V}
theorem SqL.of {K : PySem.W.Frag} (h : H a = some (.lst xs)) : SqL K H a xs := .inl (.inl h)
theorem SqT.of {K : PySem.W.Frag} (h : H a = some (.tup xs)) : SqT K H a xs := .inl (.inl h)
theorem Inv.list (I : Inv X pins σ H s) (h : SqL X.K H a xs) : ∃ its : List Value, Vals xs its ∧ PlainL s.heap a its.toArray ∧ xs.length ≤ sizeLine := by
  rcases h with h | ⟨o, its, n, hk, hc, hd, hs, hz, r⟩
  · obtain ⟨z, its, n, r, e⟩ := h.ok I.hok
    exact ⟨its, r, ⟨_, n, e, rfl, rfl, rfl⟩, z⟩
  · refine ⟨its.toList, r, ⟨o, n, I.kIn a o hk, hc, hd, by simpa using hs⟩, ?_⟩
    have e := r.length
    simp only [Array.length_toList] at e
    omega
theorem Inv.tuple (I : Inv X pins σ H s) (h : SqT X.K H a xs) : ∃ its : List Value, Vals xs its ∧ IsTup s.heap a its.toArray ∧ xs.length ≤ sizeLine := by
  rcases h with h | ⟨o, its, n, hk, hc, hs, hz, r⟩
  · obtain ⟨z, its, r, p⟩ := h.ok I.hok
    exact ⟨its, r, p, z⟩
  · refine ⟨its.toList, r, ⟨o, I.kIn a o hk, hc, n, by simpa using hs⟩, ?_⟩
    have e := r.length
    simp only [Array.length_toList] at e
    omega
theorem Inv.list_inj (I : Inv X pins σ H s) (h : SqL X.K H a xs) (h' : SqL X.K H a ys) : xs = ys := by
  obtain ⟨its, r, ⟨o, n, e, _, _, d⟩, _⟩ := I.list h
  obtain ⟨its', r', ⟨o', n', e', _, _, d'⟩, _⟩ := I.list h'
  rw [e] at e'; cases e'
  rw [d] at d'
  injection d' with d1 _
  have : its = its' := by simpa using congrArg Array.toList d1
  subst this
  exact r.inj r'
theorem Inv.tuple_inj (I : Inv X pins σ H s) (h : SqT X.K H a xs) (h' : SqT X.K H a ys) : xs = ys := by
  obtain ⟨its, r, ⟨o, e, _, n, d⟩, _⟩ := I.tuple h
  obtain ⟨its', r', ⟨o', e', _, n', d'⟩, _⟩ := I.tuple h'
  rw [e] at e'; cases e'
  rw [d] at d'
  injection d' with d1 _
  have : its = its' := by simpa using congrArg Array.toList d1
  subst this
  exact r.inj r'
end

/-! ### another wish about exceptions -/
abbrev Cx.wish (X : Cx) (E : Value → Shared → Prop) : Cx := { X with xe := E }
/-- no exception leaves -/
abbrev Cx.nox (X : Cx) : Cx := X.wish fun _ _ => False
theorem Cx.Ok.wish {X : Cx} (ok : X.Ok) (E : Value → Shared → Prop) : (X.wish E).Ok :=
  ⟨ok.mod, ok.kind, ok.glob, ok.blt, ok.above, ok.inj, ok.has, ok.cab, ok.hd, ok.frames, ok.stk, ok.exf, ok.bs, ok.bsz, ok.noex, ok.exfs, ok.funs, ok.frf⟩
theorem Cx.Ok.unwish {X : Cx} {E : Value → Shared → Prop} (ok : (X.wish E).Ok) : X.Ok :=
  ⟨ok.mod, ok.kind, ok.glob, ok.blt, ok.above, ok.inj, ok.has, ok.cab, ok.hd, ok.frames, ok.stk, ok.exf, ok.bs, ok.bsz, ok.noex, ok.exfs, ok.funs, ok.frf⟩
section
variable {X : Cx} {pins : List (Addr × Obj)} {σ : St} {H : Hp} {s : Shared} {E : Value → Shared → Prop}
theorem Inv.wish (I : Inv X pins σ H s) (E : Value → Shared → Prop) : Inv (X.wish E) pins σ H s := ⟨I.ok.wish E, I.os, I.bare, I.base, I.loc, I.cell, I.free, I.freeC, I.pin, I.hok, I.len⟩
theorem Inv.unwish (I : Inv (X.wish E) pins σ H s) : Inv X pins σ H s := ⟨I.ok.unwish, I.os, I.bare, I.base, I.loc, I.cell, I.free, I.freeC, I.pin, I.hok, I.len⟩
theorem SP.unwish {D : Ends} {f : Flow} {s' : Shared} (h : SP (X.wish E) pins D f s') : SP X pins D f s' := by
  cases f with
  | next => obtain ⟨σ', H', I, q⟩ := h; exact ⟨σ', H', I.unwish, q⟩
  | brk => obtain ⟨σ', H', I, q⟩ := h; exact ⟨σ', H', I.unwish, q⟩
  | cont => obtain ⟨σ', H', I, q⟩ := h; exact ⟨σ', H', I.unwish, q⟩
  | ret u => obtain ⟨v, σ', H', I, r, q⟩ := h; exact ⟨v, σ', H', I.unwish, r, q⟩
theorem PSs.nox {st : List Stmt} {t : TS} (h : PSs X.nox st t) : PSs X st t := fun pins s σ H D I hw =>
  wpAny_mono (h pins s σ H D (I.wish _) hw) (fun _ _ q => q.unwish) fun _ _ z => False.elim z
end

/-! ### blocks and small statements -/
section
variable {X : Cx} {st : Stmt} {rest : List Stmt} {t u : TS} {e : Expr} {te : TE} {pos : Pos}
def tNext : TS := fun D σ H => D.nx σ H
def tSeq (t u : TS) : TS := fun D σ H => t { D with nx := u D } σ H
theorem pss_nil : PSs X [] tNext := fun _ _ σ H _ I h => wpAny_execs_nil ⟨σ, H, I, h⟩
theorem pss_cons (h1 : PS X st t) (h2 : PSs X rest u) : PSs X (st :: rest) (tSeq t u) := by
  intro pins s σ H D I h
  refine wpAny_execs_cons (thn (h1 pins s σ H { D with nx := u D } I h) fun f s1 q => ?_)
  cases f with
  | next =>
    obtain ⟨σ', H', I', q⟩ := q
    exact h2 pins s1 σ' H' D I' q
  | ret v => exact q
  | brk => exact q
  | cont => exact q
theorem pss_one (h1 : PS X st t) : PSs X [st] t := by
  intro pins s σ H D I h
  refine wpAny_execs_cons (thn (h1 pins s σ H D I h) fun f s1 q => ?_)
  cases f with
  | next => exact wpAny_execs_nil q
  | ret v => exact q
  | brk => exact q
  | cont => exact q
/-- in a def's body nothing is shown -/
theorem Inv.quiet {pins : List (Addr × Obj)} {σ : St} {H : Hp} {s : Shared} (I : Inv X pins σ H s) : interactive X.env = false := by simp [interactive, I.ok.kind]
/-- an expression whose value is dropped -/
def tDrop (te : TE) : TS := fun D σ H => te σ H fun _ H1 => D.nx σ H1
theorem ps_expr (he : PE X e te) (hs : swapsWith e none pos.line X.env = pure false := by rfl) : PS X (.Expr e pos) (tDrop te) := by
  intro pins s σ H D I h
  exact wpAny_Expr_any (thn (he pins s σ H _ I h) fun v s1 ⟨x, H1, I1, r1, q1⟩ => ⟨σ, H1, I1, q1⟩) I.quiet hs
def tRet (te : TE) : TS := fun D σ H => te σ H D.rt
theorem ps_ret (he : PE X e te) : PS X (.Return (some e) pos) (tRet te) := by
  intro pins s σ H D I h
  exact wpAny_Return_some (thn (he pins s σ H _ I h) fun v s1 ⟨x, H1, I1, r1, q1⟩ => ⟨x, σ, H1, I1, r1, q1⟩)
def tIfS (c : TT) (t u : TS) : TS := fun D σ H => c σ H fun b H1 => if b = true then t D σ H1 else u D σ H1
theorem ps_if {c : Expr} {a b : List Stmt} {tc : TT} (hc : PT X c tc) (ha : PSs X a t) (hb : PSs X b u) : PS X (.If c a b pos) (tIfS tc t u) := by
  intro pins s σ H D I h
  refine wpAny_If (thn (hc pins s σ H _ I h) fun d s1 ⟨H1, I1, q1⟩ => ?_)
  cases d with
  | true => exact ha pins s1 σ H1 D I1 q1
  | false => exact hb pins s1 σ H1 D I1 q1
end

/-! ### targets -/
abbrev TG := V → St → Hp → (St → Hp → Prop) → Prop
def PG (X : Cx) (target : Expr) (t : TG) : Prop :=
  ∀ (pins : List (Addr × Obj)) (s : Shared) (σ : St) (H : Hp) (v : V) (u : Value) (Q : St → Hp → Prop), Inv X pins σ H s → RelV v u → t v σ H Q →
    wpAny (model X.prog X.w) X.A (assign target X.env u) (fun _ s' => ∃ σ' H', Inv X pins σ' H' s' ∧ Q σ' H') X.xe s
/-- o[i] = v, by values -/
abbrev TSet := V → V → V → Hp → (Hp → Prop) → Prop
def PSet (X : Cx) (t : TSet) : Prop :=
  ∀ (pins : List (Addr × Obj)) (s : Shared) (σ : St) (H : Hp) (o i v : V) (ov iv u : Value) (Q : Hp → Prop), Inv X pins σ H s → RelV o ov → RelV i iv → RelV v u → t o i v H Q →
    wpAny (model X.prog X.w) X.A (setItem ov iv u) (fun _ s' => ∃ H', Inv X pins σ H' s' ∧ Q H') X.xe s
section
variable {X : Cx} {pos : Pos}
def gName (i : Nat) : TG := fun v σ H Q => Q (σ.set i (some v)) H
theorem pg_name {i : Nat} {x : Str} (hN : X.N.Nodup) (hi : X.N[i]? = some x) (hx : Loc X.env.scope x) (hf : X.fn x = true ∨ X.env.scope.names.lookup x = some .local := by first | exact .inl rfl | exact .inr rfl | assumption) : PG X (.Name x pos) (gName i) := by
  intro pins s σ H v u Q I r h
  exact wpAny_assign_Name (store_ok I hN hi hx r (fun s' I' => ⟨_, H, I', h⟩) hf)
/-- o[i] = .. -/
def gSub (to ti : TE) (t : TSet) : TG := fun v σ H Q => to σ H fun o H1 => ti σ H1 fun i H2 => t o i v H2 fun H3 => Q σ H3
theorem pg_sub {o i : Expr} {to ti : TE} {t : TSet} (ho : PE X o to) (hi : PE X i ti) (hs : PSet X t)
    (ha : ∀ v, assign (.Subscript o i pos) X.env v = (do
      let ov ← holding [v] (eval o X.env)
      let iv ← holding [v, ov] (eval i X.env)
      standAt pos
      holding [v, ov, iv] (setItem ov iv v)
      release [v, ov, iv] []) := by intro _; rfl) : PG X (.Subscript o i pos) (gSub to ti t) := by
  intro pins s σ H v u Q I r h
  rw [ha]
  refine wpAny_bind (wpAny_holding (thn (ho pins s σ H _ I h) fun ov s1 ⟨x, H1, I1, r1, q1⟩ => ?_))
  refine wpAny_bind (wpAny_holding (thn (hi pins s1 σ H1 _ I1 q1) fun iv s2 ⟨y, H2, I2, r2, q2⟩ => ?_))
  refine wpAny_bind (wpAny_standAt (wpAny_bind (wpAny_holding (thn (hs pins s2 σ H2 x y v ov iv u _ I2 r1 r2 r q2) fun _ s3 ⟨H3, I3, q3⟩ => ?_))))
  exact wpAny_release ⟨σ, H3, I3, q3⟩
/-- target = value -/
def tAsg (te : TE) (g : TG) : TS := fun D σ H => te σ H fun x H1 => g x σ H1 D.nx
theorem ps_asg {tg e : Expr} {te : TE} {g : TG} (he : PE X e te) (hg : PG X tg g) (hs : swapsWithSole [tg] e pos.line X.env = pure false := by rfl) (hw : swappedStores [tg] e X.env = pure none := by rfl)
    (h1 : (assignEach [tg] X.env).map (·.2) = [assign tg X.env] := by rfl) : PS X (.Assign [tg] e pos) (tAsg te g) := by
  intro pins s σ H D I h
  refine wpAny_Assign_stores (thn (he pins s σ H _ I h) fun v s1 ⟨x, H1, I1, r1, q1⟩ => ?_) hs hw
  rw [h1]
  exact thn (hg pins s1 σ H1 x v _ I1 r1 q1) fun _ s2 q => q
/-- name = value -/
theorem ps_set {i : Nat} {x : Str} {e : Expr} {te : TE} {pos' : Pos} (hN : X.N.Nodup) (hi : X.N[i]? = some x) (hx : Loc X.env.scope x) (he : PE X e te) (hs : swapsWith e (some (.Name x pos')) pos.line X.env = pure false := by rfl) (hf : X.fn x = true ∨ X.env.scope.names.lookup x = some .local := by first | exact .inl rfl | exact .inr rfl | assumption) :
    PS X (.Assign [.Name x pos'] e pos) (tAsg te (gName i)) := by
  intro pins s σ H D I h
  refine wpAny_Assign_Name (thn (he pins s σ H _ I h) fun v s1 ⟨y, H1, I1, r1, q1⟩ => ?_) hs
  exact store_ok I1 hN hi hx r1 (fun s2 I2 => ⟨_, H1, I2, q1⟩) hf
end

/-! ### while -/
section
variable {X : Cx} {pos : Pos}
end

/-! ### what a loop or a comprehension walks -/
/-- at turn i: it yields x (the heap may grow), or it stops -/
structure It where
  go : Nat → Hp → Prop
  yld : Nat → Hp → V → Hp → Prop
  stop : Nat → Hp → Prop
/-- the iterator's own objects may turn: they are not the frame's, not pinned, younger than the entry (or a comprehension's own) -/
def FpOk (X : Cx) (pins : List (Addr × Obj)) (H : Hp) (b : Addr) : Prop :=
  H b = none ∧ b ≠ X.env.locals ∧ b ∉ X.fs ∧ (b ∈ X.ex ∨ X.s₀.heap.objs.size ≤ b) ∧ (∀ x c, X.env.cells.lookup x = some c → c ≠ b) ∧ ∀ p ∈ X.pn ++ pins, p.1 ≠ b
theorem Inv.fpOk {X : Cx} {pins : List (Addr × Obj)} {σ : St} {H H' : Hp} {s : Shared} {b : Addr} (I : Inv X pins σ H s) (hb : s.heap.objs.size ≤ b) (hn : H' b = none) : FpOk X pins H' b := by
  refine ⟨hn, Nat.ne_of_gt (Nat.lt_of_lt_of_le I.lt hb), I.nofs hb, .inr (Nat.le_trans I.sz hb), fun x c e z => ?_, fun p hp z => ?_⟩
  · obtain ⟨v, q⟩ := I.cell x c e
    exact absurd (Nat.lt_of_lt_of_le q.lt (by rw [z]; exact hb)) (Nat.lt_irrefl _)
  · exact absurd (Nat.lt_of_lt_of_le (Heap.lt_size (I.pin p hp).1) (by rw [z]; exact hb)) (Nat.lt_irrefl _)
structure Turn (P : Program) (w : World) (K : PySem.W.Frag) (tg : Expr) (J : It) (fp : List Addr) (it : Addr) (tn : Nat → Heap → Prop) : Prop where
  mem : it ∈ fp
  obj : ∀ i h, tn i h → ∀ b ∈ fp, ∃ o, h.get? b = some o ∧ ∀ v, o.data ≠ .cell v
  keep : ∀ i h h', tn i h → (∀ b ∈ fp, ∀ o, h.get? b = some o → h'.get? b = some o) → tn i h'
  item : ∀ (X : Cx), X.prog = P → X.w = w → X.K = K → X.calm = true → ∀ (i : Nat) (pins : List (Addr × Obj)) (s : Shared) (σ : St) (H : Hp) (E : Value → Shared → Prop), Inv X pins σ H s → (∀ b ∈ fp, FpOk X pins H b) → tn i s.heap → J.go i H →
    wpAny (model P w) X.A (pyNext (.ref it)) (fun r s1 => ∃ u, r = some u ∧
      wpAny (model P w) X.A (letOwnedTupleGo tg (.ref it) u) (fun _ s2 => ∃ x H', Inv X pins σ H' s2 ∧ RelV x u ∧ J.yld i H x H' ∧ tn (i + 1) s2.heap ∧ ∀ b ∈ fp, H' b = none) E s1) E s
  done : ∀ (X : Cx), X.prog = P → X.w = w → X.K = K → X.calm = true → ∀ (i : Nat) (pins : List (Addr × Obj)) (s : Shared) (σ : St) (H : Hp) (E : Value → Shared → Prop), Inv X pins σ H s → (∀ b ∈ fp, FpOk X pins H b) → tn i s.heap → J.stop i H →
    wpAny (model P w) X.A (pyNext (.ref it)) (fun r s1 => r = none ∧ Inv X pins σ H s1) E s
  self : ∀ (A : Around) (i : Nat) (s : Shared) (Q : Value → Shared → Prop) (E : Value → Shared → Prop), tn i s.heap → Q (.ref it) s → wpAny (model P w) A (pyIter (.ref it)) Q E s
abbrev TI := St → Hp → (It → Hp → Prop) → Prop
/-- an iterator has come -/
def PIE (X : Cx) (pins : List (Addr × Obj)) (σ : St) (tg : Expr) (R : It → Hp → Prop) (itv : Value) (s2 : Shared) : Prop :=
  ∃ (it : Addr) (fp : List Addr) (tn : Nat → Heap → Prop) (J : It) (H' : Hp), itv = .ref it ∧ Inv X pins σ H' s2 ∧ Turn X.prog X.w X.K tg J fp it tn ∧ tn 0 s2.heap ∧ (∀ b ∈ fp, FpOk X pins H' b) ∧ R J H'
def PI (X : Cx) (tg iter : Expr) (wi : TI) : Prop :=
  ∀ (pins : List (Addr × Obj)) (s : Shared) (σ : St) (H : Hp) (R : It → Hp → Prop), Inv X pins σ H s → wi σ H R →
    wpAny (model X.prog X.w) X.A (eval iter X.env) (fun v s1 => wpAny (model X.prog X.w) X.A (pyIter v) (PIE X pins σ tg R) X.xe s1) X.xe s

/-- the step ahead of the store is nothing for an iterator that keeps no tuple -/
theorem go_of {M : Model} {A : Around} {E : Value → Shared → Prop} {s : Shared} {tg : Expr} {it : Addr} {u : Value} {o : Obj} {n : String} {vs : Array Value} {Q : Unit → Shared → Prop} (ho : s.heap.get? it = some o) (hc : o.cls = .type n) (hd : o.data = .fields vs)
    (hn : ["enumerate", "zip", "dict_itemiterator", "dict_reverseitemiterator", "odict_iterator", "itertools.zip_longest", "itertools.pairwise"].contains n = false) (hQ : Q () s) : wpAny M A (letOwnedTupleGo tg (.ref it) u) Q E s := by
  unfold letOwnedTupleGo
  cases tg <;> first
    | exact wpAny_pure hQ
    | (cases u <;> first
        | exact wpAny_pure hQ
        | (refine wpAny_bind (wpAny_load ho ?_)
           rw [hc, hd]
           show wpAny M A (if (["enumerate", "zip", "dict_itemiterator", "dict_reverseitemiterator", "odict_iterator", "itertools.zip_longest", "itertools.pairwise"].contains n && vs[0]? == some (rawInt _)) = true then _ else _) Q E s
           rw [if_neg (by intro h; rw [hn, Bool.false_and] at h; cases h)]
           exact wpAny_pure hQ))

/-- the list at a, as it stands at each turn (a loop may append to it) -/
def Itl (K : PySem.W.Frag) (a : Addr) : It :=
  ⟨fun i H => ∃ xs x, SqL K H a xs ∧ xs[i]? = some x, fun i H x H' => H' = H ∧ ∀ xs, SqL K H a xs → xs[i]? = some x, fun i H => ∃ xs, SqL K H a xs ∧ xs.length ≤ i⟩
/-- lo, lo + 1, .. (n of them) -/
def Itr (lo : Int) (n : Nat) : It := ⟨fun i _ => i < n, fun i H x H' => H' = H ∧ x = .int (lo + i), fun i _ => n ≤ i⟩
theorem turn_list {P : Program} {w : World} {K : PySem.W.Frag} {tg : Expr} (a it : Addr) : Turn P w K tg (Itl K a) [it] it (fun i h => h.IsListIter it a i) where
  mem := by simp
  obj := fun i h st b hb => by
    have e : b = it := by simpa using hb
    subst e
    obtain ⟨o, e, c, d⟩ := st
    exact ⟨o, e, fun v z => by rw [d] at z; cases z⟩
  keep := fun i h h' st k => st.at fun o e => k it (by simp) o e
  item := by
    intro X hP hw hK hc i pins s σ H E I hf st hg
    subst hP hw hK
    obtain ⟨xs, x, hq, hx⟩ := hg
    obtain ⟨its, rv, p, hz⟩ := I.list hq
    obtain ⟨u, hu, ru⟩ := rv.get hx
    obtain ⟨f0, f1, f2, f3, f4, f5⟩ := hf it (by simp)
    refine wpAny_pyNext_list_item st p.isList (x := u) (by simpa using hu) fun h' st' sb => ?_
    have I1 : Inv X pins σ H { s with heap := h' } := I.turned (t' := s.toks) (fun b o hb e => (sb.2 b hb).trans e) f0 f1 f3 f4 f5
    obtain ⟨o, e, c, d⟩ := id st'
    exact ⟨u, rfl, go_of (s := { s with heap := h' }) e c d (by decide) ⟨x, H, I1, ru, ⟨rfl, fun ys hy => by rw [I.list_inj hy hq]; exact hx⟩, st', fun b hb => (hf b hb).1⟩⟩
  done := by
    intro X hP hw hK hc i pins s σ H E I hf st hg
    subst hP hw hK
    obtain ⟨xs, hq, hx⟩ := hg
    obtain ⟨its, rv, p, hz⟩ := I.list hq
    obtain ⟨f0, f1, f2, f3, f4, f5⟩ := hf it (by simp)
    have hl := rv.length
    exact wpAny_pyNext_list_end (I.ok.hd hc) st p.isList (by simp; omega) fun h' eb => ⟨rfl, I.turned (t' := s.toks) (fun b o hb e => eb b o hb e) f0 f1 f3 f4 f5⟩
  self := fun _ _ _ _ _ st h => wpAny_pyIter_listiter st h
theorem turn_range {P : Program} {w : World} {K : PySem.W.Frag} {tg : Expr} (it : Addr) (lo : Int) (n : Nat) : Turn P w K tg (Itr lo n) [it] it (fun i h => IsRangeIter h it (lo + (i : Nat) * 1) ((n : Int) - (i : Nat)) 1) where
  mem := by simp
  obj := fun i h st b hb => by
    have e : b = it := by simpa using hb
    subst e
    exact ⟨_, st, fun v z => by
      have z' : Data.fields _ = Data.cell v := z
      cases z'⟩
  keep := fun i h h' st k => k it (by simp) _ st
  item := by
    intro X hP hw hK hc i pins s σ H E I hf st hg
    subst hP hw hK
    obtain ⟨f0, f1, f2, f3, f4, f5⟩ := hf it (by simp)
    have W := Walks.range (prog := X.prog) (w := X.w) (I.ok.hd hc) it lo 1 n
    refine W.item i s _ _ hg st fun v h' tk hv st' kk => ?_
    obtain ⟨t, rfl⟩ := hv
    have I1 : Inv X pins σ H { s with heap := h', toks := tk } := I.turned (fun b o hb e => kk b o (by simpa using hb) e) f0 f1 f3 f4 f5
    refine ⟨_, rfl, go_of (s := { s with heap := h', toks := tk }) (n := "range_iterator") st' rfl rfl (by decide) ⟨.int (lo + i), H, I1, ⟨t, ?_⟩, ⟨rfl, rfl⟩, st', fun b hb => (hf b hb).1⟩⟩
    rw [Int.mul_one]
  done := by
    intro X hP hw hK hc i pins s σ H E I hf st hg
    subst hP hw hK
    obtain ⟨f0, f1, f2, f3, f4, f5⟩ := hf it (by simp)
    exact wpAny_pyNext_range_end (I.ok.hd hc) st (by have : n ≤ i := hg; omega) fun h' eb => ⟨rfl, I.turned (t' := s.toks) (fun b o hb e => eb b o hb e) f0 f1 f3 f4 f5⟩
  self := fun _ _ _ _ _ st h => wpAny_pyIter_rangeiter st h
end L2

namespace L2
open PySem PySem.Spec PyProof.Rows
section
variable {X : Cx} {tg : Expr}
def iList (K : PySem.W.Frag) (tl : TE) : TI := fun σ H R => tl σ H fun x H1 => ∃ a, x = .ref a ∧ (∃ xs, SqL K H1 a xs) ∧ R (Itl K a) H1
theorem pi_list {l : Expr} {tl : TE} (hl : PE X l tl) : PI X tg l (iList X.K tl) := by
  intro pins s σ H R I h
  refine thn (hl pins s σ H _ I h) fun v s1 ⟨x, H1, I1, r1, q1⟩ => ?_
  obtain ⟨a, e, ⟨xs, hq⟩, q⟩ := q1
  subst e
  cases r1
  obtain ⟨its, rv, p, hz⟩ := I1.list hq
  refine wpAny_pyIter_list p.isList ?_
  refine ⟨s1.heap.objs.size, [s1.heap.objs.size], _, _, H1, rfl, I1.kept (t' := s1.toks) fun b o e => Heap.get?_push_of_some _ e, turn_list a _, ⟨_, Heap.get?_push_size _ rfl, rfl, rfl⟩, fun b hb => ?_, q⟩
  have e : b = s1.heap.objs.size := by simpa using hb
  subst e
  exact I1.fpOk (Nat.le_refl _) (I1.hok.fresh (Nat.le_refl _))
/-- a range object just made, walked -/
theorem range_it {pins : List (Addr × Obj)} {σ : St} {H : Hp} {s : Shared} {R : It → Hp → Prop} {E : Value → Shared → Prop} {lo hi : Int} {t u v : Tok} {tk : Nat} (I : Inv X pins σ H s) (h1 : -(2 ^ 62) ≤ lo) (h2 : lo < 2 ^ 62) (h3 : -(2 ^ 62) ≤ hi) (h4 : hi < 2 ^ 62)
    (q : R (Itr lo (hi - lo).toNat) H) : wpAny (model X.prog X.w) X.A (pyIter (.ref s.heap.objs.size)) (PIE X pins σ tg R) E { s with heap := s.heap.push { cls := .type "range", data := .fields #[.int lo t, .int hi u, .int 1 v] }, toks := tk } := by
  refine wpAny_pyIter_range (IsRange.new ..) (small_one h1 h2 h3 h4) ?_
  have I1 : Inv X pins σ H { s with heap := s.heap.push { cls := .type "range", data := .fields #[.int lo t, .int hi u, .int 1 v] }, toks := tk } := I.kept fun b o e => Heap.get?_push_of_some _ e
  refine ⟨(s.heap.push { cls := .type "range", data := .fields #[.int lo t, .int hi u, .int 1 v] }).objs.size, [(s.heap.push { cls := .type "range", data := .fields #[.int lo t, .int hi u, .int 1 v] }).objs.size], _, _, H, rfl,
    I1.kept (t' := tk) fun b o e => Heap.get?_push_of_some _ e, turn_range _ lo (hi - lo).toNat, ?_, fun b hb => ?_, q⟩
  · have e1 : lo + ((0 : Nat) : Int) * 1 = lo := by simp
    have e2 : (((hi - lo).toNat : Nat) : Int) - ((0 : Nat) : Int) = Builtin.Range.rangeSize lo hi 1 := by rw [rangeSize_one]; split <;> omega
    show IsRangeIter _ _ (lo + ((0 : Nat) : Int) * 1) ((((hi - lo).toNat : Nat) : Int) - ((0 : Nat) : Int)) 1
    rw [e1, e2]
    exact Heap.get?_push_size _ rfl
  · have e : b = (s.heap.push { cls := .type "range", data := .fields #[.int lo t, .int hi u, .int 1 v] }).objs.size := by simpa using hb
    subst e
    exact I1.fpOk (Nat.le_refl _) (I1.hok.fresh (Nat.le_refl _))
def iRng1 (ta : TA) : TI := fun σ H R => ta σ H fun vs H1 => ∃ j : Int, vs = [.int j] ∧ -(2 ^ 62) ≤ j ∧ j < 2 ^ 62 ∧ R (Itr 0 j.toNat) H1
theorem pi_range1 {a : Expr} {ta : TA} {p pos : Pos} (hg : Gl X "range") (hm : X.mg "range" = none) (ha : PA X [a] ta) (hs : starEach [a] X.env = [(false, eval a X.env)] := by rfl) : PI X tg (.Call (.Name "range" p) [a] [] pos) (iRng1 ta) := by
  intro pins s σ H R I h
  refine Call_ (ld_blt I hg hm boot_range (PyProof.Rows.callWith_type1 (thn (ha pos pins s σ H _ I h) fun us s1 ⟨vs, H1, I1, r1, q1⟩ => ?_) hs rfl))
  obtain ⟨j, e, q1, q2, q⟩ := q1
  subst e
  cases r1 with
  | cons r rr =>
    cases rr
    obtain ⟨t, rfl⟩ := r
    exact call_range_1 (range_it I1 (by omega) (by omega) q1 q2 (by simpa using q))
/-! ### for -/
/-- W: the invariant by the turn and a measure; N: what the body is to reach -/
def tFor (wi : TI) (g : TG) (tb : TS) : TS := fun D σ H => wi σ H fun J H1 => ∃ W : Nat → Nat → St → Hp → Prop, (∃ m, W 0 m σ H1) ∧ ∀ i m σ H, W i m σ H →
  (J.stop i H ∧ D.nx σ H) ∨ (J.go i H ∧ ∃ N : St → Hp → Prop, (∀ σ' H', N σ' H' → ∃ m', m' < m ∧ W (i + 1) m' σ' H') ∧ ∀ x H', J.yld i H x H' → g x σ H' fun σ2 H2 => tb { D with nx := N, ct := N, bk := D.nx } σ2 H2)
/-- the records at fp as they stand -/
def pinsAt (fp : List Addr) (h : Heap) : List (Addr × Obj) := fp.filterMap fun b => (h.get? b).map fun o => (b, o)
theorem mem_pinsAt {fp : List Addr} {h : Heap} {b : Addr} {o : Obj} (hb : b ∈ fp) (e : h.get? b = some o) : (b, o) ∈ pinsAt fp h := List.mem_filterMap.mpr ⟨b, hb, by rw [e]; rfl⟩
theorem of_pinsAt {fp : List Addr} {h : Heap} {p : Addr × Obj} (hp : p ∈ pinsAt fp h) : p.1 ∈ fp ∧ h.get? p.1 = some p.2 := by
  obtain ⟨b, hb, e⟩ := List.mem_filterMap.mp hp
  cases q : h.get? b with
  | none => rw [q] at e; cases e
  | some o =>
    rw [q] at e
    have e' : (b, o) = p := Option.some.inj e
    subst e'
    exact ⟨hb, q⟩
theorem Inv.pinned {pins : List (Addr × Obj)} {σ : St} {H : Hp} {s : Shared} {fp : List Addr} (I : Inv X pins σ H s) (hf : ∀ b ∈ fp, FpOk X pins H b) (ho : ∀ b ∈ fp, ∃ o, s.heap.get? b = some o ∧ ∀ v, o.data ≠ .cell v) : Inv X (pins ++ pinsAt fp s.heap) σ H s :=
  I.pins_of fun p hp => (List.mem_append.mp hp).elim (fun z => I.pin p (List.mem_append_right _ z)) fun z => by
    obtain ⟨hb, e⟩ := of_pinsAt z
    obtain ⟨f0, f1, f2, _⟩ := hf p.1 hb
    obtain ⟨o, e', d⟩ := ho p.1 hb
    rw [e] at e'; cases e'
    exact ⟨e, f0, f1, f2, d⟩
theorem Inv.unpinned {pins pl : List (Addr × Obj)} {σ : St} {H : Hp} {s : Shared} (I : Inv X (pins ++ pl) σ H s) : Inv X pins σ H s := I.pins_of fun p hp => I.pin p (List.mem_append_right _ (List.mem_append_left _ hp))
theorem ps_for {iter : Expr} {body : List Stmt} {wi : TI} {g : TG} {tb : TS} {pos : Pos} (hp : PassesOwn (model X.prog X.w) X.A X.env X.xe) (hc : X.calm = true) (hi : PI X tg iter wi) (hg : PG X tg g) (hb : PSs X body tb)
    (hs : ∀ x, foldedSetIterable iter X.env x = pure x := by intro _; rfl) : PS X (.For tg iter body [] pos) (tFor wi g tb) := by
  intro pins s σ H D I h
  refine wpAny_For (thn (hi pins s σ H _ I h) fun v s1 h1 => thn h1 fun itv s2 h2 => ?_) hs
  obtain ⟨it, fp, tn, J, H2, e, I2, T, st2, f2, W, ⟨m0, w0⟩, turn⟩ := h2
  subst e
  -- what stays true of the iterator's objects through the loop
  have stat : ∀ {H' : Hp}, (∀ b ∈ fp, H' b = none) → ∀ b ∈ fp, FpOk X pins H' b := fun hn b hb => ⟨hn b hb, (f2 b hb).2⟩
  refine codeAny_forLoop_any (fun n s' => ∃ i σ' H', Inv X pins σ' H' s' ∧ tn i s'.heap ∧ (∀ b ∈ fp, H' b = none) ∧ W i n σ' H') ?_ m0 ⟨0, σ, H2, I2, st2, fun b hb => (f2 b hb).1, w0⟩
  rintro n s3 ⟨i, σ3, H3, I3, st3, fr3, w3⟩
  rcases turn i n σ3 H3 w3 with ⟨stop, qn⟩ | ⟨go, N, hN, step⟩
  · refine wpAny_passesOwn hp (thn (T.done X rfl rfl rfl hc i pins s3 σ3 H3 X.xe I3 (stat fr3) st3 stop) fun r s4 ⟨hr, I4⟩ => ?_)
    subst hr
    exact wpAny_execs_nil ⟨σ3, H3, I4, qn⟩
  · refine wpAny_passesOwn hp (thn (T.item X rfl rfl rfl hc i pins s3 σ3 H3 X.xe I3 (stat fr3) st3 go) fun r s4 ⟨u, hr, h4⟩ => ?_)
    subst hr
    refine wpAny_passesOwn hp (thn h4 fun _ s5 ⟨x, H5, I5, r5, y5, st5, fr5⟩ => ?_)
    have I5' := I5.pinned (stat fr5) (T.obj _ _ st5)
    refine wpAny_passesOwn hp (thn (hg _ s5 σ3 H5 x u _ I5' r5 (step x H5 y5)) fun _ s6 ⟨σ6, H6, I6, q6⟩ => ?_)
    refine wpAny_passesOwn hp (thn (hb _ s6 σ6 H6 _ I6 q6) fun f s7 q7 => ?_)
    have again : ∀ {σ7 : St} {H7 : Hp}, Inv X (pins ++ pinsAt fp s5.heap) σ7 H7 s7 → N σ7 H7 → ∃ m, m < n ∧ ∃ i σ' H', Inv X pins σ' H' s7 ∧ tn i s7.heap ∧ (∀ b ∈ fp, H' b = none) ∧ W i m σ' H' := fun {σ7 H7} I7 n7 => by
      obtain ⟨m', hm, w7⟩ := hN σ7 H7 n7
      refine ⟨m', hm, i + 1, σ7, H7, I7.unpinned, T.keep _ _ _ st5 fun b hb o e => (I7.pin (b, o) (List.mem_append_right _ (List.mem_append_right _ (mem_pinsAt hb e)))).1, fun b hb => ?_, w7⟩
      obtain ⟨o, e, d⟩ := T.obj _ _ st5 b hb
      exact (I7.pin (b, o) (List.mem_append_right _ (List.mem_append_right _ (mem_pinsAt hb e)))).2.1
    cases f with
    | next => obtain ⟨σ7, H7, I7, n7⟩ := q7; exact again I7 n7
    | cont => obtain ⟨σ7, H7, I7, n7⟩ := q7; exact again I7 n7
    | brk => obtain ⟨σ7, H7, I7, q7⟩ := q7; exact ⟨σ7, H7, I7.unpinned, q7⟩
    | ret v => obtain ⟨x7, σ7, H7, I7, r7, q7⟩ := q7; exact ⟨x7, σ7, H7, I7.unpinned, r7, q7⟩
end

/-! ### the forms one uses -/
/-- over a list that the body leaves as it is -/
theorem for_list {K : PySem.W.Frag} {a : Addr} {xs : List V} {g : TG} {tb : TS} {D : Ends} {σ : St} {H : Hp} (Pv : Nat → St → Hp → Prop) (h0 : Pv 0 σ H) (hl : ∀ i σ H, i ≤ xs.length → Pv i σ H → SqL K H a xs)
    (hs : ∀ i x σ H, xs[i]? = some x → Pv i σ H → g x σ H fun σ2 H2 => tb { D with nx := Pv (i + 1), ct := Pv (i + 1), bk := D.nx } σ2 H2) (hd : ∀ σ H, Pv xs.length σ H → D.nx σ H) :
    ∃ W : Nat → Nat → St → Hp → Prop, (∃ m, W 0 m σ H) ∧ ∀ i m σ H, W i m σ H →
      ((Itl K a).stop i H ∧ D.nx σ H) ∨ ((Itl K a).go i H ∧ ∃ N : St → Hp → Prop, (∀ σ' H', N σ' H' → ∃ m', m' < m ∧ W (i + 1) m' σ' H') ∧ ∀ x H', (Itl K a).yld i H x H' → g x σ H' fun σ2 H2 => tb { D with nx := N, ct := N, bk := D.nx } σ2 H2) := by
  refine ⟨fun i m σ H => m = xs.length - i ∧ i ≤ xs.length ∧ Pv i σ H, ⟨xs.length, by simp, Nat.zero_le _, h0⟩, ?_⟩
  rintro i m σ H ⟨rfl, hi, p⟩
  have q := hl i σ H hi p
  by_cases hlt : i < xs.length
  · refine .inr ⟨⟨xs, xs[i], q, by simp [hlt]⟩, Pv (i + 1), fun σ' H' p' => ⟨xs.length - (i + 1), by omega, rfl, hlt, p'⟩, fun x H' y => ?_⟩
    obtain ⟨e, y⟩ := y
    subst e
    exact hs i x σ _ (y xs q) p
  · have e : i = xs.length := by omega
    subst e
    exact .inl ⟨⟨xs, q, Nat.le_refl _⟩, hd σ H p⟩
theorem for_range {lo : Int} {n : Nat} {g : TG} {tb : TS} {D : Ends} {σ : St} {H : Hp} (Pv : Nat → St → Hp → Prop) (h0 : Pv 0 σ H)
    (hs : ∀ i σ H, i < n → Pv i σ H → g (.int (lo + i)) σ H fun σ2 H2 => tb { D with nx := Pv (i + 1), ct := Pv (i + 1), bk := D.nx } σ2 H2) (hd : ∀ σ H, Pv n σ H → D.nx σ H) :
    ∃ W : Nat → Nat → St → Hp → Prop, (∃ m, W 0 m σ H) ∧ ∀ i m σ H, W i m σ H →
      ((Itr lo n).stop i H ∧ D.nx σ H) ∨ ((Itr lo n).go i H ∧ ∃ N : St → Hp → Prop, (∀ σ' H', N σ' H' → ∃ m', m' < m ∧ W (i + 1) m' σ' H') ∧ ∀ x H', (Itr lo n).yld i H x H' → g x σ H' fun σ2 H2 => tb { D with nx := N, ct := N, bk := D.nx } σ2 H2) := by
  refine ⟨fun i m σ H => m = n - i ∧ i ≤ n ∧ Pv i σ H, ⟨n, by simp, Nat.zero_le _, h0⟩, ?_⟩
  rintro i m σ H ⟨rfl, hi, p⟩
  by_cases hlt : i < n
  · refine .inr ⟨hlt, Pv (i + 1), fun σ' H' p' => ⟨n - (i + 1), by omega, rfl, hlt, p'⟩, fun x H' y => ?_⟩
    obtain ⟨e, y⟩ := y
    subst e y
    exact hs i σ _ hlt p
  · have e : i = n := by omega
    subst e
    exact .inl ⟨Nat.le_refl _, hd σ H p⟩
end L2

namespace L2
open PySem PySem.Spec PyProof.Rows

abbrev R2 := V → V → Hp → VK → Prop
/-- a two-place operation on values: f is binaryOp op, inplaceOp op or compareOp op -/
def OpR (X : Cx) (f : Value → Value → Sem Value) (r : R2) : Prop :=
  ∀ (pins : List (Addr × Obj)) (s : Shared) (σ : St) (H : Hp) (x y : V) (v u : Value) (Q : VK), Inv X pins σ H s → RelV x v → RelV y u → r x y H Q →
    wpAny (model X.prog X.w) X.A (f v u) (EP X pins σ Q) X.xe s
/-- a one-place operation -/
def UnR (X : Cx) (f : Value → Sem Value) (r : V → Hp → VK → Prop) : Prop :=
  ∀ (pins : List (Addr × Obj)) (s : Shared) (σ : St) (H : Hp) (x : V) (v : Value) (Q : VK), Inv X pins σ H s → RelV x v → r x H Q →
    wpAny (model X.prog X.w) X.A (f v) (EP X pins σ Q) X.xe s
/-- a call of a value that is known (a builtin, a type) with values -/
def CallR (X : Cx) (f : Value) (r : List V → Hp → VK → Prop) : Prop :=
  ∀ (pins : List (Addr × Obj)) (s : Shared) (σ : St) (H : Hp) (xs : List V) (us : List Value) (Q : VK), Inv X pins σ H s → Vals xs us → r xs H Q →
    wpAny (model X.prog X.w) X.A (call f us) (EP X pins σ Q) X.xe s
/-- a value's truth -/
def TruR (X : Cx) (r : V → Hp → (Bool → Hp → Prop) → Prop) : Prop :=
  ∀ (pins : List (Addr × Obj)) (s : Shared) (σ : St) (H : Hp) (x : V) (v : Value) (Q : Bool → Hp → Prop), Inv X pins σ H s → RelV x v → r x H Q →
    wpAny (model X.prog X.w) X.A (truthy v) (TP X pins σ Q) X.xe s

def tOp (r : R2) (ta tb : TE) : TE := fun σ H Q => ta σ H fun x H1 => tb σ H1 fun y H2 => r x y H2 Q
def tUn (r : V → Hp → VK → Prop) (ta : TE) : TE := fun σ H Q => ta σ H fun x H1 => r x H1 Q
/-- ints in, under C, and a value out -/
def rI (C : Int → Int → Prop) (g : Int → Int → V) : R2 := fun x y H Q => ∃ i j, x = .int i ∧ y = .int j ∧ C i j ∧ Q (g i j) H
def rI0 (g : Int → Int → V) : R2 := fun x y H Q => ∃ i j, x = .int i ∧ y = .int j ∧ Q (g i j) H
def rU (g : Int → V) : V → Hp → VK → Prop := fun x H Q => ∃ i, x = .int i ∧ Q (g i) H

section
variable {X : Cx} {a b c : Expr} {ta tb tc : TE} {pos : Pos}

theorem binT (ha : PE X a ta) (hb : PE X b tb) {pins : List (Addr × Obj)} {s : Shared} {σ : St} {H : Hp} {R : V → V → Hp → Prop} (I : Inv X pins σ H s)
    (h : ta σ H fun x H1 => tb σ H1 fun y H2 => R x y H2) {Q : Value → Shared → Prop} {f : Value → Value → Sem Value}
    (hf : ∀ v u s2 x y H2, Inv X pins σ H2 s2 → RelV x v → RelV y u → R x y H2 → wpAny (model X.prog X.w) X.A (f v u) Q X.xe s2) :
    wpAny (model X.prog X.w) X.A (eval a X.env) (fun v s₁ => wpAny (model X.prog X.w) X.A (eval b X.env) (fun u s₂ => wpAny (model X.prog X.w) X.A (f v u) Q X.xe s₂) X.xe s₁) X.xe s := by
  refine thn (ha pins s σ H _ I h) fun v s1 ⟨x, H1, I1, r1, q1⟩ => ?_
  refine thn (hb pins s1 σ H1 _ I1 q1) fun u s2 ⟨y, H2, I2, r2, q2⟩ => ?_
  exact hf v u s2 x y H2 I2 r1 r2 q2

theorem pe_op {op : Operator} {r : R2} (ho : OpR X (binaryOp op) r) (ha : PE X a ta) (hb : PE X b tb) : PE X (.BinOp a op b pos) (tOp r ta tb) := by
  intro pins s σ H Q I h
  exact wpAny_BinOp (binT ha hb I h fun v u s2 x y H2 I2 rx ry q => ho pins s2 σ H2 x y v u Q I2 rx ry q)
theorem pe_un {op : UnaryOp} {r : V → Hp → VK → Prop} (ho : UnR X (unaryOp op) r) (ha : PE X a ta) : PE X (.UnaryOp op a pos) (tUn r ta) := by
  intro pins s σ H Q I h
  exact UnaryOp_ (thn (ha pins s σ H _ I h) fun v s1 ⟨x, H1, I1, r1, q1⟩ => ho pins s1 σ H1 x v Q I1 r1 q1)
/-! ### ints -/
theorem opI {f : Value → Value → Sem Value} {C : Int → Int → Prop} {g : Int → Int → Int}
    (rule : ∀ (i j : Int) (t u : Tok) (s : Shared) (Q : Value → Shared → Prop) (E : Value → Shared → Prop), C i j → Q (.int (g i j) s.toks) { s with toks := s.toks + 1 } → wpAny (model X.prog X.w) X.A (f (.int i t) (.int j u)) Q E s) :
    OpR X f (rI C fun i j => .int (g i j)) := by
  intro pins s σ H x y v u Q I rx ry h
  obtain ⟨i, j, rfl, rfl, hc, q⟩ := h
  obtain ⟨t, rfl⟩ := rx
  obtain ⟨t', rfl⟩ := ry
  exact rule i j t t' s _ _ hc ⟨.int (g i j), H, I.tok _, ⟨_, rfl⟩, q⟩
theorem opI0 {f : Value → Value → Sem Value} {g : Int → Int → Int}
    (rule : ∀ (i j : Int) (t u : Tok) (s : Shared) (Q : Value → Shared → Prop) (E : Value → Shared → Prop), Q (.int (g i j) s.toks) { s with toks := s.toks + 1 } → wpAny (model X.prog X.w) X.A (f (.int i t) (.int j u)) Q E s) :
    OpR X f (rI0 fun i j => .int (g i j)) := by
  intro pins s σ H x y v u Q I rx ry h
  obtain ⟨i, j, rfl, rfl, q⟩ := h
  obtain ⟨t, rfl⟩ := rx
  obtain ⟨t', rfl⟩ := ry
  exact rule i j t t' s _ _ ⟨.int (g i j), H, I.tok _, ⟨_, rfl⟩, q⟩
theorem opB0 {f : Value → Value → Sem Value} {g : Int → Int → Bool}
    (rule : ∀ (i j : Int) (t u : Tok) (s : Shared) (Q : Value → Shared → Prop) (E : Value → Shared → Prop), Q (.bool (g i j)) s → wpAny (model X.prog X.w) X.A (f (.int i t) (.int j u)) Q E s) :
    OpR X f (rI0 fun i j => .bl (g i j)) := by
  intro pins s σ H x y v u Q I rx ry h
  obtain ⟨i, j, rfl, rfl, q⟩ := h
  obtain ⟨t, rfl⟩ := rx
  obtain ⟨t', rfl⟩ := ry
  exact rule i j t t' s _ _ ⟨.bl (g i j), H, I, rfl, q⟩

def CDiv (i j : Int) : Prop := 0 < j ∧ j < 1073741824
def CMul (i j : Int) : Prop := (-(2 ^ 64) < i ∧ i < 2 ^ 64) ∨ (-(2 ^ 64) < j ∧ j < 2 ^ 64)
theorem CMul.ok {i j : Int} (h : CMul i j) : IntMulOk i j := by
  rcases h with ⟨h1, h2⟩ | ⟨h1, h2⟩
  · exact .of_left (intBits_le_64 h1 h2)
  · exact .of_right (intBits_le_64 h1 h2)
theorem op_add : OpR X (binaryOp .Add) (rI0 fun i j => .int (i + j)) := opI0 fun _ _ _ _ _ _ _ q => add_int q
theorem op_sub : OpR X (binaryOp .Sub) (rI0 fun i j => .int (i - j)) := opI0 fun _ _ _ _ _ _ _ q => sub_int q
theorem op_mul : OpR X (binaryOp .Mult) (rI CMul fun i j => .int (i * j)) := opI fun _ _ _ _ _ _ _ hc q => mul_int q hc.ok
/-- // by a positive divisor -/
theorem op_fdiv : OpR X (binaryOp .FloorDiv) (rI CDiv fun i j => .int (i / j)) := opI fun i j _ _ _ _ _ hc q => by
  have h1 : (0 : Int) < j := hc.1
  have h2 : j < 1073741824 := hc.2
  exact floordiv_int (by omega) (by rw [Int.fdiv_eq_ediv_of_nonneg i (by omega)]; exact q) (.inl (PyProof.noPylong_small (by omega)))
/-- % by a positive divisor of any size -/
theorem op_mod : OpR X (binaryOp .Mod) (rI (fun _ j => 0 < j) fun i j => .int (i % j)) := opI fun i j _ _ _ _ _ hc q => by
  have h1 : (0 : Int) < j := hc
  exact mod_int' (by omega) (by rw [Int.fmod_eq_emod_of_nonneg i (by omega)]; exact q)
theorem unI {f : Value → Sem Value} {g : Int → Int}
    (rule : ∀ (i : Int) (t : Tok) (s : Shared) (Q : Value → Shared → Prop) (E : Value → Shared → Prop), Q (.int (g i) s.toks) { s with toks := s.toks + 1 } → wpAny (model X.prog X.w) X.A (f (.int i t)) Q E s) :
    UnR X f (rU fun i => .int (g i)) := by
  intro pins s σ H x v Q I rx h
  obtain ⟨i, rfl, q⟩ := h
  obtain ⟨t, rfl⟩ := rx
  exact rule i t s _ _ ⟨.int (g i), H, I.tok _, ⟨_, rfl⟩, q⟩
theorem un_neg : UnR X (unaryOp .USub) (rU fun i => .int (-i)) := unI fun _ _ _ _ _ q => neg_int q
/-! ### bools among ints: n += (a < b) -/
end

/-! ### comparisons -/
/-- the scalars that == tells apart as data does -/
def scal : V → V → Bool
  | .non, .non => true | .non, .int _ => true | .int _, .non => true | .non, .bl _ => true | .bl _, .non => true | .non, .str _ => true | .str _, .non => true
  | .int _, .int _ => true | .bl _, .bl _ => true | .str _, .str _ => true | .byt _, .byt _ => true
  | .int _, .str _ => true | .str _, .int _ => true | .bl _, .str _ => true | .str _, .bl _ => true
  | _, _ => false
def rEq : R2 := fun x y H Q => scal x y = true ∧ Q (.bl (decide (x = y))) H
def rNe : R2 := fun x y H Q => scal x y = true ∧ Q (.bl (!decide (x = y))) H

theorem dec_int {i j : Int} : decide (V.int i = V.int j) = (i == j) := by
  rw [Bool.eq_iff_iff]
  simp
theorem dec_bl {i j : Bool} : decide (V.bl i = V.bl j) = (i == j) := by
  rw [Bool.eq_iff_iff]
  simp
theorem dec_str {i j : Str} : decide (V.str i = V.str j) = (i == j) := by
  rw [Bool.eq_iff_iff]
  simp
theorem dec_byt {i j : Array UInt8} : decide (V.byt i = V.byt j) = (i.toList == j.toList) := by
  rw [Bool.eq_iff_iff]
  cases i
  cases j
  simp

section
variable {X : Cx} {a b c : Expr} {ta tb tc : TE} {pos : Pos}
theorem fin_bl {pins : List (Addr × Obj)} {σ : St} {H : Hp} {s : Shared} {Q : VK} {k k' : Bool} (I : Inv X pins σ H s) (q : Q (.bl k) H) (e : k = k') : EP X pins σ Q (.bool k') s := by
  subst e
  exact ⟨.bl k, H, I, rfl, q⟩
theorem op_eq : OpR X (compareOp .Eq) rEq := by
  intro pins s σ H x y v u Q I rx ry h
  obtain ⟨hs, q⟩ := h
  cases x with
  | non =>
    cases rx
    cases y with
    | non => cases ry; exact PySem.EqNone.eq_none_none (fin_bl I q (by simp))
    | bl j => cases ry; exact PySem.EqNone.eq_none_bool (fin_bl I q (by simp))
    | int j => obtain ⟨t', rfl⟩ := ry; exact PySem.EqNone.eq_none_int (fin_bl I q (by simp))
    | str j => obtain ⟨t', rfl⟩ := ry; exact PySem.EqNone.eq_none_str (fin_bl I q (by simp))
    | _ => exact absurd (show false = true from hs) Bool.false_ne_true
  | bl i =>
    cases rx
    cases y with
    | non => cases ry; exact PySem.EqNone.eq_bool_none (fin_bl I q (by simp))
    | bl j => cases ry; exact eq_bool (fin_bl I q dec_bl)
    | str j => obtain ⟨t', rfl⟩ := ry; exact PySem.EqMixed.eq_bool_str (fin_bl I q (by simp))
    | _ => exact absurd (show false = true from hs) Bool.false_ne_true
  | int i =>
    obtain ⟨t, rfl⟩ := rx
    cases y with
    | non => cases ry; exact PySem.EqNone.eq_int_none (fin_bl I q (by simp))
    | int j => obtain ⟨t', rfl⟩ := ry; exact eq_int (fin_bl I q dec_int)
    | str j => obtain ⟨t', rfl⟩ := ry; exact PySem.EqMixed.eq_int_str (fin_bl I q (by simp))
    | _ => exact absurd (show false = true from hs) Bool.false_ne_true
  | str i =>
    obtain ⟨t, rfl⟩ := rx
    cases y with
    | non => cases ry; exact PySem.EqNone.eq_str_none (fin_bl I q (by simp))
    | bl j => cases ry; exact PySem.EqMixed.eq_str_bool (fin_bl I q (by simp))
    | int j => obtain ⟨t', rfl⟩ := ry; exact PySem.EqMixed.eq_str_int (fin_bl I q (by simp))
    | str j => obtain ⟨t', rfl⟩ := ry; exact eq_str (fin_bl I q dec_str)
    | _ => exact absurd (show false = true from hs) Bool.false_ne_true
  | byt i =>
    obtain ⟨t, rfl⟩ := rx
    cases y with
    | byt j => obtain ⟨t', rfl⟩ := ry; exact PySem.W.eq_bytes (fin_bl I q dec_byt)
    | _ => exact absurd (show false = true from hs) Bool.false_ne_true
  | _ => cases y <;> exact absurd (show false = true from hs) Bool.false_ne_true
theorem op_ne : OpR X (compareOp .NotEq) rNe := by
  intro pins s σ H x y v u Q I rx ry h
  obtain ⟨hs, q⟩ := h
  cases x with
  | non =>
    cases rx
    cases y with
    | non => cases ry; exact PySem.EqNone.ne_none_none (fin_bl I q (by simp))
    | bl j => cases ry; exact PySem.EqNone.ne_none_bool (fin_bl I q (by simp))
    | int j => obtain ⟨t', rfl⟩ := ry; exact PySem.EqNone.ne_none_int (fin_bl I q (by simp))
    | str j => obtain ⟨t', rfl⟩ := ry; exact PySem.EqNone.ne_none_str (fin_bl I q (by simp))
    | _ => exact absurd (show false = true from hs) Bool.false_ne_true
  | bl i =>
    cases rx
    cases y with
    | non => cases ry; exact PySem.EqNone.ne_bool_none (fin_bl I q (by simp))
    | bl j => cases ry; exact ne_bool (fin_bl I q (congrArg not dec_bl))
    | str j => obtain ⟨t', rfl⟩ := ry; exact PySem.EqMixed.ne_bool_str (fin_bl I q (by simp))
    | _ => exact absurd (show false = true from hs) Bool.false_ne_true
  | int i =>
    obtain ⟨t, rfl⟩ := rx
    cases y with
    | non => cases ry; exact PySem.EqNone.ne_int_none (fin_bl I q (by simp))
    | int j => obtain ⟨t', rfl⟩ := ry; exact ne_int (fin_bl I q (congrArg not dec_int))
    | str j => obtain ⟨t', rfl⟩ := ry; exact PySem.EqMixed.ne_int_str (fin_bl I q (by simp))
    | _ => exact absurd (show false = true from hs) Bool.false_ne_true
  | str i =>
    obtain ⟨t, rfl⟩ := rx
    cases y with
    | non => cases ry; exact PySem.EqNone.ne_str_none (fin_bl I q (by simp))
    | bl j => cases ry; exact PySem.EqMixed.ne_str_bool (fin_bl I q (by simp))
    | int j => obtain ⟨t', rfl⟩ := ry; exact PySem.EqMixed.ne_str_int (fin_bl I q (by simp))
    | str j => obtain ⟨t', rfl⟩ := ry; exact ne_str (fin_bl I q (congrArg not dec_str))
    | _ => exact absurd (show false = true from hs) Bool.false_ne_true
  | byt i =>
    obtain ⟨t, rfl⟩ := rx
    cases y with
    | byt j => obtain ⟨t', rfl⟩ := ry; exact PySem.W.ne_bytes (fin_bl I q (congrArg not dec_byt))
    | _ => exact absurd (show false = true from hs) Bool.false_ne_true
  | _ => cases y <;> exact absurd (show false = true from hs) Bool.false_ne_true

theorem op_lt : OpR X (compareOp .Lt) (rI0 fun i j => .bl (decide (i < j))) := opB0 fun _ _ _ _ _ _ _ q => lt_int q
theorem op_le : OpR X (compareOp .LtE) (rI0 fun i j => .bl (decide (i ≤ j))) := opB0 fun _ _ _ _ _ _ _ q => le_int q
theorem op_gt : OpR X (compareOp .Gt) (rI0 fun i j => .bl (decide (j < i))) := opB0 fun _ _ _ _ _ _ _ q => gt_int q
theorem nomark (b : Expr) {op : CmpOp} (h : op ≠ .In := by decide) (h2 : op ≠ .NotIn := by decide) : behindInMarks op b = false := by
  have e1 : (op == CmpOp.In) = false := by cases op <;> first | rfl | exact absurd rfl h
  have e2 : (op == CmpOp.NotIn) = false := by cases op <;> first | rfl | exact absurd rfl h2
  cases b <;> simp [behindInMarks, e1, e2]
/-- a comparison as a value; hm: nomark b, or (for in, not in) by with_unfolding_all rfl -/
theorem pe_cmpR {op : CmpOp} {r : R2} (ho : OpR X (compareOp op) r) (ha : PE X a ta) (hb : PE X b tb) (hm : behindInMarks op b = false) : PE X (.Compare a [op] [b] pos) (tOp r ta tb) := by
  intro pins s σ H Q I h
  exact wpAny_Compare1 (binT ha hb I h fun v u s2 x y H2 I2 rx ry q => ho pins s2 σ H2 x y v u Q I2 rx ry q) hm
/-- a reading of a value as a test -/
def tTest (t : TE) : TT := fun σ H Q => t σ H fun x H' => ∃ k, x = .bl k ∧ Q k H'
theorem pt_cmpR {op : CmpOp} {r : R2} (ho : OpR X (compareOp op) r) (ha : PE X a ta) (hb : PE X b tb) (hm : behindInMarks op b = false) : PT X (.Compare a [op] [b] pos) (tTest (tOp r ta tb)) := by
  intro pins s σ H Q I h
  refine wpAny_isTrue_Compare1 (thn (ha pins s σ H _ I h) fun v s1 ⟨x, H1, I1, r1, q1⟩ => thn (hb pins s1 σ H1 _ I1 q1) fun u s2 ⟨y, H2, I2, r2, q2⟩ =>
    thn (ho pins s2 σ H2 x y v u _ I2 r1 r2 q2) fun c s3 ⟨z, H3, I3, r3, k, e, q3⟩ => ?_) hm
  subst e
  cases r3
  exact wpAny_truthy_bool ⟨H3, I3, q3⟩
/-- a op1 b op2 c -/
def tChain (r r' : R2) (ta tb tc : TE) : TE := fun σ H Q => ta σ H fun x H1 => tb σ H1 fun y H2 => r x y H2 fun z H3 => ∃ k, z = .bl k ∧
  (if k = true then tc σ H3 fun w' H4 => r' y w' H4 Q else Q (.bl false) H3)
theorem pt_chain {op op' : CmpOp} {r r' : R2} (ho : OpR X (compareOp op) r) (ho' : OpR X (compareOp op') r') (ha : PE X a ta) (hb : PE X b tb) (hc : PE X c tc)
    (hm : lastMarks [op, op'] [b, c] = false := by with_unfolding_all rfl) : PT X (.Compare a [op, op'] [b, c] pos) (tTest (tChain r r' ta tb tc)) := by
  intro pins s σ H Q I h
  refine isTrue_chain (thn (ha pins s σ H _ I h) fun v s1 ⟨x, H1, I1, r1, q1⟩ => test_link (thn (hb pins s1 σ H1 _ I1 q1) fun u s2 ⟨y, H2, I2, r2, q2⟩ =>
    thn (ho pins s2 σ H2 x y v u _ I2 r1 r2 q2) fun d s3 ⟨z, H3, I3, r3, k, e, q3⟩ => ?_)) hm
  subst e
  cases r3
  refine wpAny_truthy_bool ?_
  cases k with
  | false =>
    obtain ⟨k', e', q'⟩ := q3
    cases e'
    exact ite_ff ⟨H3, I3, q'⟩
  | true =>
    refine ite_tt (test_last (thn (hc pins s3 σ H3 _ I3 q3) fun w' s4 ⟨z', H4, I4, r4, q4⟩ => thn (ho' pins s4 σ H4 y z' u w' _ I4 r2 r4 q4) fun d' s5 ⟨z2, H5, I5, r5, k2, e2, q5⟩ => ?_))
    subst e2
    cases r5
    exact wpAny_truthy_bool ⟨H5, I5, q5⟩

/-! ### truth -/
/-- a value's truth by the abstract heap -/
def TruV (K : PySem.W.Frag) (x : V) (H : Hp) (k : Bool) : Prop :=
  match x with
  | .non => k = false
  | .bl b => k = b
  | .int i => k = (i != 0)
  | .str y => y.length ≤ sizeLine ∧ k = ((y.length : Int) != 0)
  | .byt y => y.size ≤ sizeLine ∧ k = ((y.size : Int) != 0)
  | .ref p => (∃ xs, SqL K H p xs ∧ k = !xs.isEmpty) ∨ (∃ xs, SqT K H p xs ∧ k = !xs.isEmpty) ∨ ∃ kvs, H p = some (.dK kvs) ∧ k = !kvs.isEmpty
  | _ => False
theorem isEmpty_kv {κ : Type} {kvs : List (κ × V)} {vs : List (κ × Value)} (r : KV kvs vs) : (!vs.isEmpty) = !kvs.isEmpty := by
  cases r <;> rfl
theorem isEmpty_of {xs : List V} {its : List Value} (r : Vals xs its) : (!its.toArray.isEmpty) = !xs.isEmpty := by
  cases r <;> simp
theorem line63 : (sizeLine : Nat) < 2 ^ 63 := by rw [sizeLine_eq]; decide
theorem tru_ok : TruR X (fun x H Q => ∃ k, TruV X.K x H k ∧ Q k H) := by
  intro pins s σ H x v Q I rx h
  obtain ⟨k, e, q⟩ := h
  have hl := line63
  have hs : sizeLine = 16777216 := sizeLine_eq
  cases x with
  | non =>
    cases rx
    have e' : k = false := e
    subst e'
    exact truthy_none ⟨H, I, q⟩
  | bl b =>
    cases rx
    have e' : k = b := e
    subst e'
    exact wpAny_truthy_bool ⟨H, I, q⟩
  | int i =>
    obtain ⟨t, rfl⟩ := rx
    have e' : k = (i != 0) := e
    subst e'
    exact PySem.P.truthy_int ⟨H, I, q⟩
  | str y =>
    obtain ⟨t, rfl⟩ := rx
    obtain ⟨hy, e'⟩ : y.length ≤ sizeLine ∧ k = ((y.length : Int) != 0) := e
    subst e'
    exact PySem.P.truthy_str (by omega) ⟨H, I.tok _, q⟩
  | byt y =>
    obtain ⟨t, rfl⟩ := rx
    obtain ⟨hy, e'⟩ : y.size ≤ sizeLine ∧ k = ((y.size : Int) != 0) := e
    subst e'
    exact PySem.W.truthy_bytes (by omega) ⟨H, I.tok _, q⟩
  | ref p =>
    cases rx
    have e' : (∃ xs, SqL X.K H p xs ∧ k = !xs.isEmpty) ∨ (∃ xs, SqT X.K H p xs ∧ k = !xs.isEmpty) ∨ ∃ kvs, H p = some (.dK kvs) ∧ k = !kvs.isEmpty := e
    rcases e' with ⟨xs, hx, e'⟩ | ⟨xs, hx, e'⟩ | ⟨kvs, hx, e'⟩
    · subst e'
      obtain ⟨its, r, pl, hz⟩ := I.list hx
      have hlen := r.length
      exact wpAny_truthy_list pl.isList (by simp only [List.size_toArray]; omega) ⟨H, I.tok _, by rw [isEmpty_of r]; exact q⟩
    · subst e'
      obtain ⟨its, r, pl, hz⟩ := I.tuple hx
      have hlen := r.length
      exact truthy_tuple pl (by simp only [List.size_toArray]; omega) ⟨H, I.tok _, by rw [isEmpty_of r]; exact q⟩
    · subst e'
      obtain ⟨hz, hS, vs, r, m⟩ : kvs.length ≤ sizeLine ∧ (p == sysModules) = false ∧ ∃ vs, KV kvs vs ∧ s.heap.DictOf (mixKind X.prog X.w) p vs := I.hok p _ hx
      have hlen : kvs.length = vs.length := Paired.length r
      exact wpAny_truthy_dict hS m (by omega) ⟨H, I.tok _, by rw [isEmpty_kv r]; exact q⟩
  | _ => exact (show False from e).elim
/-- any expression whose test is its value's truth (a name, a call, a subscript, a field ..: he by fun _ => rfl) -/
theorem pt_truth (ha : PE X a ta) (he : ∀ whole, isTrue a X.env whole = (do let v ← whole; standAt a.pos; holding [v] (truthy v))) :
    PT X a (fun σ H Q => ta σ H fun x H' => ∃ k, TruV X.K x H' k ∧ Q k H') := by
  intro pins s σ H Q I h
  exact isTrue_plain (thn (ha pins s σ H _ I h) fun v s1 ⟨x, H1, I1, r1, q1⟩ => tru_ok pins s1 σ H1 x v Q I1 r1 q1) (he _)

/-! ### strs and bytes -/
theorem op_add_str : OpR X (binaryOp .Add) (fun x y H Q => ∃ i j, x = .str i ∧ y = .str j ∧ i.length + j.length ≤ sizeLine ∧ Q (.str (i ++ j)) H) := by
  intro pins s σ H x y v u Q I rx ry h
  obtain ⟨i, j, rfl, rfl, hz, q⟩ := h
  obtain ⟨t, rfl⟩ := rx
  obtain ⟨t', rfl⟩ := ry
  exact add_str (fun t' tk => ⟨.str (i ++ j), H, I.tok _, ⟨_, rfl⟩, q⟩) hz
/-! ### scalar builtins, by CallR -/
theorem vals1 {x : V} {us : List Value} (r : Vals [x] us) : ∃ u, us = [u] ∧ RelV x u := by
  cases r with
  | cons r1 r2 => cases r2; exact ⟨_, rfl, r1⟩
theorem vals2 {x y : V} {us : List Value} (r : Vals [x, y] us) : ∃ u w', us = [u, w'] ∧ RelV x u ∧ RelV y w' := by
  cases r with
  | cons r1 r2 =>
    cases r2 with
    | cons r3 r4 => cases r4; exact ⟨_, _, rfl, r1, r3⟩
theorem call_max2 (hc : X.calm = true) : CallR X (.builtin "max") (fun xs H Q => ∃ i j, xs = [.int i, .int j] ∧ Q (.int (if j > i then j else i)) H) := by
  intro pins s σ H xs us Q I r h
  obtain ⟨i, j, rfl, q⟩ := h
  obtain ⟨u, w', rfl, ⟨t, rfl⟩, ⟨t', rfl⟩⟩ := vals2 r
  refine max_two_ints (I.ok.hd hc) fun h' tk k => ⟨_, H, I.kept k, ?_, q⟩
  by_cases hj : j > i
  · rw [if_pos hj, if_pos hj]; exact ⟨_, rfl⟩
  · rw [if_neg hj, if_neg hj]; exact ⟨_, rfl⟩
theorem call_min2 (hc : X.calm = true) : CallR X (.builtin "min") (fun xs H Q => ∃ i j, xs = [.int i, .int j] ∧ Q (.int (if j < i then j else i)) H) := by
  intro pins s σ H xs us Q I r h
  obtain ⟨i, j, rfl, q⟩ := h
  obtain ⟨u, w', rfl, ⟨t, rfl⟩, ⟨t', rfl⟩⟩ := vals2 r
  refine min_two_ints (I.ok.hd hc) fun h' tk k => ⟨_, H, I.kept k, ?_, q⟩
  by_cases hj : j < i
  · rw [if_pos hj, if_pos hj]; exact ⟨_, rfl⟩
  · rw [if_neg hj, if_neg hj]; exact ⟨_, rfl⟩
end
end L2

namespace L2
open PySem PySem.Spec PyProof.Rows

/-! ### an instance, its attributes a map -/
structure ObjM (h : Heap) (x dx C : Addr) (mA : Str → Option Value) : Prop where
  obj : h.get? x = some (PySem.W.instObj C dx)
  ns : h.Ns1 dx mA
  ne : dx ≠ x

theorem lookIn_ns {h : Heap} {dx : Addr} {mA : Str → Option Value} (n : h.Ns1 dx mA) : ∃ od, h.get? dx = some od ∧ ∀ name, PySem.W.lookIn name od = some (mA name) := by
  obtain ⟨o, es, ep, ho, hd, hk, _, hm⟩ := n
  refine ⟨o, ho, fun name => ?_⟩
  have e := hm name
  unfold nsFind findBy at e
  rw [← Array.find?_toList] at e
  unfold PySem.W.lookIn
  rw [hd]
  dsimp only
  split
  · rename_i y q
    rw [q] at e
    exact congrArg some e
  · rename_i q
    rw [q] at e
    have a : es.toList.any (·.refKey) = false := by
      rw [List.any_eq_false]
      intro y hy
      obtain ⟨z, t, hkey⟩ := hk y (Array.mem_toList_iff.mp hy)
      simp [DictEntry.refKey, hkey]
    have a' : ¬ es.toList.any (·.refKey) = true := by rw [a]; exact Bool.false_ne_true
    rw [if_neg a']
    exact congrArg some e

theorem ObjM.look {h : Heap} {x dx C : Addr} {mA : Str → Option Value} (I : ObjM h x dx C mA) : ∃ od, PySem.W.InstAt h x (PySem.W.instObj C dx) C (some od) ∧ ∀ name, PySem.W.lookIn name od = some (mA name) :=
  let ⟨od, ho, hl⟩ := lookIn_ns I.ns
  ⟨od, ⟨I.obj, rfl, rfl, ho⟩, hl⟩

section
variable {prog : Program} {w : World} {A : Around} {E : Value → Shared → Prop} {s : Shared} {K : PySem.W.Frag} {x dx C f : Addr} {mA : Str → Option Value} {name : Str} {v : Value}

theorem get_map {expr : Bool} {Q : Value → Shared → Prop} (X : K.In s.heap) (I : ObjM s.heap x dx C mA) (hg : PySem.W.plainGet K C name = true) (hh : PySem.W.hasDictIn K C = true)
    (ha : PySem.W.findIn K (.ref C) name = some none) (hv : mA name = some v) (hv' : PySem.W.handedIn v = true) (h : Q v { s with toks := s.toks + 1 }) :
    wpAny (model prog w) A (getAttr (.ref x) name expr) Q E s := by
  obtain ⟨od, J, hl⟩ := I.look
  exact PySem.W.get_value X J (PySem.W.plainGet_of hg).1 (PySem.W.findObj_own hh ha rfl (by rw [hl, hv])) hv' h

theorem get_meth {pl : Sem Bool} {Q : Value × List Value → Shared → Prop} (X : K.In s.heap) (I : ObjM s.heap x dx C mA) (hg : PySem.W.plainGet K C name = true)
    (hf : PySem.W.findIn K (.ref C) name = some (some (.ref f))) (ht : PySem.W.isFn K (.ref f) = true) (hv : mA name = none) (h : Q (.ref f, [.ref x]) s) :
    wpAny (model prog w) A (getMethod (.ref x) name pl) Q E s := by
  obtain ⟨od, J, hl⟩ := I.look
  exact PySem.W.method_fn X J (PySem.W.plainGet_of hg).1 (PySem.W.plainGet_of hg).2 hf (beq_iff_eq.mp ht) (by show (PySem.W.lookIn name od).map (·.isSome) = some false; rw [hl, hv]; rfl) h

theorem set_map {ns : List Str} {Q : Unit → Shared → Prop} (X : K.In s.heap) (I : ObjM s.heap x dx C mA)
    (hs : PySem.W.findIn K (.ref C) "__setattr__" = some (some (.builtin "object.__setattr__"))) (hp : PySem.W.plainOver K C = true) (ht : PySem.W.takerIn K C name = some none) (hh : PySem.W.hasDictIn K C = true)
    (hw : PySem.Within mA ns) (hsz : ns.length ≤ sizeLine)
    (h : ∀ h', ObjM h' x dx C (fun y => if y = name then some v else mA y) → Heap.SameBut dx s.heap h' → Q () { s with heap := h', toks := s.toks + 2 }) :
    wpAny (model prog w) A (setAttr (.ref x) name v) Q E s := by
  obtain ⟨od, J, hl⟩ := I.look
  refine PySem.W.set_plain X J hs (PySem.W.osa_open (s := { s with toks := s.toks + 1 }) (r := none) X J hp ht fun b => ?_)
  obtain ⟨cd, hc, hd'⟩ := PySem.W.any_some hh
  have hx : s.heap.get? x = some ⟨.ref C, some dx, .plain, #[]⟩ := I.obj
  refine wpAny_bind (wpAny_pure (wpAny_bind (wpAny_bind (wpAny_loadPart hx (wpAny_bind (PySem.W.Looks.here (s := { s with toks := s.toks + 1 }) (PySem.W.looks_clsIn X hc) ?_))))))
  rw [hd']
  refine wpAny_pure (a := some dx) (wpAny_bind (wpAny_pure (wpAny_bind ?_)))
  refine wpAny_nsSet1 (s := { s with toks := s.toks + 1 }) I.ns fun h' hn2 hs2 => ?_
  obtain ⟨oD, esD, epD, hoD, hdD, hcD⟩ := hn2.count (PySem.Within.cons name v hw)
  refine wpAny_bind (wpAny_lookBehind hoD (by rw [hdD]; exact pastItsLine_dict (Nat.le_trans hcD (by rw [List.length_cons]; omega))) ?_)
  exact wpAny_pure (h _ ⟨(hs2.2 _ (Ne.symm I.ne)).trans I.obj, hn2, I.ne⟩ hs2)

/-- C(..): the dict at the heap's end, the instance behind it; then its __init__ -/
theorem make_map {R : Result → Shared → Prop} {vs : List Value} {kw : List (Str × Value)} (X : K.In s.heap) (hm : PySem.W.makesIn K C = true)
    (hi : PySem.W.findIn K (.ref C) "__init__" = some (some (.ref f))) (hf : PySem.W.typeIn K (.ref f) = some (.type "function"))
    (h : codeAny (model prog w) (A.under (.builtin "type.__call__" ⟨.ref C :: vs, kw⟩)) (.call (.ref f) ⟨.ref (s.heap.objs.size + 1) :: vs, kw⟩) (PySem.W.InitBack (s.heap.objs.size + 1) R)
      { s with heap := (s.heap.push PySem.W.emptyDict).push (PySem.W.instObj C s.heap.objs.size) }) :
    codeAny (model prog w) A (.call (.ref C) ⟨vs, kw⟩) R s := by
  obtain ⟨hh, g, d, t, os⟩ := s
  exact PySem.W.make_core (PySem.W.makes_of X hm) (PySem.W.looks_findIn X hi) (fun self => PySem.W.bind_fn X self hf) (.inl rfl) h
end

/-! ### the attributes as a list of pairs -/
def putF (f : Str) (v : V) : List (Str × V) → List (Str × V)
  | [] => [(f, v)]
  | (g, x) :: r => if g = f then (g, v) :: r else (g, x) :: putF f v r
theorem lookup_putF (f g : Str) (v : V) : ∀ fs : List (Str × V), (putF f v fs).lookup g = if g = f then some v else fs.lookup g
  | [] => by
    show List.lookup g [(f, v)] = _
    by_cases h : g = f
    · have hb : (g == f) = true := beq_iff_eq.mpr h
      simp only [List.lookup, hb, if_pos h]
    · have hb : (g == f) = false := beq_eq_false_iff_ne.mpr h
      simp only [List.lookup, hb, if_neg h]
  | (k, x) :: r => by
    have ih := lookup_putF f g v r
    rw [show putF f v ((k, x) :: r) = (if k = f then (k, v) :: r else (k, x) :: putF f v r) from rfl]
    by_cases hk : k = f
    · rw [if_pos hk]
      by_cases h : g = k
      · have hb : (g == k) = true := beq_iff_eq.mpr h
        simp only [List.lookup, hb, if_pos (h.trans hk)]
      · have hb : (g == k) = false := beq_eq_false_iff_ne.mpr h
        simp only [List.lookup, hb, if_neg (fun e : g = f => h (e.trans hk.symm))]
    · rw [if_neg hk]
      by_cases h : g = k
      · have hb : (g == k) = true := beq_iff_eq.mpr h
        simp only [List.lookup, hb, if_neg (fun e : g = f => hk (h.symm.trans e))]
      · have hb : (g == k) = false := beq_eq_false_iff_ne.mpr h
        simp only [List.lookup, hb]
        exact ih
theorem keys_putF (f : Str) (v : V) : ∀ fs : List (Str × V), f ∈ (putF f v fs).map (·.1) ∧ ∀ g, g ∈ fs.map (·.1) → g ∈ (putF f v fs).map (·.1)
  | [] => ⟨by simp [putF], fun g h => by simp at h⟩
  | (k, x) :: r => by
    obtain ⟨i1, i2⟩ := keys_putF f v r
    rw [show putF f v ((k, x) :: r) = (if k = f then (k, v) :: r else (k, x) :: putF f v r) from rfl]
    by_cases hk : k = f
    · rw [if_pos hk]
      subst hk
      exact ⟨by simp, fun g h => by simpa using h⟩
    · rw [if_neg hk]
      refine ⟨?_, fun g h => ?_⟩
      · rw [List.map_cons]
        exact List.mem_cons_of_mem _ i1
      · rw [List.map_cons] at h ⊢
        rcases List.mem_cons.mp h with e | e
        · exact List.mem_cons.mpr (.inl e)
        · exact List.mem_cons_of_mem _ (i2 g e)
theorem length_putF (f : Str) (v : V) : ∀ fs : List (Str × V), (putF f v fs).length ≤ fs.length + 1
  | [] => by simp [putF]
  | (k, x) :: r => by
    have ih := length_putF f v r
    rw [show putF f v ((k, x) :: r) = (if k = f then (k, v) :: r else (k, x) :: putF f v r) from rfl]
    by_cases hk : k = f
    · rw [if_pos hk, List.length_cons, List.length_cons]; omega
    · rw [if_neg hk, List.length_cons, List.length_cons]; omega

theorem RelO.some_of {v : V} {o : Option Value} (r : RelO (some v) o) : ∃ u, o = some u ∧ RelV v u := by
  cases o with
  | none => exact (show False from r).elim
  | some u => exact ⟨u, rfl, r⟩
theorem RelO.none_of {o : Option Value} (r : RelO none o) : o = none := by
  cases o with
  | none => rfl
  | some u => exact (show False from r).elim
theorem handed_of {v : V} {u : Value} (r : RelV v u) : PySem.W.handedIn u = true := by
  cases v with
  | non => cases (show u = Value.none from r); rfl
  | bl b => cases (show u = Value.bool b from r); rfl
  | int i => obtain ⟨t, e⟩ := (show ∃ t, u = Value.int i t from r); cases e; rfl
  | str x => obtain ⟨t, e⟩ := (show ∃ t, u = Value.str x t from r); cases e; rfl
  | byt b => obtain ⟨t, e⟩ := (show ∃ t, u = Value.bytes b t from r); cases e; rfl
  | flt b => obtain ⟨t, e⟩ := (show ∃ t, u = Value.float b t from r); cases e; rfl
  | ref a => cases (show u = Value.ref a from r); rfl
  | ty n => cases (show u = Value.type n from r); rfl

section
variable {P : Program} {w : World} {H H' : Hp} {h h' : Heap} {a C dx : Addr} {fs fs' : List (Str × V)}
theorem ins_get (hok : HOk P w H h) (e : H a = some (.ins C dx fs)) : ∃ mA, ObjM h a dx C mA ∧ (∀ f, RelO (fs.lookup f) (mA f)) ∧ PySem.Within mA (fs.map (·.1)) ∧ fs.length ≤ 1000 ∧ H dx = some (.own a) := by
  obtain ⟨d, z, ne, ob, mA, n, r, q⟩ := (show ObjOk P w H h a (.ins C dx fs) from hok a _ e)
  exact ⟨mA, ⟨ob, n, ne⟩, r, q, z, d⟩
end

/-! ### what of the text a class must have -/
structure Cls (K : PySem.W.Frag) (C : Addr) : Prop where
  pg : PySem.W.plainGet K C Str.empty = true
  hd : PySem.W.hasDictIn K C = true
  po : PySem.W.plainOver K C = true
  sa : PySem.W.findIn K (.ref C) "__setattr__" = some (some (.builtin "object.__setattr__"))
theorem Cls.get {K : PySem.W.Frag} {C : Addr} (c : Cls K C) (f : Str) : PySem.W.plainGet K C f = true := c.pg
/-- no class of it has the name -/
def NoAttr (K : PySem.W.Frag) (C : Addr) (f : Str) : Prop := PySem.W.findIn K (.ref C) f = some none
theorem NoAttr.taker {K : PySem.W.Frag} {C : Addr} {f : Str} (n : NoAttr K C f) : PySem.W.takerIn K C f = some none := by
  unfold PySem.W.takerIn
  rw [show PySem.W.findIn K (.ref C) f = some none from n]
  rfl
/-- a method: a plain def of the class or of one above it -/
structure Meth (K : PySem.W.Frag) (C : Addr) (m : Str) (f : Addr) : Prop where
  at_ : PySem.W.findIn K (.ref C) m = some (some (.ref f))
  fn : PySem.W.isFn K (.ref f) = true
  kp : PySem.W.keepIn K (.ref f) = true

section
variable {X : Cx} {pins : List (Addr × Obj)} {σ : St} {H : Hp} {s : Shared} {a C dx : Addr} {fs : List (Str × V)} {f : Str} {v : V} {A : Around} {E : Value → Shared → Prop}

theorem getattr_ok {b : Bool} {Q : Value → Shared → Prop} (I : Inv X pins σ H s) (e : H a = some (.ins C dx fs)) (c : Cls X.K C) (n : NoAttr X.K C f) (l : fs.lookup f = some v)
    (h : ∀ u s', Inv X pins σ H s' → RelV v u → Q u s') : wpAny (model X.prog X.w) A (getAttr (.ref a) f b) Q E s := by
  obtain ⟨mA, O, r, _, _, _⟩ := ins_get I.hok e
  obtain ⟨u, hu, ru⟩ := RelO.some_of (v := v) (o := mA f) (by rw [← l]; exact r f)
  exact get_map I.kIn O (c.get f) c.hd n hu (handed_of ru) (h u _ (I.tok _) ru)

theorem getmeth_ok {m : Str} {g : Addr} {pl : Sem Bool} {Q : Value × List Value → Shared → Prop} (I : Inv X pins σ H s) (e : H a = some (.ins C dx fs)) (c : Cls X.K C) (k : Meth X.K C m g) (l : fs.lookup m = none)
    (h : Q (.ref g, [.ref a]) s) : wpAny (model X.prog X.w) A (getMethod (.ref a) m pl) Q E s := by
  obtain ⟨mA, O, r, _, _, _⟩ := ins_get I.hok e
  have hn : mA m = none := RelO.none_of (by rw [← l]; exact r m)
  exact get_meth I.kIn O (c.get m) k.at_ k.fn hn h

theorem setattr_ok {y : V} {u : Value} {Q : Unit → Shared → Prop} (I : Inv X pins σ H s) (e : H a = some (.ins C dx fs)) (c : Cls X.K C) (n : NoAttr X.K C f) (hl : fs.length < 1000) (ry : RelV y u)
    (h : ∀ s', Inv X pins σ (upd H a (.ins C dx (putF f y fs))) s' → Q () s') : wpAny (model X.prog X.w) A (setAttr (.ref a) f u) Q E s := by
  obtain ⟨mA, O, r, wi, _, ho⟩ := ins_get I.hok e
  have hz : (fs.map (·.1)).length ≤ sizeLine := by rw [List.length_map, sizeLine_eq]; omega
  refine set_map I.kIn O c.sa c.po n.taker c.hd wi hz fun h' O' sb => h _ ?_
  have hd : ∃ o, h'.get? dx = some o := let ⟨o, _, _, e', _⟩ := O'.ns; ⟨o, e'⟩
  refine I.write (x := a) (e := dx) (by rw [e]; exact True.intro) (.inr ho) (fun b q hb z => (sb.2 b hb).trans z) hd ?_
  refine ⟨by rw [upd_ne O.ne]; exact ho, ?_, O.ne, O'.obj, _, O'.ns, fun g => ?_, fun g hg => ?_⟩
  · have := length_putF f y fs; omega
  · show RelO ((putF f y fs).lookup g) (if g = f then some u else mA g)
    rw [lookup_putF]
    by_cases q : g = f
    · rw [if_pos q, if_pos q]; exact ry
    · rw [if_neg q, if_neg q]; exact r g
  · by_cases q : g = f
    · rw [q]; exact (keys_putF f y fs).1
    · refine (keys_putF f y fs).2 g (wi g fun z => hg ?_)
      show (if g = f then some u else mA g) = none
      rw [if_neg q]; exact z

/-- a new instance, tracked, without attributes -/
theorem Inv.made (I : Inv X pins σ H s) : Inv X pins σ (upd (upd H s.heap.objs.size (.own (s.heap.objs.size + 1))) (s.heap.objs.size + 1) (.ins C s.heap.objs.size []))
    { s with heap := (s.heap.push PySem.W.emptyDict).push (PySem.W.instObj C s.heap.objs.size) } := by
  have e1 : (s.heap.push PySem.W.emptyDict).get? s.heap.objs.size = some PySem.W.emptyDict := Heap.get?_push_size s.heap rfl
  have e2 : ((s.heap.push PySem.W.emptyDict).push (PySem.W.instObj C s.heap.objs.size)).get? (s.heap.objs.size + 1) = some (PySem.W.instObj C s.heap.objs.size) := by
    have := Heap.get?_push_size (s.heap.push PySem.W.emptyDict) (o := PySem.W.instObj C s.heap.objs.size) rfl
    rwa [Heap.size_push] at this
  have e3 : (s.heap.push PySem.W.emptyDict).Ns s.heap.objs.size (fun _ => none) := ⟨PySem.W.emptyDict, #[], _, e1, rfl, (fun e he => absurd he (by simp)), fun _ => rfl⟩
  have I1 := I.laid (a := s.heap.objs.size) (o := .own (s.heap.objs.size + 1)) (h' := s.heap.push PySem.W.emptyDict) (t' := s.toks) (fun b u q => Heap.get?_push_of_some _ q) (Nat.le_refl _) ⟨_, e1⟩
  refine I1.laid (a := s.heap.objs.size + 1) (o := .ins C s.heap.objs.size []) (t' := s.toks) (fun b u q => Heap.get?_push_of_some _ q) (Nat.le_of_eq (Heap.size_push _ _)) ?_
  have ne : s.heap.objs.size ≠ s.heap.objs.size + 1 := Nat.ne_of_lt (Nat.lt_succ_self _)
  refine ⟨by rw [upd_ne ne, upd_same], Nat.zero_le _, ne, e2, fun _ => none, (Heap.Ns1.of_empty e3).at fun o q => Heap.get?_push_of_some _ q, fun _ => True.intro, fun y hy => absurd rfl hy⟩

/-- e.f where nothing but the object is asked: through attributeBase (super) and the last hold -/
theorem attr_of {prog : Program} {w : World} {env : Env} {e : Expr} {f : Str} {pos : Pos} {s : Shared} {Q : Value → Shared → Prop} (hb : attributeBase e f env (eval e env) = eval e env)
    (h : wpAny (model prog w) A (eval e env) (fun o s₁ => wpAny (model prog w) A (getAttr o f true) Q E s₁) E s) : wpAny (model prog w) A (eval (.Attribute e f pos) env) Q E s :=
  Attribute_any_ h (by rw [arm_eval_Attribute, hb])
end

/-! ### readings and rules -/
/-- e.f, an attribute of the instance -/
def tFld (K : PySem.W.Frag) (ta : TE) (f : Str) : TE := fun σ H Q => ta σ H fun x H1 => ∃ a C dx fs v, x = .ref a ∧ H1 a = some (.ins C dx fs) ∧ Cls K C ∧ NoAttr K C f ∧ fs.lookup f = some v ∧ Q v H1
/-- e.f = value -/
def sFld (K : PySem.W.Frag) (ta tv : TE) (f : Str) : TS := fun D σ H => tv σ H fun y H1 => ta σ H1 fun x H2 => ∃ a C dx fs, x = .ref a ∧ H2 a = some (.ins C dx fs) ∧ Cls K C ∧ NoAttr K C f ∧ fs.length < 1000 ∧
  D.nx σ (upd H2 a (.ins C dx (putF f y fs)))
section
variable {X : Cx} {o e value : Expr} {f : Str} {pos pos' tpos : Pos} {ta tv : TE}
theorem pe_fld (he : PE X e ta) (hb : attributeBase e f X.env (eval e X.env) = eval e X.env) : PE X (.Attribute e f pos) (tFld X.K ta f) := by
  intro pins s σ H Q I h
  refine attr_of hb (thn (he pins s σ H _ I h) fun u s1 ⟨x, H1, I1, rx, a, C, dx, fs, v, ex, ea, c, n, l, q⟩ => ?_)
  subst ex
  obtain rfl : u = Value.ref a := rx
  exact getattr_ok I1 ea c n l fun u' s2 I2 ru => ⟨v, H1, I2, ru, q⟩
theorem ps_fld (ha : PE X o ta) (hv : PE X value tv) (hs : swapsWith value (some (.Attribute o f pos')) pos.line X.env = pure false) : PS X (.Assign [.Attribute o f pos'] value pos) (sFld X.K ta tv f) := by
  intro pins s σ H D I h
  refine plainObj_wpAny_Assign_Attribute (thn (hv pins s σ H _ I h) fun u s1 ⟨y, H1, I1, ry, q⟩ => thn (ha pins s1 σ H1 _ I1 q) fun ov s2 ⟨x, H2, I2, rx, a, C, dx, fs, ex, ea, c, n, l, q2⟩ => ?_) hs
  subst ex
  obtain rfl : ov = Value.ref a := rx
  exact setattr_ok I2 ea c n l ry fun s3 I3 => ⟨σ, _, I3, q2⟩
end

/-! ### isinstance -/
section
variable {X : Cx} {pins : List (Addr × Obj)} {σ : St} {H : Hp} {s : Shared} {A : Around} {E : Value → Shared → Prop} {Q : Value → Shared → Prop} {c : Value} {b : Bool}
/-- the type of a value, as the fragment's deciders take it; for an instance its class -/
inductive TyOf (K : PySem.W.Frag) (H : Hp) : V → Value → Prop where
  | non : TyOf K H .non (.type "NoneType")
  | bl (x : Bool) : TyOf K H (.bl x) (.type "bool")
  | int (i : Int) : TyOf K H (.int i) (.type "int")
  | str (x : Str) : TyOf K H (.str x) (.type "str")
  | flt (x : UInt64) : TyOf K H (.flt x) (.type "float")
  | lst {a : Addr} {xs : List V} (e : H a = some (.lst xs)) : TyOf K H (.ref a) (.type "list")
  | frz {a : Addr} {o : Obj} {xs : List V} (e : H a = some (.frz o (.lst xs))) : TyOf K H (.ref a) (.type "list")
  | tup {a : Addr} {xs : List V} (e : H a = some (.tup xs)) : TyOf K H (.ref a) (.type "tuple")
  | dK {a : Addr} {kvs : List (Key × V)} (e : H a = some (.dK kvs)) : TyOf K H (.ref a) (.type "dict")
  | dT {a : Addr} {kvs : List (List Key × V)} (e : H a = some (.dT kvs)) : TyOf K H (.ref a) (.type "dict")
  | ins {a C dx : Addr} {fs : List (Str × V)} (e : H a = some (.ins C dx fs)) (cl : Cls K C) (ha : PySem.W.findIn K (.ref C) "__class__" = some (some (.builtin "object.__class__")))
      (hn : PySem.W.specialIn K (.builtin "object.__class__") "__get__" = some (some (.builtin "getset_descriptor.__get__"))) (htk : PySem.W.takesIn K (.builtin "object.__class__") = some true)
      (hm : PySem.W.mroIn K C (.type "object") = some true) : TyOf K H (.ref a) (.ref C)
/-- isinstance(x, c) for one class c, a built-in or an own one: kitOne's answer -/
theorem isinst_ok {x : V} {u t : Value} (I : Inv X pins σ H s) (rx : RelV x u) (ty : TyOf X.K H x t) (e : PySem.W.kitOne X.K t c = some b) (h : ∀ tk, Q (.bool b) { s with toks := tk }) :
    wpAny (model X.prog X.w) A (call (.builtin "isinstance") [u, c]) Q E s := by
  cases ty with
  | non => cases (show u = Value.none from rx); exact PySem.W.kia_one PySem.W.kitx_none I.kIn True.intro e (fun z => nomatch z) h
  | bl y => cases (show u = Value.bool y from rx); exact PySem.W.kia_one PySem.W.kitx_bool I.kIn True.intro e (fun z => nomatch z) h
  | int i => obtain ⟨t, q⟩ := (show ∃ t, u = Value.int i t from rx); cases q; exact PySem.W.kia_one PySem.W.kitx_int I.kIn True.intro e (fun z => nomatch z) h
  | str y => obtain ⟨t, q⟩ := (show ∃ t, u = Value.str y t from rx); cases q; exact PySem.W.kia_one PySem.W.kitx_str I.kIn True.intro e (fun z => nomatch z) h
  | flt y => obtain ⟨t, q⟩ := (show ∃ t, u = Value.float y t from rx); cases q; exact PySem.W.kia_one PySem.W.kitx_float I.kIn True.intro e (fun z => nomatch z) h
  | @lst a xs ea =>
    cases (show u = Value.ref a from rx)
    obtain ⟨_, _, n, _, h1⟩ := (show ObjOk X.prog X.w H s.heap a (.lst xs) from I.hok a _ ea)
    exact PySem.W.kia_one PySem.W.kitx_list I.kIn ⟨_, h1, rfl⟩ e (fun z => nomatch z) h
  | @frz a ob xs ea =>
    cases (show u = Value.ref a from rx)
    obtain ⟨_, _, _, n, _, h1⟩ := (show ObjOk X.prog X.w H s.heap a (.frz ob (.lst xs)) from I.hok a _ ea)
    exact PySem.W.kia_one PySem.W.kitx_list I.kIn ⟨_, h1, rfl⟩ e (fun z => nomatch z) h
  | @tup a xs ea =>
    cases (show u = Value.ref a from rx)
    obtain ⟨_, _, _, p⟩ := (show ObjOk X.prog X.w H s.heap a (.tup xs) from I.hok a _ ea)
    obtain ⟨o, h1, h2, _⟩ := p
    exact PySem.W.kia_one PySem.W.kitx_tuple I.kIn ⟨o, h1, h2⟩ e (fun z => nomatch z) h
  | @dK a kvs ea =>
    cases (show u = Value.ref a from rx)
    obtain ⟨_, _, vs, _, p⟩ := (show ObjOk X.prog X.w H s.heap a (.dK kvs) from I.hok a _ ea)
    obtain ⟨o, es, ep, h1, h2, _⟩ := p
    exact PySem.W.kia_one PySem.W.kitx_dict I.kIn ⟨o, h1, h2.1⟩ e (fun z => nomatch z) h
  | @dT a kvs ea =>
    cases (show u = Value.ref a from rx)
    obtain ⟨_, _, xs, _, o, es, ep, h1, h2, _⟩ := (show ObjOk X.prog X.w H s.heap a (.dT kvs) from I.hok a _ ea)
    exact PySem.W.kia_one PySem.W.kitx_dict I.kIn ⟨o, h1, h2.1⟩ e (fun z => nomatch z) h
  | @ins a C dx fs ea cl ha hn htk hm =>
    cases (show u = Value.ref a from rx)
    obtain ⟨mA, O, _⟩ := ins_get I.hok ea
    obtain ⟨od, J, _⟩ := O.look
    exact PySem.W.kia_one (PySem.W.kitx_own (cl.get _) cl.hd ha hn htk hm) I.kIn J e (fun z => nomatch z) h
end
end L2

namespace L2
open PySem PySem.Spec PyProof.Rows

/-! ### room -/
structure Room (k : Nat) (A : Around) : Prop where
  hd : A.handled = none
  dp : A.depth + 3 * k + 5 < recursionLimit
  un : A.units + 16 * k + 200 < cLine
theorem Room.mono {j k : Nat} {A : Around} (r : Room k A) (h : j ≤ k) : Room j A := ⟨r.hd, by have := r.dp; omega, by have := r.un; omega⟩
theorem Room.deeper {k : Nat} {A : Around} (r : Room (k + 1) A) (env : Env) : Room k (A.deeper env) :=
  ⟨r.hd, by have := r.dp; show A.depth + 1 + 3 * k + 5 < _; omega, by have := r.un; show A.units + 3 + 16 * k + 200 < _; omega⟩
theorem make_depth {A : Around} {C : Addr} {us : List Value} {kw : List (Str × Value)} : (A.under (.builtin "type.__call__" ⟨.ref C :: us, kw⟩)).depth = A.depth + 1 := by
  first | rfl | simp [Around.under, Code.weight, Code.isCreation, Code.isGuard, Code.isCaller, Code.frames, Code.isFrame, guardIds]
theorem make_units {A : Around} {C : Addr} {us : List Value} {kw : List (Str × Value)} : (A.under (.builtin "type.__call__" ⟨.ref C :: us, kw⟩)).units = A.units + 1 := by
  first | rfl | simp [Around.under, Code.cUnits, Code.frames, Code.isFrame]
theorem Room.make {k : Nat} {A : Around} (r : Room (k + 1) A) (C : Addr) (us : List Value) (kw : List (Str × Value)) : Room k (A.under (.builtin "type.__call__" ⟨.ref C :: us, kw⟩)) :=
  ⟨r.hd, by have := r.dp; rw [make_depth]; omega, by have := r.un; rw [make_units]; omega⟩
theorem Room.depth {k : Nat} {A : Around} (r : Room k A) : A.depth < recursionLimit := by have := r.dp; omega
theorem Room.units0 {k : Nat} {A : Around} (r : Room k A) : A.units < cLine := by have := r.un; omega

/-! ### argument lists and displays -/
def tNil : TA := fun _ H Q => Q [] H
def tCons (ta : TE) (tr : TA) : TA := fun σ H Q => ta σ H fun x H1 => tr σ H1 fun xs H2 => Q (x :: xs) H2
section
variable {X : Cx} {e : Expr} {es : List Expr} {te : TE} {t : TA} {pos : Pos}
theorem pa_nil : PA X [] tNil := fun _ _ _ _ H Q I h => Calls.spliced_nil ⟨[], H, I, .nil, h⟩
theorem pa_cons (ha : PE X e te) (hr : PA X es t) (hs : starEach (e :: es) X.env = (false, eval e X.env) :: starEach es X.env := by rfl) : PA X (e :: es) (tCons te t) := by
  intro pos pins s σ H Q I h
  rw [hs]
  show wpAny _ _ (spliced ((false, eval e X.env) :: backTo pos (starEach es X.env))) _ _ s
  refine Calls.spliced_cons (thn (ha pins s σ H _ I h) fun u s1 ⟨x, H1, I1, r1, q1⟩ => ?_)
  exact thn (hr pos pins s1 σ H1 _ I1 q1) fun us s2 ⟨xs, H2, I2, r2, q2⟩ => ⟨x :: xs, H2, I2, .cons r1 r2, q2⟩

/-- a tuple, a list of written items -/
def tTup (t : TA) : TE := fun σ H Q => t σ H fun xs H1 => xs.length ≤ sizeLine ∧ ∀ p, H1 p = none → Q (.ref p) (upd H1 p (.tup xs))
def tLst (t : TA) : TE := fun σ H Q => t σ H fun xs H1 => xs.length ≤ sizeLine ∧ ∀ p, H1 p = none → Q (.ref p) (upd H1 p (.lst xs))
theorem pe_tup {x1} (h : PA X es t) : PE X (.Tuple es x1 pos) (tTup t) := by
  intro pins s σ H Q I hq
  refine wpAny_Tuple_spliced (thn (h pos pins s σ H _ I hq) fun us s1 ⟨xs, H1, I1, r, z, q⟩ => ⟨by rw [← r.length]; exact z, ?_⟩)
  have hf : H1 s1.heap.objs.size = none := I1.hok.fresh (Nat.le_refl _)
  refine ⟨.ref s1.heap.objs.size, upd H1 s1.heap.objs.size (.tup xs), I1.laid (t' := s1.toks) (fun b u e => Heap.get?_push_of_some _ e) (Nat.le_refl _) ?_, rfl, q _ hf⟩
  exact ⟨z, us, r, ⟨_, Heap.get?_push_size _ rfl, rfl, _, rfl⟩⟩
theorem pe_lst (h : PA X es t) : PE X (.List es pos) (tLst t) := by
  intro pins s σ H Q I hq
  refine wpAny_List_spliced (thn (h pos pins s σ H _ I hq) fun us s1 ⟨xs, H1, I1, r, z, q⟩ => ⟨by rw [← r.length]; exact z, ?_⟩)
  have hf : H1 s1.heap.objs.size = none := I1.hok.fresh (Nat.le_refl _)
  refine ⟨.ref s1.heap.objs.size, upd H1 s1.heap.objs.size (.lst xs), I1.laid (t' := s1.toks) (fun b u e => Heap.get?_push_of_some _ e) (Nat.le_refl _) ?_, rfl, q _ hf⟩
  exact ⟨z, us, 0, r, Heap.get?_push_size _ rfl⟩
end

/-! ### what a def promises -/
/-- a def's promise: the bound arguments in the parameters' order, the heap, the wanted end, the wanted exception -/
abbrev Sp := List V → Hp → VK → XK → Prop
/-- how an exception lies behind a call (file 08 gives it): the callers' frames, abstract heap and state ahead of the call, the wish, the exception, the state -/
abbrev CXT := List Env → Hp → Shared → XK → Value → Shared → Prop

/-- the state at a call -/
structure Env0 (P : Program) (w : World) (K : PySem.W.Frag) (mg : Str → Option Value) (base : Heap) (A : Around) (outer : List Env) (s : Shared) (H : Hp) : Prop where
  frames : A.frames = some outer
  mod : Mod K mg base
  bs : ∀ b o, base.get? b = some o → s.heap.get? b = some o ∧ H b = none
  bsz : base.objs.size ≤ s.heap.objs.size
  funs : s.heap.FunFrames base outer
  frf : ∀ b ∈ frs outer, H b = none
  hok : HOk P w H s.heap
  bare : AllBare s.gens
/-- a call's end -/
def CE (outer : List Env) (P : Program) (w : World) (H : Hp) (s : Shared) (Q : VK) (u : Value) (s' : Shared) : Prop :=
  ∃ v H', s'.os = s.os ∧ AllBare s'.gens ∧ Un (frs outer) [] H H' s.heap s'.heap ∧ HOk P w H' s'.heap ∧ RelV v u ∧ Q v H'
def CR (CX : CXT) (outer : List Env) (P : Program) (w : World) (H : Hp) (s : Shared) (Q : VK) (E : XK) (r : Result) (s' : Shared) : Prop :=
  match r with
  | .ok (.ret u) => CE outer P w H s Q u s'
  | .ok _ => False
  | .error e => CX outer H s E e s'
structure FnOk (P : Program) (w : World) (K : PySem.W.Frag) (mg : Str → Option Value) (base : Heap) (CX : CXT) (k : Nat) (f : Addr) (fd : FuncData) (ps : List Str) (sp : Sp) : Prop where
  len : ∀ vs H Q E, sp vs H Q E → vs.length = ps.length
  run : ∀ (A : Around) (outer : List Env) (s : Shared) (H : Hp) (args : Args) (us : List Value) (vs : List V) (Q : VK) (E : XK), Room k A → Env0 P w K mg base A outer s H → BindsTo s fd args (ps.zip us) → Vals vs us → sp vs H Q E →
    codeAny (model P w) A (.call (.ref f) args) (CR CX outer P w H s Q E) s
theorem FnOk.mono {P : Program} {w : World} {K : PySem.W.Frag} {mg : Str → Option Value} {base : Heap} {CX : CXT} {j k : Nat} {f : Addr} {fd : FuncData} {ps : List Str} {sp : Sp} (F : FnOk P w K mg base CX j f fd ps sp) (h : j ≤ k) :
    FnOk P w K mg base CX k f fd ps sp := ⟨F.len, fun A outer s H args us vs Q E hr => F.run A outer s H args us vs Q E (hr.mono h)⟩
theorem Env0.make {P : Program} {w : World} {K : PySem.W.Frag} {mg : Str → Option Value} {base : Heap} {A : Around} {outer : List Env} {s : Shared} {H : Hp} (e : Env0 P w K mg base A outer s H) (C : Addr) (us : List Value) (kw : List (Str × Value)) :
    Env0 P w K mg base (A.under (.builtin "type.__call__" ⟨.ref C :: us, kw⟩)) outer s H := ⟨by first | exact e.frames | (simpa [Around.under, Code.envs, Code.isFrame, pushEnvs] using e.frames), e.mod, e.bs, e.bsz, e.funs, e.frf, e.hok, e.bare⟩
section
variable {X : Cx} {pins : List (Addr × Obj)} {σ : St} {H : Hp} {s s' : Shared}
/-- from a body: what a callee wants -/
theorem Inv.env0 (I : Inv X pins σ H s) : Env0 X.prog X.w X.K X.mg X.base X.A X.stack s H :=
  ⟨I.ok.frames, I.ok.mod, I.bs, Nat.le_trans I.ok.bsz I.sz, I.stack, I.stkFree, I.hok, I.bare⟩
/-- behind a call -/
theorem Inv.after {Q : VK} {u : Value} (I : Inv X pins σ H s) (h : CE X.stack X.prog X.w H s Q u s') : EP X pins σ Q u s' := by
  obtain ⟨v, H', os, bare, un, hok, r, q⟩ := h
  obtain ⟨hh, g, d, t, os'⟩ := s'
  obtain rfl : os' = s.os := os
  exact ⟨v, H', I.call (h' := hh) (g' := g) (d' := d) (t' := t) (ch := []) un hok bare (fun b z => absurd z (by simp)), r, q⟩
end

/-! ### calls -/
/-- f(..): the written arguments, then the defaults dvs; E: what is wanted of an exception -/
def tCall (sp : Sp) (dvs : List V) (E : XK) (t : TA) : TE := fun σ H Q => t σ H fun vs H1 => sp (vs ++ dvs) H1 Q E
/-- C(..): a new instance and its dict, then __init__ -/
def tMake (C : Addr) (sp : Sp) (dvs : List V) (E : XK) (t : TA) : TE := fun σ H Q => t σ H fun vs H1 => ∀ x dx, H1 x = none → H1 dx = none → dx ≠ x →
  sp (.ref x :: (vs ++ dvs)) (upd (upd H1 dx (.own x)) x (.ins C dx [])) (fun v H2 => v = .non ∧ Q (.ref x) H2) E

/-- how the parameters are bound: us the positional arguments, kw the keywords' values by name, ds the defaults that fill up -/
def Binds (K : PySem.W.Frag) (fd : FuncData) (ps : List Str) (ds : List Value) : Prop :=
  ∀ (s : Shared) (us : List Value), K.In s.heap → (us ++ ds).length = ps.length → BindsTo s fd ⟨us, []⟩ (ps.zip (us ++ ds))
/-- every parameter is given -/
theorem Binds.all {K : PySem.W.Frag} {fd : FuncData} {ps : List Str} (h : ∀ us : List Value, us.length = ps.length → bindArgs fd ⟨us, []⟩ = pure (ps.zip us)) : Binds K fd ps [] := fun s us _ hl => by
  rw [List.append_nil] at hl ⊢
  exact .of_eq (h us hl)

/-- an exception of a callee reaches what this body wants of exceptions -/
def Passes (CX : CXT) (X : Cx) (E : XK) : Prop := ∀ (pins : List (Addr × Obj)) (σ : St) (H : Hp) (s : Shared) (e : Value) (s' : Shared), Inv X pins σ H s → CX X.stack H s E e s' → X.xe e s'

section
variable {X : Cx} {CX : CXT} {k : Nat} {f C : Addr} {fd : FuncData} {ps : List Str} {sp : Sp} {dvs : List V} {ds : List Value} {E : XK} {x m : Str} {p pos apos : Pos} {e o : Expr} {es : List Expr} {ta : TE} {t : TA}

/-- the callee runs -/
theorem run_fn {pins : List (Addr × Obj)} {σ : St} {H : Hp} {s : Shared} {Q : VK} {us : List Value} {vs : List V} (F : FnOk X.prog X.w X.K X.mg X.base CX k f fd ps sp) (hr : Room k X.A) (hb : Binds X.K fd ps ds) (hd : Vals dvs ds) (hx : Passes CX X E)
    (I : Inv X pins σ H s) (r : Vals vs us) (h : sp (vs ++ dvs) H Q E) : wpAny (model X.prog X.w) X.A (call (.ref f) us) (EP X pins σ Q) X.xe s := by
  have r2 : Vals (vs ++ dvs) (us ++ ds) := r.append hd
  have hl : (us ++ ds).length = ps.length := by rw [← r2.length]; exact F.len _ _ _ _ h
  refine wpAny_call (codeAny_mono (F.run X.A X.stack s H ⟨us, []⟩ (us ++ ds) (vs ++ dvs) Q E hr I.env0 (hb s us I.kIn hl) r2 h) fun r s' hq => ?_)
  cases r with
  | error e => exact hx pins σ H s e s' I hq
  | ok fl =>
    cases fl with
    | ret u => exact I.after hq
    | next => exact False.elim hq
    | brk => exact False.elim hq
    | cont => exact False.elim hq

theorem pe_call (F : FnOk X.prog X.w X.K X.mg X.base CX k f fd ps sp) (hr : Room k X.A) (hg : Gl X x) (hm : X.mg x = some (.ref f)) (hk : PySem.W.keepIn X.K (.ref f) = true) (hb : Binds X.K fd ps ds) (hd : Vals dvs ds) (hx : Passes CX X E)
    (ha : PA X (e :: es) t) (hdb : (x == ("__debug__" : Str)) = false := by decide) (he : starEach (e :: es) X.env = (false, eval e X.env) :: starEach es X.env := by rfl) (hpl : (backTo pos (starEach es X.env)).any (·.1) = false := by rfl) :
    PE X (.Call (.Name x p) (e :: es) [] pos) (tCall sp dvs E t) := by
  intro pins s σ H Q I h
  refine wpAny_Call_Name_kw (ld_glob I hg hm ?_ hdb)
  refine PySem.W.callWith_K (h₀ := X.base) I.ok.mod.kin hk (thn (ha pos pins s σ H _ I h) fun us s1 ⟨vs, H1, I1, r, q⟩ => ⟨I1.kIn, ?_⟩) he hpl
  exact run_fn F hr hb hd hx I1 r q
/-- what a class must have to be made -/
structure Mk (K : PySem.W.Frag) (C f : Addr) : Prop where
  makes : PySem.W.makesIn K C = true
  init : PySem.W.findIn K (.ref C) "__init__" = some (some (.ref f))
  fn : PySem.W.isFn K (.ref f) = true
  kp : PySem.W.keepIn K (.ref C) = true

theorem run_make {pins : List (Addr × Obj)} {σ : St} {H : Hp} {s : Shared} {Q : VK} {us : List Value} {vs : List V} (M : Mk X.K C f) (F : FnOk X.prog X.w X.K X.mg X.base CX k f fd ps sp) (hr : Room (k + 1) X.A) (hb : Binds X.K fd ps ds) (hd : Vals dvs ds)
    (hx : Passes CX X E) (I : Inv X pins σ H s) (r : Vals vs us)
    (h : ∀ x dx, H x = none → H dx = none → dx ≠ x → sp (.ref x :: (vs ++ dvs)) (upd (upd H dx (.own x)) x (.ins C dx [])) (fun v H2 => v = .non ∧ Q (.ref x) H2) E) :
    wpAny (model X.prog X.w) X.A (call (.ref C) us) (EP X pins σ Q) X.xe s := by
  have hq := h (s.heap.objs.size + 1) s.heap.objs.size (I.hok.fresh (Nat.le_succ _)) (I.hok.fresh (Nat.le_refl _)) (Nat.ne_of_lt (Nat.lt_succ_self _))
  have I2 := Inv.made (C := C) I
  have r2 : Vals (V.ref (s.heap.objs.size + 1) :: (vs ++ dvs)) (Value.ref (s.heap.objs.size + 1) :: (us ++ ds)) := .cons rfl (r.append hd)
  have hl : (Value.ref (s.heap.objs.size + 1) :: us ++ ds).length = ps.length := by
    have e := r2.length
    rw [F.len _ _ _ _ hq] at e
    exact e.symm
  refine wpAny_call (make_map (f := f) I.kIn M.makes M.init (beq_iff_eq.mp M.fn) (codeAny_mono (F.run _ X.stack _ _ ⟨Value.ref (s.heap.objs.size + 1) :: us, []⟩ (Value.ref (s.heap.objs.size + 1) :: (us ++ ds)) _ _ E (hr.make C us [])
    (I2.env0.make C us []) (hb _ (Value.ref (s.heap.objs.size + 1) :: us) I2.kIn hl) r2 hq) fun r s' hq' => ?_))
  cases r with
  | error e => exact hx pins σ _ _ e s' I2 hq'
  | ok fl =>
    cases fl with
    | ret u =>
      obtain ⟨v, H', I3, rv, ev, q3⟩ := I2.after hq'
      subst ev
      exact ⟨rv, ⟨V.ref (s.heap.objs.size + 1), H', I3, rfl, q3⟩⟩
    | next => exact False.elim hq'
    | brk => exact False.elim hq'
    | cont => exact False.elim hq'
theorem pe_make (M : Mk X.K C f) (F : FnOk X.prog X.w X.K X.mg X.base CX k f fd ps sp) (hr : Room (k + 1) X.A) (hg : Gl X x) (hm : X.mg x = some (.ref C)) (hb : Binds X.K fd ps ds) (hd : Vals dvs ds) (hx : Passes CX X E)
    (ha : PA X (e :: es) t) (hdb : (x == ("__debug__" : Str)) = false := by decide) (he : starEach (e :: es) X.env = (false, eval e X.env) :: starEach es X.env := by rfl) (hpl : (backTo pos (starEach es X.env)).any (·.1) = false := by rfl) :
    PE X (.Call (.Name x p) (e :: es) [] pos) (tMake C sp dvs E t) := by
  intro pins s σ H Q I h
  refine wpAny_Call_Name_kw (ld_glob I hg hm ?_ hdb)
  refine PySem.W.callWith_K (h₀ := X.base) I.ok.mod.kin M.kp (thn (ha pos pins s σ H _ I h) fun us s1 ⟨vs, H1, I1, r, q⟩ => ⟨I1.kIn, ?_⟩) he hpl
  exact run_make M F hr hb hd hx I1 r q
end

/-! ### keywords -/
section
variable {X : Cx} {CX : CXT} {k : Nat} {f C : Addr} {fd : FuncData} {ps ks : List Str} {sp : Sp} {E : XK} {x m : Str} {p pos apos kpos : Pos} {e o : Expr} {es : List Expr} {kws : List Keyword} {te ta : TE} {t tk : TA} {nm : Option Str}
variable {g : List Value → List Value → List Value} {gV : List V → List V → List V}
end

/-! ### a def's body keeps its promise -/
/-- names: the parameters first -/
structure FnScope (N P : List Str) (sc : Scope) : Prop where
  kind : sc.kind = .function
  co : sc.isCoroutine = false
  gen : sc.isGenerator = false
  nd : N.Nodup
  pre : N.take P.length = P
  par : ∀ x ∈ P, sc.names.lookup x = some .local ∨ sc.names.lookup x = some .cell
  nofree : ∀ y ∈ sc.names, y.2 ≠ .free

theorem bindL_out {kindOf : Str → Option NameKind} {x : Str} : ∀ {binds : List (Str × Value)} {m : Str → Option Value}, (∀ v, (x, v) ∉ binds) → bindL kindOf binds m x = m x
  | [], _, _ => rfl
  | (n, v) :: r, m, h => by
    unfold bindL
    rw [bindL_out fun w hw => h w (List.mem_cons_of_mem _ hw)]
    split
    · have : x ≠ n := by rintro rfl; exact h v List.mem_cons_self
      simp [this]
    · rfl
theorem bindC_out {kindOf : Str → Option NameKind} {x : Str} : ∀ {binds : List (Str × Value)} {m : Str → Option Value}, (∀ v, (x, v) ∉ binds) → bindC kindOf binds m x = m x
  | [], _, _ => rfl
  | (n, v) :: r, m, h => by
    unfold bindC
    rw [bindC_out fun w hw => h w (List.mem_cons_of_mem _ hw)]
    split
    · rfl
    · have : x ≠ n := by rintro rfl; exact h v List.mem_cons_self
      simp [this]
theorem bindL_get {kindOf : Str → Option NameKind} {x : Str} {v : Value} : ∀ {P : List Str} {vs : List Value} {i : Nat} {m : Str → Option Value}, P.Nodup → P[i]? = some x → vs[i]? = some v → kindOf x = some .local →
    bindL kindOf (P.zip vs) m x = some v
  | [], _, _, _, _, h, _, _ => by simp at h
  | _ :: _, [], _, _, _, _, h, _ => by simp at h
  | p :: P, w :: vs, 0, m, nd, h1, h2, hk => by
    simp at h1 h2; subst h1; subst h2
    show bindL kindOf ((p, w) :: P.zip vs) m p = _
    unfold bindL
    rw [bindL_out fun v hv => (List.nodup_cons.mp nd).1 (List.of_mem_zip hv).1, if_pos hk]
    simp
  | p :: P, w :: vs, i + 1, m, nd, h1, h2, hk => by
    show bindL kindOf ((p, w) :: P.zip vs) m x = _
    unfold bindL
    exact bindL_get (i := i) (List.nodup_cons.mp nd).2 (by simpa using h1) (by simpa using h2) hk
theorem bindC_get {kindOf : Str → Option NameKind} {x : Str} {v : Value} : ∀ {P : List Str} {vs : List Value} {i : Nat} {m : Str → Option Value}, P.Nodup → P[i]? = some x → vs[i]? = some v → kindOf x ≠ some .local →
    bindC kindOf (P.zip vs) m x = some v
  | [], _, _, _, _, h, _, _ => by simp at h
  | _ :: _, [], _, _, _, _, h, _ => by simp at h
  | p :: P, w :: vs, 0, m, nd, h1, h2, hk => by
    simp at h1 h2; subst h1; subst h2
    show bindC kindOf ((p, w) :: P.zip vs) m p = _
    unfold bindC
    rw [bindC_out fun v hv => (List.nodup_cons.mp nd).1 (List.of_mem_zip hv).1, if_neg hk]
    simp
  | p :: P, w :: vs, i + 1, m, nd, h1, h2, hk => by
    show bindC kindOf ((p, w) :: P.zip vs) m x = _
    unfold bindC
    exact bindC_get (i := i) (List.nodup_cons.mp nd).2 (by simpa using h1) (by simpa using h2) hk

/-- the names' values at the entry -/
def start (N : List Str) (vs : List V) : St := vs.map some ++ List.replicate (N.length - vs.length) none

/-- the context of a def's body, at its entry; an exception leaves the frame, then lies as CX says -/
def cxOf (CX : CXT) (P : Program) (w : World) (K : PySem.W.Frag) (mg : Str → Option Value) (base : Heap) (N : List Str) (qual : Str) (scope : Scope) (f : Addr) (cd : Value) (A : Around) (outer : List Env) (s : Shared) (H : Hp) (E : XK) : Cx where
  prog := P
  w := w
  K := K
  mg := mg
  base := base
  A := A.deeper (envOfC qual scope s.heap.objs.size f cd)
  N := N
  s₀ := s
  H₀ := H
  env := envOfC qual scope s.heap.objs.size f cd
  outer := outer
  stack := envOfC qual scope s.heap.objs.size f cd :: outer
  ex := []
  calm := true
  fn := fun _ => true
  pn := []
  xe := fun e s' => wpAny (model P w) (A.deeper (envOfC qual scope s.heap.objs.size f cd)) (leaving (envOfC qual scope s.heap.objs.size f cd) e) (fun _ s'' => CX outer H s E e s'') (fun e' s'' => CX outer H s E e' s'') s'

theorem cell_has {sc : Scope} {n : Nat} {x : Str} (h : sc.names.lookup x = some .cell) : ∃ c, (cellsFrom n sc.names []).lookup x = some c := by
  have q := PySem.W.cellsFrom_some sc.names n [] (.inl h)
  exact Option.isSome_iff_exists.mp q

theorem inv_start {CX : CXT} {P : Program} {w : World} {K : PySem.W.Frag} {mg : Str → Option Value} {base : Heap} {N ps : List Str} {qual : Str} {scope : Scope} {f : Addr} {cd : Value} {A : Around} {outer : List Env} {s s1 : Shared} {H : Hp} {E : XK} {us : List Value} {vs : List V}
    (S : FnScope N ps scope) (hd : A.handled = none) (e0 : Env0 P w K mg base A outer s H) (hl : vs.length = ps.length) (r : Vals vs us)
    (x : InCallC s s.heap.objs.size (bindL (envOfC qual scope s.heap.objs.size f cd).kindOf (ps.zip us) fun _ => none) (cellsFrom (s.heap.objs.size + 1) scope.names []) (bindC (envOfC qual scope s.heap.objs.size f cd).kindOf (ps.zip us) fun _ => none) s1) :
    Inv (cxOf CX P w K mg base N qual scope f cd A outer s H E) [] (start N vs) H s1 := by
  have hpl : ps.length ≤ N.length := by have := congrArg List.length S.pre; rw [List.length_take] at this; omega
  obtain ⟨h1, tk, rfl, hk⟩ := x.done
  have noA : ∀ b : Addr, b ∉ (cxOf CX P w K mg base N qual scope f cd A outer s H E).ex := fun b z => absurd (show b ∈ ([] : List Addr) from z) (by simp)
  refine ⟨⟨e0.mod, S.kind, rfl, rfl, Nat.le_refl _, fun y z c h1 h2 => ?_, fun y hy => ?_, fun y c _ h => ?_, fun _ => hd, Around.frames_deeper e0.frames, .inr ⟨rfl, rfl⟩, fun b z => absurd z (noA b), e0.bs, e0.bsz, fun b _ _ => noA b, fun b z => absurd z (noA b), e0.funs, e0.frf⟩,
    rfl, e0.bare, Un.kept hk, ⟨_, x.toInCall.ns, fun i y v h1 h2 h3 => ?_⟩, fun y c h => ⟨_, x.cell y c h⟩, e0.hok.fresh (Nat.le_refl _), fun y c h => ?_, fun p hp => absurd (show p ∈ ([] : List (Addr × Obj)) from hp) (by simp), e0.hok.kept hk, ?_⟩
  · exact name_of_addr x.apart (PySem.mem_of_lookup h1) (PySem.mem_of_lookup h2)
  · have hy : scope.names.lookup y = some .cell ∨ scope.names.lookup y = some .free := hy
    rcases hy with hy | hy
    · exact cell_has hy
    · exact absurd rfl (S.nofree _ (PySem.mem_of_lookup hy))
  · exact Nat.le_of_lt (x.above y c (PySem.mem_of_lookup h))
  · have hi : i < vs.length := by
      unfold start at h2
      by_cases hi : i < vs.length
      · exact hi
      · rw [List.getElem?_append_right (by simpa using hi)] at h2
        rw [List.getElem?_replicate] at h2
        split at h2 <;> cases h2
    have ha : vs[i]? = some v := by
      unfold start at h2
      rw [List.getElem?_append_left (by simpa using hi), List.getElem?_map] at h2
      cases e : vs[i]? with
      | none => rw [e] at h2; cases h2
      | some a => rw [e] at h2; cases h2; rfl
    obtain ⟨u, hu, rv⟩ := r.get ha
    have hp : ps[i]? = some y := by
      rw [← S.pre, List.getElem?_take_of_lt (by omega)]; exact h1
    have ndP : ps.Nodup := by rw [← S.pre]; exact S.nd.sublist (List.take_sublist _ _)
    refine ⟨u, rv, ?_⟩
    rcases S.par y (List.mem_of_getElem? hp) with k | k
    · exact .inl ⟨k, bindL_get ndP hp hu k⟩
    · obtain ⟨c, e⟩ := cell_has (n := s.heap.objs.size + 1) k
      refine .inr ⟨.inl k, c, e, ?_⟩
      have q := x.cell y c e
      rw [bindC_get ndP hp hu (by show scope.names.lookup y ≠ _; rw [k]; decide)] at q
      exact q
  · exact e0.hok.fresh (Nat.le_of_lt (x.above y c (PySem.mem_of_lookup h)))
  · unfold start
    show _ = N.length
    rw [List.length_append, List.length_map, List.length_replicate]
    omega

/-- THE RULE: a def (or a method) of the text, by its body. The body's reading t is chosen for each entry; it is run at the parameters' values -/
theorem fn_of {CX : CXT} {P : Program} {w : World} {K : PySem.W.Frag} {mg : Str → Option Value} {base : Heap} {k : Nat} {f : Addr} {name qual : Str} {params : Arguments} {body : List Stmt} {scope : Scope} {dV kV doc pm cdv ct oc : Value} {an od : Option Addr}
    {osl : Array (Option Value)} {N ps : List Str} {sp : Sp} (lk : K.lookup f = some ⟨oc, od, .func (PySem.W.fnOf name qual params body scope dV kV doc pm an cdv ct), osl⟩) (hcd : PySem.W.codeIn K cdv qual = true) (S : FnScope N ps scope)
    (len : ∀ vs H Q E, sp vs H Q E → vs.length = ps.length)
    (hbody : ∀ (A : Around) (outer : List Env) (s : Shared) (H : Hp) (vs : List V) (Q : VK) (E : XK), Room k (A.deeper (envOfC qual scope s.heap.objs.size f cdv)) → sp vs H Q E →
      ∃ t, PSs (cxOf CX P w K mg base N qual scope f cdv A outer s H E) body t ∧ t { nx := fun _ H' => Q .non H', rt := Q } (start N vs) H) :
    FnOk P w K mg base CX (k + 1) f (PySem.W.fnOf name qual params body scope dV kV doc pm an cdv ct) ps sp := by
  refine ⟨len, fun A outer s H args us vs Q E hr e0 hb r hsp => ?_⟩
  have hl := len _ _ _ _ hsp
  have KX : K.In s.heap := e0.mod.kin.keeps fun b o e => (e0.bs b o e).1
  have lim : s.heap.NoLimit := e0.mod.nolimit.keeps fun b o e => (e0.bs b o e).1
  have hkind : ∀ y ∈ ps.zip us, scope.names.lookup y.1 = some .local ∨ (scope.names.lookup y.1 = some .cell ∧ ((cellsFrom (s.heap.objs.size + 1) scope.names []).lookup y.1).isSome = true) := fun ⟨n, v⟩ hy => by
    rcases S.par n (List.of_mem_zip hy).1 with q | q
    · exact .inl q
    · exact .inr ⟨q, PySem.W.cellsFrom_some _ _ _ (.inl q)⟩
  refine codeAny_call_function hr.depth (KX _ _ lk) rfl S.co S.gen rfl (PySem.W.codeRec_of KX hcd) (hb _ _ _ _ ?_)
  refine wpAny_newFunctionEnv_cells S.kind hkind fun env he s1 x => ?_
  subst he
  refine ⟨lim.keeps x.toInCall.keep, codeAny_func ?_⟩
  obtain ⟨t, ht, hq⟩ := hbody A outer s H vs Q E (hr.deeper _) hsp
  have I : Inv (cxOf CX P w K mg base N qual scope f cdv A outer s H E) [] (start N vs) H s1 := inv_start S hr.hd e0 hl r x
  refine wpAny_mono (ht [] s1 (start N vs) H _ I hq) (fun fl s' hs => ?_) fun e s' hs => hs
  have fin : ∀ {σ' : St} {H' : Hp} {v : V} {u : Value}, Inv (cxOf CX P w K mg base N qual scope f cdv A outer s H E) [] σ' H' s' → RelV v u → Q v H' → CE outer P w H s Q u s' :=
    fun {σ' H' v u} J rv q => ⟨v, H', J.os, J.bare, J.base, J.hok, rv, q⟩
  cases fl with
  | ret u =>
    obtain ⟨v, σ', H', J, rv, q⟩ := hs
    exact fin J rv q
  | next =>
    obtain ⟨σ', H', J, q⟩ := hs
    exact fin (v := V.non) (u := Value.none) J rfl q
  | brk =>
    obtain ⟨_, _, _, q⟩ := hs
    exact False.elim q
  | cont =>
    obtain ⟨_, _, _, q⟩ := hs
    exact False.elim q
end L2

namespace L2
open PySem PySem.Spec PyProof.Rows
section
variable {X : Cx} {x : Str} {p pos : Pos} {e : Expr} {es : List Expr} {t : TA} {id T : String} {r : List V → Hp → VK → Prop}

def tCB (r : List V → Hp → VK → Prop) (t : TA) : TE := fun σ H Q => t σ H fun vs H1 => r vs H1 Q
/-- f(e, ..), f a built-in function -/
theorem pe_callB (hc : CallR X (.builtin id) r) (hg : Gl X x) (hm : X.mg x = none) (hv : bootBuiltins x = some (.builtin id)) (ha : PA X (e :: es) t) (hn : x ≠ "__name__" := by decide) (hdb : (x == ("__debug__" : Str)) = false := by decide)
    (he : starEach (e :: es) X.env = (false, eval e X.env) :: starEach es X.env := by rfl) (hpl : (backTo pos (starEach es X.env)).any (·.1) = false := by rfl) : PE X (.Call (.Name x p) (e :: es) [] pos) (tCB r t) := by
  intro pins s σ H Q I h
  refine wpAny_Call_Name_kw (ld_blt I hg hm hv ?_ hn hdb)
  exact PyProof.Rows.callWith_builtin1 (thn (ha pos pins s σ H _ I h) fun us s1 ⟨vs, H1, I1, r1, q1⟩ => hc pins s1 σ H1 vs us Q I1 r1 q1) he hpl
/-- T(e, ..), T a built-in type -/
theorem pe_callTy (hc : CallR X (.type T) r) (hg : Gl X x) (hm : X.mg x = none) (hv : bootBuiltins x = some (.type T)) (ha : PA X (e :: es) t) (hn : x ≠ "__name__" := by decide) (hdb : (x == ("__debug__" : Str)) = false := by decide)
    (he : starEach (e :: es) X.env = (false, eval e X.env) :: starEach es X.env := by rfl) (hpl : (backTo pos (starEach es X.env)).any (·.1) = false := by rfl) : PE X (.Call (.Name x p) (e :: es) [] pos) (tCB r t) := by
  intro pins s σ H Q I h
  refine wpAny_Call_Name_kw (ld_blt I hg hm hv ?_ hn hdb)
  exact PyProof.Rows.callWith_type1 (thn (ha pos pins s σ H _ I h) fun us s1 ⟨vs, H1, I1, r1, q1⟩ => hc pins s1 σ H1 vs us Q I1 r1 q1) he hpl
end
end L2

namespace HT
open PySem PyProof.Rows

section
open PySem.SeqAt
open PySem.AutoSeq1 (wpAny_loadPart')
open PySem.MeetsSeq PySem.MeetsSeq2 PySem.MeetsSeq3

end

section
variable {prog : Program} {w : World} {A : Around} {E : Value → Shared → Prop} {s : Shared}

/-! ### t[a:b], not the whole -/
end
end HT

namespace L2
open PySem PySem.Spec PyProof.Rows

/-! ### the parts of a slice -/
abbrev TO := St → Hp → (Option Int → Hp → Prop) → Prop
/-- a slice's part (left out, or an int) -/
def PO (X : Cx) (e : Option Expr) (t : TO) : Prop :=
  ∀ (pins : List (Addr × Obj)) (s : Shared) (σ : St) (H : Hp) (Q : Option Int → Hp → Prop), Inv X pins σ H s → t σ H Q →
    wpAny (model X.prog X.w) X.A (evalPart e X.env) (fun u s' => ∃ o H', Inv X pins σ H' s' ∧ IsPart u o ∧ Q o H') X.xe s
def tNoPart : TO := fun _ H Q => Q none H
def tPart (t : TE) : TO := fun σ H Q => t σ H fun x H1 => ∃ i, x = .int i ∧ Q (some i) H1

section
variable {X : Cx} {e : Expr} {te : TE} {lo hi : Option Expr} {tl th : TO} {pos p2 : Pos}

theorem po_none : PO X none tNoPart := by
  intro pins s σ H Q I h
  rw [evalPart_none]
  exact wpAny_pure ⟨none, H, I, .none, h⟩
theorem po_some (h : PE X e te) : PO X (some e) (tPart te) := by
  intro pins s σ H Q I hw
  rw [evalPart_some]
  refine thn (h pins s σ H _ I hw) fun u s1 ⟨x, H1, I1, r1, q1⟩ => ?_
  obtain ⟨i, rfl, q⟩ := q1
  obtain ⟨t, rfl⟩ := r1
  exact ⟨some i, H1, I1, .int i t, q⟩

/-- what a slice of a value is, by values: the slice object stands at sl -/
def SlR (X : Cx) (r : V → Option Int → Option Int → Hp → VK → Prop) : Prop :=
  ∀ (pins : List (Addr × Obj)) (s : Shared) (σ : St) (H : Hp) (x : V) (v vl vu : Value) (lo hi : Option Int) (sl : Addr) (Q : VK), Inv X pins σ H s → RelV x v → s.heap.IsSliceOf sl vl vu .none → IsPart vl lo → IsPart vu hi → r x lo hi H Q →
    ∃ T id, typeLookup (.type T) "__getitem__" = pure (some (.builtin id)) ∧ s.TypeIs v T ∧ wpAny (model X.prog X.w) X.A (getItem v (.ref sl)) (EP X pins σ Q) X.xe s
def tSl (r : V → Option Int → Option Int → Hp → VK → Prop) (te : TE) (tl th : TO) : TE := fun σ H Q => te σ H fun x H1 => tl σ H1 fun l H2 => th σ H2 fun u H3 => r x l u H3 Q
/-- a[lo:hi], any a -/
theorem pe_slice {r : V → Option Int → Option Int → Hp → VK → Prop} (hr : SlR X r) (he : PE X e te) (hl : PO X lo tl) (hu : PO X hi th) : PE X (.Subscript e (.Slice lo hi none p2) pos) (tSl r te tl th) := by
  intro pins s σ H Q I h
  refine Subscript_ (thn (he pins s σ H _ I h) fun v s1 ⟨x, H1, I1, r1, q1⟩ => ?_)
  refine wpAny_Slice (thn (hl pins s1 σ H1 _ I1 q1) fun vl s2 ⟨l, H2, I2, pl, q2⟩ => thn (hu pins s2 σ H2 _ I2 q2) fun vu s3 ⟨u, H3, I3, pu, q3⟩ => ?_)
  rw [evalPart_none]
  refine wpAny_pure ?_
  have I4 : Inv X pins σ H3 { s3 with heap := s3.heap.push { cls := .type "slice", data := .fields #[vl, vu, .none] } } := I3.kept (t' := s3.toks) fun b ob q => Heap.get?_push_of_some _ q
  obtain ⟨T, id, hT, ht, hg⟩ := hr pins { s3 with heap := s3.heap.push { cls := .type "slice", data := .fields #[vl, vu, .none] } } σ H3 x v vl vu l u s3.heap.objs.size Q I4 r1 (Heap.IsSliceOf.new ..) pl pu q3
  show wpAny (model X.prog X.w) X.A (subscriptTail e (.Slice lo hi none p2) v (.ref s3.heap.objs.size)) (EP X pins σ Q) X.xe { s3 with heap := s3.heap.push { cls := .type "slice", data := .fields #[vl, vu, .none] } }
  exact tail_any (ops := [.ref s3.heap.objs.size, v]) ht hT hg (by with_unfolding_all rfl)

/-! ### t < u, t + u -/
end
end L2

namespace L2
open PySem PySem.Spec PyProof.Rows

/-! ### places -/
/-- the place that an index of any sign means -/
def ixN (n : Nat) (i : Int) : Option Nat := if 0 ≤ i then (if i < n then some i.toNat else none) else if -(n : Int) ≤ i then some (i + n).toNat else none
def atI {α : Type} (xs : List α) (i : Int) : Option α := (ixN xs.length i).bind fun j => xs[j]?
theorem ixN_seq {n : Nat} {i : Int} {j : Nat} (h : ixN n i = some j) : seqIndex? i n = some j ∧ j < n ∧ -(n : Int) ≤ i ∧ i < n := by
  unfold ixN at h
  by_cases h0 : 0 ≤ i
  · rw [if_pos h0] at h
    by_cases h1 : i < n
    · rw [if_pos h1] at h
      have e : i.toNat = j := Option.some.inj h
      exact ⟨by rw [seqIndex_of h0 h1, e], by omega, by omega, h1⟩
    · rw [if_neg h1] at h; cases h
  · rw [if_neg h0] at h
    by_cases h1 : -(n : Int) ≤ i
    · rw [if_pos h1] at h
      have e : (i + n).toNat = j := Option.some.inj h
      exact ⟨by rw [seqIndex_neg (by omega) h1, e], by omega, h1, by omega⟩
    · rw [if_neg h1] at h; cases h
theorem atI_get {α : Type} {xs : List α} {i : Int} {v : α} (h : atI xs i = some v) : ∃ j, seqIndex? i xs.length = some j ∧ xs[j]? = some v ∧ j < xs.length ∧ -(xs.length : Int) ≤ i ∧ i < xs.length := by
  unfold atI at h
  cases e : ixN xs.length i with
  | none => rw [e] at h; cases h
  | some j =>
    rw [e] at h
    obtain ⟨h1, h2, h3, h4⟩ := ixN_seq e
    exact ⟨j, h1, h, h2, h3, h4⟩
theorem atI_nat {α : Type} {xs : List α} {j : Nat} {v : α} (h : xs[j]? = some v) : atI xs (j : Int) = some v := by
  have hj : j < xs.length := (List.getElem?_eq_some_iff.mp h).1
  have e : ixN xs.length (j : Int) = some j := by
    unfold ixN
    rw [if_pos (by omega), if_pos (by omega)]; simp
  unfold atI; rw [e]; exact h
/-! ### what may be subscripted -/
/-- what stands as an index of a plain subscript -/
def PlainIx (b : Expr) : Prop := ∀ o i, subscripted b false o i = operate [o, i] (getItem o i)
/-- a subscript by values -/
def IxR (X : Cx) (r : R2) : Prop :=
  ∀ (value slice : Expr) (pins : List (Addr × Obj)) (s : Shared) (σ : St) (H : Hp) (x y : V) (v u : Value) (Q : VK), Inv X pins σ H s → RelV x v → RelV y u → r x y H Q →
    subscripted slice false v u = operate [v, u] (getItem v u) → wpAny (model X.prog X.w) X.A (subscriptTail value slice v u) (EP X pins σ Q) X.xe s
/-- a call of a builtin's method by values: the receiver, the arguments -/
def MtR (X : Cx) (id : String) (r : V → List V → Hp → VK → Prop) : Prop :=
  ∀ (pins : List (Addr × Obj)) (s : Shared) (σ : St) (H : Hp) (x : V) (xs : List V) (v : Value) (us : List Value) (Q : VK), Inv X pins σ H s → RelV x v → Vals xs us → r x xs H Q →
    wpAny (model X.prog X.w) X.A (call (.builtin id) (v :: us)) (EP X pins σ Q) X.xe s
section
variable {X : Cx} {a b : Expr} {ta tb : TE} {pos : Pos}
/-- a[b] -/
theorem pe_ix {r : R2} (hr : IxR X r) (ha : PE X a ta) (hb : PE X b tb) (hs : PlainIx b) : PE X (.Subscript a b pos) (tOp r ta tb) := by
  intro pins s σ H Q I h
  exact Subscript_ (binT ha hb I h fun v u s2 x y H2 I2 rx ry q => hr a b pins s2 σ H2 x y v u Q I2 rx ry q (hs _ _))

def rIxL (K : PySem.W.Frag) : R2 := fun x y H Q => ∃ p xs i v, x = .ref p ∧ y = .int i ∧ SqL K H p xs ∧ atI xs i = some v ∧ Q v H
def rIxT (K : PySem.W.Frag) : R2 := fun x y H Q => ∃ p xs i v, x = .ref p ∧ y = .int i ∧ SqT K H p xs ∧ atI xs i = some v ∧ Q v H
def rIxS : R2 := fun x y H Q => ∃ z i c, x = .str z ∧ y = .int i ∧ z.length ≤ sizeLine ∧ atI z.cps.toList i = some c ∧ Q (.str ⟨#[c]⟩) H
theorem ix_list : IxR X (rIxL X.K) := by
  intro value slice pins s σ H x y v u Q I rx ry h hs
  obtain ⟨p, xs, i, z, rfl, rfl, hq, he, q⟩ := h
  cases rx
  obtain ⟨t, rfl⟩ := ry
  obtain ⟨its, r, pl, hz⟩ := I.list hq
  obtain ⟨j, h1, h2, h3, h4, h5⟩ := atI_get he
  obtain ⟨w, ew, rw'⟩ := r.get h2
  have hl := r.length
  have hn := line63
  have fin : EP X pins σ Q w s := ⟨z, H, I, rw', q⟩
  by_cases h0 : 0 ≤ i
  · have hj : i.toNat = j := by
      rw [seqIndex_of h0 h5] at h1
      exact Option.some.inj h1
    exact item_listR pl.isList h0 (by omega) (by rw [hj]; simpa using ew) fin hs
  · have hj : (i + (its.toArray.size : Int)).toNat = j := by
      rw [seqIndex_neg (by omega) h4] at h1
      rw [List.size_toArray, ← hl]
      exact Option.some.inj h1
    exact subscriptTail_builtinR (x := w) pl.isList.typeIs slot_list_getitem.lookup
      (wpAny_getItem_list_neg (Q := fun r s' => r = w ∧ EP X pins σ Q r s') pl.isList (by omega) (by rw [List.size_toArray] <;> omega) (by omega) (by rw [hj]; simpa using ew) ⟨rfl, fin⟩) hs
theorem ix_tup : IxR X (rIxT X.K) := by
  intro value slice pins s σ H x y v u Q I rx ry h hs
  obtain ⟨p, xs, i, z, rfl, rfl, hq, he, q⟩ := h
  cases rx
  obtain ⟨t, rfl⟩ := ry
  obtain ⟨its, r, pl, hz⟩ := I.tuple hq
  obtain ⟨j, h1, h2, h3, h4, h5⟩ := atI_get he
  obtain ⟨w, ew, rw'⟩ := r.get h2
  have hl := r.length
  have hn := line63
  have fin : EP X pins σ Q w s := ⟨z, H, I, rw', q⟩
  exact subscriptTail_builtinR (x := w) pl.typeIs slot_tuple_getitem.lookup
    (getItem_tuple (j := j) (Q := fun r s' => r = w ∧ EP X pins σ Q r s') pl (by omega) (by omega) (by rw [List.size_toArray, ← hl]; exact h1) (by simpa using ew) ⟨rfl, fin⟩) hs
theorem ix_str : IxR X rIxS := by
  intro value slice pins s σ H x y v u Q I rx ry h hs
  obtain ⟨z, i, c, rfl, rfl, hz, he, q⟩ := h
  obtain ⟨t, rfl⟩ := rx
  obtain ⟨t', rfl⟩ := ry
  obtain ⟨j, h1, h2, h3, h4, h5⟩ := atI_get he
  have hl : z.cps.toList.length = z.length := by simp [Str.length]
  rw [hl] at h1 h4 h5
  have hn := line63
  exact tail_any (typeIs_str s z t) slot_str_getitem.lookup (getItem_str (c := c) (by
    have e1 : decide (i < -(2 ^ 63 : Int)) = false := decide_eq_false (by omega)
    have e2 : decide (i ≥ 2 ^ 63) = false := decide_eq_false (by omega)
    rw [e1, e2, Bool.or_false]) (by rw [h1]; simpa using h2) ⟨.str ⟨#[c]⟩, H, I.tok _, ⟨_, rfl⟩, q⟩) hs
/-! ### xs[i] = v, any sign -/
/-- the list's object behind a store -/
theorem mapSeq_set (its : List Value) (n j : Nat) (u : Value) : Obj.mapSeq (·.setIfInBounds j u) { cls := .type "list", data := .seq its.toArray n } = { cls := .type "list", data := .seq (its.set j u).toArray n } := by
  simp [Obj.mapSeq]
theorem Inv.lst {pins : List (Addr × Obj)} {σ : St} {H : Hp} {s : Shared} {p : Addr} {xs : List V} (I : Inv X pins σ H s) (h : H p = some (.lst xs)) :
    ∃ (its : List Value) (n : Nat), Vals xs its ∧ s.heap.get? p = some { cls := .type "list", data := .seq its.toArray n } ∧ xs.length ≤ sizeLine := by
  obtain ⟨z, its, n, r, e⟩ := I.hok p _ h
  exact ⟨its, n, r, e, z⟩
/-- the list at p is written by an update of its object -/
theorem Inv.lstUpd {pins : List (Addr × Obj)} {σ : St} {H : Hp} {s : Shared} {p : Addr} {xs ys : List V} {its its' : List Value} {n n' : Nat} {f : Obj → Obj} (I : Inv X pins σ H s) (h : H p = some (.lst xs))
    (ho : s.heap.get? p = some { cls := .type "list", data := .seq its.toArray n }) (hf : f { cls := .type "list", data := .seq its.toArray n } = { cls := .type "list", data := .seq its'.toArray n' }) (r : Vals ys its') (hz : ys.length ≤ sizeLine) (t : Nat) :
    Inv X pins σ (upd H p (.lst ys)) { s with heap := s.heap.update p f, toks := t } := by
  have e : (s.heap.update p f).get? p = some { cls := .type "list", data := .seq its'.toArray n' } := by
    rw [Heap.get?_update_self f ho (by rw [hf] <;> rfl), hf]
  refine I.write (x := p) (e := p) (by rw [h]; trivial) (.inl rfl) (fun b u hb q => (Heap.get?_update_other _ _ (Ne.symm hb)).trans q) ⟨_, e⟩ ?_
  exact ⟨hz, its', n', r, e⟩
def rSetL : V → V → V → Hp → (Hp → Prop) → Prop := fun o i v H Q => ∃ p xs k j, o = .ref p ∧ i = .int k ∧ H p = some (.lst xs) ∧ ixN xs.length k = some j ∧ Q (upd H p (.lst (xs.set j v)))
theorem set_list : PSet X rSetL := by
  intro pins s σ H o i v ov iv u Q I ro ri rv h
  obtain ⟨p, xs, k, j, rfl, rfl, hp, hj, q⟩ := h
  cases ro
  obtain ⟨t, rfl⟩ := ri
  obtain ⟨its, n, r, ho, hz⟩ := I.lst hp
  obtain ⟨h1, h2, h3, h4⟩ := ixN_seq hj
  have hl := r.length
  have hn := line63
  have I' : Inv X pins σ (upd H p (.lst (xs.set j v))) { s with heap := s.heap.update p (Obj.mapSeq (·.setIfInBounds j u)) } :=
    I.lstUpd hp ho (mapSeq_set its n j u) (r.set rv j) (by rw [List.length_set]; exact hz) s.toks
  by_cases h0 : 0 ≤ k
  · have hk : k.toNat = j := by
      rw [seqIndex_of h0 h4] at h1
      exact Option.some.inj h1
    exact PySem.W.ki_setAt ho h0 (by omega) (by rw [List.size_toArray, ← hl]; exact h4) (by rw [hk]; exact ⟨_, I', q⟩)
  · have hk : (k + (its.toArray.size : Int)).toNat = j := by
      rw [seqIndex_neg (by omega) h3] at h1
      rw [List.size_toArray, ← hl]
      exact Option.some.inj h1
    exact PySem.W.ki_setBack ho (by omega) (by rw [List.size_toArray, ← hl]; exact h3) (by omega) (by rw [hk]; exact ⟨_, I', q⟩)

/-! ### slices -/
/-! ### in, not in: flat items -/
def flatV : V → Bool
  | .non => true
  | .bl _ => true
  | .int _ => true
  | .str _ => true
  | _ => false
/-- == of flat values -/
def eqV : V → V → Bool
  | .non, .non => true
  | .bl a, .bl b => a == b
  | .bl a, .int b => (if a then 1 else 0) == b
  | .int a, .bl b => a == (if b then 1 else 0)
  | .int a, .int b => a == b
  | .str a, .str b => a == b
  | _, _ => false
theorem eqAt_V {A : Around} {s : Shared} {y x : V} {u v : Value} (ry : RelV y u) (rx : RelV x v) (fy : flatV y = true) (fx : flatV x = true) : SeqAt.EqAt A s u v (eqV y x) := by
  cases y with
  | non =>
    cases ry
    cases x with
    | non => cases rx; exact SeqAt.EqAt.same _
    | bl b => cases rx; exact SeqAt.EqAt.none_bool b
    | int b => obtain ⟨t, rfl⟩ := rx; exact SeqAt.EqAt.none_int b t
    | str b => obtain ⟨t, rfl⟩ := rx; exact SeqAt.EqAt.none_str b t
    | _ => exact absurd (show false = true from fx) Bool.false_ne_true
  | bl a =>
    cases ry
    cases x with
    | non => cases rx; exact SeqAt.EqAt.bool_none a
    | bl b => cases rx; exact SeqAt.EqAt.bool_bool a b
    | int b => obtain ⟨t, rfl⟩ := rx; exact SeqAt.EqAt.bool_int a b t
    | str b => obtain ⟨t, rfl⟩ := rx; exact SeqAt.EqAt.bool_str a b t
    | _ => exact absurd (show false = true from fx) Bool.false_ne_true
  | int a =>
    obtain ⟨t', rfl⟩ := ry
    cases x with
    | non => cases rx; exact SeqAt.EqAt.int_none a t'
    | bl b => cases rx; exact SeqAt.EqAt.int_bool a t' b
    | int b => obtain ⟨t, rfl⟩ := rx; exact SeqAt.EqAt.int_int a t' b t
    | str b => obtain ⟨t, rfl⟩ := rx; exact SeqAt.EqAt.int_str a t' b t
    | _ => exact absurd (show false = true from fx) Bool.false_ne_true
  | str a =>
    obtain ⟨t', rfl⟩ := ry
    cases x with
    | non => cases rx; exact SeqAt.EqAt.str_none a t'
    | bl b => cases rx; exact SeqAt.EqAt.str_bool a t' b
    | int b => obtain ⟨t, rfl⟩ := rx; exact SeqAt.EqAt.str_int a t' b t
    | str b => obtain ⟨t, rfl⟩ := rx; exact SeqAt.EqAt.str_str a t' b t
    | _ => exact absurd (show false = true from fx) Bool.false_ne_true
  | _ => exact absurd (show false = true from fy) Bool.false_ne_true
/-- the items' answers, read off the values (a value's own answer does not lean on its token) -/
def eqU (x : V) (u : Value) : Bool := match u with
  | .none => eqV .non x
  | .bool b => eqV (.bl b) x
  | .int i _ => eqV (.int i) x
  | .str z _ => eqV (.str z) x
  | _ => false
theorem eqU_of {x y : V} {u : Value} (r : RelV y u) (f : flatV y = true) : eqU x u = eqV y x := by
  cases y with
  | non => cases r; rfl
  | bl b => cases r; rfl
  | int i => obtain ⟨t, rfl⟩ := r; rfl
  | str z => obtain ⟨t, rfl⟩ := r; rfl
  | _ => exact absurd (show false = true from f) Bool.false_ne_true
theorem any_eqU {x : V} : ∀ {xs : List V} {us : List Value}, Vals xs us → xs.all flatV = true → us.any (eqU x) = xs.any fun y => eqV y x
  | _, _, .nil, _ => rfl
  | y :: xs, u :: us, .cons r t, f => by
    rw [List.all_cons, Bool.and_eq_true] at f
    rw [List.any_cons, List.any_cons, eqU_of r f.1, any_eqU t f.2]
theorem mem_eqAt {A : Around} {s : Shared} {x : V} {v : Value} (rx : RelV x v) (fx : flatV x = true) : ∀ {xs : List V} {us : List Value}, Vals xs us → xs.all flatV = true → ∀ u ∈ us, SeqAt.EqAt A s u v (eqU x u)
  | _, _, .nil, _ => fun u hu => by cases hu
  | y :: xs, u :: us, .cons r t, f => fun u' hu => by
    rw [List.all_cons, Bool.and_eq_true] at f
    rcases List.mem_cons.mp hu with rfl | hu
    · rw [eqU_of r f.1]; exact eqAt_V r rx f.1 fx
    · exact mem_eqAt rx fx t f.2 u' hu
def inV (x : V) (xs : List V) : Bool := xs.any fun y => eqV y x
/-- x in a list or tuple of flat items -/
def rIn (K : PySem.W.Frag) (neg : Bool) : R2 := fun x y H Q => ∃ p xs, y = .ref p ∧ (SqL K H p xs ∨ SqT K H p xs) ∧ flatV x = true ∧ xs.all flatV = true ∧ Q (.bl (if neg then !inV x xs else inV x xs)) H
theorem op_in_seq : OpR X (compareOp .In) (rIn X.K false) := by
  intro pins s σ H x y v u Q I rx ry h
  obtain ⟨p, xs, rfl, hq, fx, fs, q⟩ := h
  cases ry
  rcases hq with hq | hq
  · obtain ⟨its, r, pl, hz⟩ := I.list hq
    refine SeqAt.in_listAt (eqU x) pl.isList (fun w hw => mem_eqAt rx fx r fs w (by simpa using hw)) ⟨.bl _, H, I, rfl, ?_⟩
    rw [show its.toArray.any (eqU x) = its.any (eqU x) by simp, any_eqU r fs]
    exact q
  · obtain ⟨its, r, pl, hz⟩ := I.tuple hq
    refine SeqAt.in_tupleAt (eqU x) pl (fun w hw => mem_eqAt rx fx r fs w (by simpa using hw)) ⟨.bl _, H, I, rfl, ?_⟩
    rw [show its.toArray.any (eqU x) = its.any (eqU x) by simp, any_eqU r fs]
    exact q
/-! ### len, list(x), tuple(x) of any list or tuple that is read -/
theorem call_len_seq : CallR X (.builtin "len") (fun xs H Q => ∃ p ys, xs = [.ref p] ∧ (SqL X.K H p ys ∨ SqT X.K H p ys) ∧ Q (.int ys.length) H) := by
  intro pins s σ H xs us Q I r h
  obtain ⟨p, ys, rfl, hq, q⟩ := h
  obtain ⟨u, rfl, rx⟩ := vals1 r
  cases rx
  have hn := line63
  rcases hq with hq | hq
  · obtain ⟨its, r', pl, hz⟩ := I.list hq
    have hlen := r'.length
    exact Calls.call_len_list pl.isList (by simp only [List.size_toArray] <;> omega) ⟨.int ys.length, H, I.tok _, ⟨s.toks + 1, by rw [List.size_toArray, hlen]⟩, q⟩
  · obtain ⟨its, r', pl, hz⟩ := I.tuple hq
    have hlen := r'.length
    exact len_tuple pl (by simp only [List.size_toArray] <;> omega) ⟨.int ys.length, H, I.tok _, ⟨s.toks + 1, by rw [List.size_toArray, hlen]⟩, q⟩
/-! ### the call of a builtin's method: o.m(..) -/
/-- the value is of that builtin type -/
def tyV (K : PySem.W.Frag) (T : String) (x : V) (H : Hp) : Prop := match x with
  | .str _ => T = "str"
  | .int _ => T = "int"
  | .ref p => (T = "list" ∧ ∃ xs, SqL K H p xs) ∨ (T = "tuple" ∧ ∃ o, K.lookup p = some o ∧ o.cls = .type "tuple" ∧ o.dict = none) ∨
      (T = "dict" ∧ ((∃ kvs, H p = some (.dK kvs)) ∨ ∃ kvs, H p = some (.dT kvs))) ∨ (T = "set" ∧ ∃ S n, H p = some (.set S n))
  | _ => False
theorem tyV_is {pins : List (Addr × Obj)} {σ : St} {H : Hp} {s : Shared} {T : String} {x : V} {v : Value} (I : Inv X pins σ H s) (r : RelV x v) (ty : tyV X.K T x H) :
    s.TypeIs v T ∧ ∀ a, v = .ref a → ∃ ob, s.heap.get? a = some ob ∧ ob.dict = none := by
  cases x with
  | str z =>
    obtain ⟨t, rfl⟩ := r
    cases (show T = "str" from ty)
    exact ⟨typeIs_str s z t, fun _ e => nomatch e⟩
  | int i =>
    obtain ⟨t, rfl⟩ := r
    cases (show T = "int" from ty)
    exact ⟨typeIs_int s i t, fun _ e => nomatch e⟩
  | ref p =>
    cases r
    rcases ty with ⟨rfl, xs, hq⟩ | ⟨rfl, o, hk, hc, hd⟩ | ⟨rfl, hk⟩ | ⟨rfl, S, n, hk⟩
    · obtain ⟨its, _, pl, _⟩ := I.list hq
      refine ⟨pl.isList.typeIs, fun a e => ?_⟩
      cases e
      obtain ⟨o, n, e, c, hd, _⟩ := pl
      exact ⟨o, e, hd⟩
    · refine ⟨⟨o, I.kIn p o hk, hc⟩, fun a e => ?_⟩
      cases e
      exact ⟨o, I.kIn _ o hk, hd⟩
    · have z : ∃ o, s.heap.get? p = some o ∧ o.ExactDict := by
        rcases hk with ⟨kvs, hk⟩ | ⟨kvs, hk⟩
        · obtain ⟨_, _, _, _, o, _, _, e, ex, _⟩ := I.hok p _ hk
          exact ⟨o, e, ex⟩
        · obtain ⟨_, _, _, _, o, _, _, e, ex, _⟩ := I.hok p _ hk
          exact ⟨o, e, ex⟩
      obtain ⟨o, e, ex⟩ := z
      refine ⟨⟨o, e, ex.1⟩, fun a e2 => ?_⟩
      cases e2
      exact ⟨o, e, ex.2.1⟩
    · obtain ⟨o, _, _, _, e, ex, _⟩ := I.hok p _ hk
      refine ⟨⟨o, e, ex.1⟩, fun a e2 => ?_⟩
      cases e2
      exact ⟨o, e, ex.2.1⟩
  | _ => exact False.elim ty
def tBM (K : PySem.W.Frag) (T : String) (r : V → List V → Hp → VK → Prop) (to : TE) (t : TA) : TE := fun σ H Q => to σ H fun x H1 => tyV K T x H1 ∧ t σ H1 fun xs H2 => r x xs H2 Q
variable {o e : Expr} {es : List Expr} {to : TE} {t : TA} {name : Str} {apos cpos : Pos} {T id : String} {r : V → List V → Hp → VK → Prop}
theorem pe_bm (pa : PlainAttrs T) (slot : Slot T name id) (hty : typeOf (.builtin id) = pure (.type "method_descriptor")) (hm : MtR X id r) (ho : PE X o to) (ha : PA X (e :: es) t)
    (hbase : attributeBase o name X.env (eval o X.env) = eval o X.env := by rfl)
    (hfew : ((backTo cpos (starEach (e :: es) X.env)).all (fun x => !x.1) && (backToKw cpos (keywordEach [] X.env)).all (fun x => x.1.isSome)
      && decide ((e :: es).length + ([] : List Keyword).length + (if ([] : List Keyword).isEmpty then 0 else 1) < 30)) = true := by rfl)
    (hline : (apos.endLine == cpos.line) = true := by rfl) (hs : starEach (e :: es) X.env = (false, eval e X.env) :: starEach es X.env := by rfl) (hplain : (backTo cpos (starEach es X.env)).any (·.1) = false := by rfl) :
    PE X (.Call (.Attribute o name apos) (e :: es) [] cpos) (tBM X.K T r to t) := by
  intro pins s σ H Q I h
  refine wpAny_Call_method_late hbase hfew hline rfl (thn (ho pins s σ H _ I h) fun v s1 ⟨x, H1, I1, r1, ty, q1⟩ => ?_)
  obtain ⟨h1, h2⟩ := tyV_is I1 r1 ty
  refine ⟨T, id, pa, slot, hty, h1, h2, ?_⟩
  have hA := ha cpos pins s1 σ H1 _ I1 q1
  rw [hs] at hA ⊢
  refine Calls.callWith_builtin (by show (false || (backTo cpos (starEach es X.env)).any (·.1)) = false; rw [hplain] <;> rfl) (Calls.evalArgs_plain ?_)
  exact thn hA fun us s2 ⟨vs, H2, I2, r2, q2⟩ => hm pins s2 σ H2 x vs v us Q I2 r1 r2 q2
/- xs.append(e), list.index on a module's tuple .. are MtR facts of 06m -/
end
end L2

namespace L2
open PySem PySem.Spec PyProof.Rows

def MtM (X : Cx) (id : String) (r : V → List V → Hp → VK → Prop) : Prop :=
  ∀ (pins : List (Addr × Obj)) (s : Shared) (σ : St) (H : Hp) (x : V) (xs : List V) (v : Value) (us : List Value) (Q : VK), Inv X pins σ H s → RelV x v → Vals xs us → r x xs H Q →
    wpAny (model X.prog X.w) X.A (call (.builtin id) (v :: us)) (EP X pins σ Q) X.xe s

/-! ### lists of values -/
theorem Vals.one : ∀ {x : V} {us : List Value}, Vals [x] us → ∃ u, us = [u] ∧ RelV x u
  | _, _, .cons r .nil => ⟨_, rfl, r⟩
section
variable {X : Cx} {pins : List (Addr × Obj)} {σ : St} {H : Hp} {s : Shared} {l b : Addr} {xs ys zs : List V}

/-! ### the two steps: a tracked list is rewritten, a new list is laid -/
theorem Inv.lset {its its' : List Value} {n : Nat} {f : Array Value → Array Value} {t' : Nat} (I : Inv X pins σ H s) (hH : H l = some (.lst xs))
    (e : s.heap.get? l = some { cls := .type "list", data := .seq its.toArray n }) (hf : f its.toArray = its'.toArray) (hv : Vals ys its') (hz : ys.length ≤ sizeLine) :
    Inv X pins σ (upd H l (.lst ys)) { s with heap := s.heap.update l (Obj.mapSeq f), toks := t' } := by
  have q := PySem.IsL.update e f
  rw [hf] at q
  refine I.write (x := l) (e := l) (by rw [hH]; exact trivial) (.inl rfl) (fun b' u hb hu => (Heap.get?_update_other s.heap (Obj.mapSeq f) (Ne.symm hb)).trans hu) ⟨_, q⟩ ?_
  exact ⟨hz, its', _, hv, q⟩
theorem Inv.lnew {its : List Value} {t' : Nat} (I : Inv X pins σ H s) (hv : Vals ys its) (hz : ys.length ≤ sizeLine) :
    Inv X pins σ (upd H s.heap.objs.size (.lst ys)) { s with heap := s.heap.push { cls := .type "list", data := .seq its.toArray }, toks := t' } :=
  I.laid (fun _ _ q => Heap.get?_push_of_some _ q) (Nat.le_refl _) ⟨hz, its, 0, hv, Heap.get?_push_size _ rfl⟩
theorem Inv.fresh (I : Inv X pins σ H s) : H s.heap.objs.size = none := I.hok.fresh (Nat.le_refl _)
theorem Inv.lstM (I : Inv X pins σ H s) (hH : H l = some (.lst xs)) : xs.length ≤ sizeLine ∧ ∃ (its : List Value) (n : Nat), Vals xs its ∧ xs.length = its.length ∧ s.heap.get? l = some { cls := .type "list", data := .seq its.toArray n } := by
  obtain ⟨z, its, n, r, e⟩ := I.hok l _ hH
  exact ⟨z, its, n, r, r.length, e⟩

end

section
variable {X : Cx}

/-! ### methods -/
def rAppend : V → List V → Hp → VK → Prop := fun x vs H Q => ∃ l xs y, x = .ref l ∧ vs = [y] ∧ H l = some (.lst xs) ∧ xs.length < sizeLine ∧ Q .non (upd H l (.lst (xs ++ [y])))
theorem mt_append : MtM X "list.append" rAppend := by
  intro pins s σ H x vs v us Q I rx rv h
  obtain ⟨l, xs, y, rfl, rfl, hH, hz, q⟩ := h
  cases rx
  obtain ⟨u, rfl, ru⟩ := rv.one
  obtain ⟨z, its, n, r, hl, e⟩ := I.lstM hH
  refine call_meets F.slot_list_append ⟨_, e, rfl⟩ F.entry_list_append (F.args_list_append_2 _ _) (PySem.list_append l its.toArray n u (by rw [List.size_toArray]; omega)) ⟨e, ?_⟩
  refine ⟨.non, _, I.lset (its' := its ++ [u]) hH e (by simp) (r.append (.cons ru .nil)) ?_, rfl, q⟩
  rw [List.length_append, List.length_singleton]
  omega

/-! ### list + list, list += list, list * int -/
/-! ### del xs[i] -/
end

/-! ### xs[a:b] = ys -/
section
variable {prog : Program} {w : World} {A : Around} {E : Value → Shared → Prop} {s : Shared}
set_option maxRecDepth 100000 in
end

section
variable {X : Cx}
end
end L2

namespace L2
open PySem PySem.Spec PyProof.Rows

/-! ### lists of pairs as tables -/
section
variable {κ : Type} [DecidableEq κ]
def valV (kvs : List (κ × V)) (k : κ) : Option V := (kvs.find? fun kv => decide (kv.1 = k)).map (·.2)
/-- in its place, or at the end -/
def putK (kvs : List (κ × V)) (k : κ) (v : V) : List (κ × V) :=
  if (kvs.any fun kv => decide (kv.1 = k)) = true then kvs.map (fun kv => if kv.1 = k then (kv.1, v) else kv) else kvs ++ [(k, v)]
theorem valV_nil {k : κ} : valV ([] : List (κ × V)) k = none := rfl
theorem valV_pos {p : κ × V} {r : List (κ × V)} {k : κ} (e : p.1 = k) : valV (p :: r) k = some p.2 := by simp [valV, List.find?_cons, e]
theorem valV_neg {p : κ × V} {r : List (κ × V)} {k : κ} (e : ¬ p.1 = k) : valV (p :: r) k = valV r k := by simp [valV, List.find?_cons, e]
theorem valV_any (k : κ) : ∀ kvs : List (κ × V), (kvs.any fun kv => decide (kv.1 = k)) = (valV kvs k).isSome
  | [] => rfl
  | p :: r => by
    rw [List.any_cons]
    by_cases e : p.1 = k
    · simp only [valV_pos e, decide_eq_true e, Bool.true_or, Option.isSome_some]
    · rw [valV_neg e, decide_eq_false e, Bool.false_or]; exact valV_any k r
theorem valV_map (k j : κ) (y : V) : ∀ kvs : List (κ × V), valV (kvs.map fun kv => if kv.1 = k then (kv.1, y) else kv) j = (valV kvs j).map fun x => if j = k then y else x
  | [] => rfl
  | p :: r => by
    have ih := valV_map k j y r
    rw [List.map_cons]
    by_cases h : p.1 = k
    · rw [if_pos h]
      by_cases e : p.1 = j
      · rw [valV_pos (p := (p.1, y)) e, valV_pos e, Option.map_some, if_pos (e.symm.trans h)]
      · rw [valV_neg (p := (p.1, y)) e, valV_neg e, ih]
    · rw [if_neg h]
      by_cases e : p.1 = j
      · rw [valV_pos (p := p) e, valV_pos e, Option.map_some, if_neg (fun z => h (e.trans z))]
      · rw [valV_neg (p := p) e, valV_neg e, ih]
theorem valV_snoc (k j : κ) (y : V) : ∀ kvs : List (κ × V), valV kvs k = none → valV (kvs ++ [(k, y)]) j = if j = k then some y else valV kvs j
  | [], _ => by
    by_cases e : k = j
    · rw [if_pos e.symm]; exact valV_pos (p := (k, y)) e
    · rw [if_neg (fun z => e z.symm)]; exact valV_neg (p := (k, y)) e
  | p :: r, hn => by
    rw [List.cons_append]
    have hk : ¬ p.1 = k := fun z => by rw [valV_pos z] at hn; cases hn
    rw [valV_neg hk] at hn
    have ih := valV_snoc k j y r hn
    by_cases e : p.1 = j
    · rw [valV_pos e, valV_pos e, if_neg (fun z => hk (e.trans z))]
    · rw [valV_neg e, valV_neg e, ih]
theorem valV_put (kvs : List (κ × V)) (k j : κ) (y : V) : valV (putK kvs k y) j = if j = k then some y else valV kvs j := by
  unfold putK
  by_cases a : (kvs.any fun kv => decide (kv.1 = k)) = true
  · rw [if_pos a, valV_map]
    rw [valV_any] at a
    by_cases e : j = k
    · obtain ⟨x, hx⟩ := Option.isSome_iff_exists.mp a
      rw [if_pos e, e, hx, Option.map_some, if_pos rfl]
    · rw [if_neg e]
      cases valV kvs j with
      | none => rfl
      | some x => rw [Option.map_some, if_neg e]
  · rw [if_neg a]
    refine valV_snoc k j y kvs ?_
    rw [valV_any] at a
    cases q : valV kvs k with
    | none => rfl
    | some x => rw [q] at a; exact (a rfl).elim
theorem length_putK (kvs : List (κ × V)) (k : κ) (v : V) : (putK kvs k v).length ≤ kvs.length + 1 := by
  unfold putK
  split
  · rw [List.length_map]; omega
  · rw [List.length_append, List.length_cons, List.length_nil]; omega
theorem putK_new {kvs : List (κ × V)} {k : κ} (v : V) (h : valV kvs k = none) : putK kvs k v = kvs ++ [(k, v)] := by
  unfold putK
  rw [valV_any, h]
  exact if_neg (by decide)

theorem RelO.isSome_eq {o : Option V} {u : Option Value} (r : RelO o u) : o.isSome = u.isSome := by
  cases o with
  | none => cases u with
    | none => rfl
    | some _ => exact (show False from r).elim
  | some _ => cases u with
    | none => exact (show False from r).elim
    | some _ => rfl
/-- raw tables of the same keys -/
theorem KV.val {kvs : List (κ × V)} {vs : List (κ × Value)} (r : KV kvs vs) (k : κ) : RelO (valV kvs k) (valueAt vs k) := by
  unfold KV at r
  induction r with
  | nil => exact True.intro
  | @cons p q ps qs h t ih =>
    obtain ⟨h1, h2⟩ := h
    by_cases e : p.1 = k
    · have e' : q.1 = k := h1.symm.trans e
      have b : valueAt (q :: qs) k = some q.2 := by simp [valueAt, List.find?_cons, e']
      rw [valV_pos e, b]; exact h2
    · have e' : ¬ q.1 = k := fun z => e (h1.trans z)
      have b : valueAt (q :: qs) k = valueAt qs k := by simp [valueAt, List.find?_cons, e']
      rw [valV_neg e, b]; exact ih
theorem KV.any {kvs : List (κ × V)} {vs : List (κ × Value)} (r : KV kvs vs) (k : κ) : (kvs.any fun kv => decide (kv.1 = k)) = vs.any fun kv => decide (kv.1 = k) := by
  unfold KV at r
  induction r with
  | nil => rfl
  | cons h t ih => rw [List.any_cons, List.any_cons, ih, h.1]
theorem KV.repl {kvs : List (κ × V)} {vs : List (κ × Value)} (r : KV kvs vs) (k : κ) {y : V} {u : Value} (ry : RelV y u) :
    KV (kvs.map fun kv => if kv.1 = k then (kv.1, y) else kv) (vs.map fun kv => if kv.1 = k then (kv.1, u) else kv) := by
  unfold KV at r ⊢
  induction r with
  | nil => exact .nil
  | @cons p q ps qs h t ih =>
    rw [List.map_cons, List.map_cons]
    refine .cons ?_ ih
    obtain ⟨h1, h2⟩ := h
    by_cases e : p.1 = k
    · rw [if_pos e, if_pos (h1.symm.trans e)]; exact ⟨h1, ry⟩
    · rw [if_neg e, if_neg (fun z => e (h1.trans z))]; exact ⟨h1, h2⟩
theorem KV.put {kvs : List (κ × V)} {vs : List (κ × Value)} (r : KV kvs vs) (k : κ) {y : V} {u : Value} (ry : RelV y u) : KV (putK kvs k y) (stored vs k u) := by
  unfold putK stored
  rw [r.any k]
  by_cases e : (vs.any fun kv => decide (kv.1 = k)) = true
  · rw [if_pos e, if_pos e]; exact r.repl k ry
  · rw [if_neg e, if_neg e]; exact Paired.snoc r ⟨rfl, ry⟩
theorem KV.length {kvs : List (κ × V)} {vs : List (κ × Value)} (r : KV kvs vs) : kvs.length = vs.length := Paired.length r
end


/-! ### a tracked dict, its keys ints and texts or tuples of these -/
theorem kV_is {P : Program} {w : World} {k : Key} {u : Value} (r : RelV (kV k) u) : (mixKind P w).is k u = true := by
  cases k with
  | inl i => obtain ⟨t, e⟩ := (show ∃ t, u = Value.int i t from r); subst e; exact mixKind_int P w i t
  | inr x => obtain ⟨t, e⟩ := (show ∃ t, u = Value.str x t from r); subst e; exact mixKind_str P w x t
theorem items_are {P : Program} {w : World} : ∀ {ks : List Key} {us : List Value}, Vals (ks.map kV) us → ItemsAre (mixKind P w) ks us
  | [], _, r => by rw [List.map_nil] at r; cases r; exact .nil
  | k :: ks, _, r => by
    rw [List.map_cons] at r
    cases r with
    | cons h t => exact .cons (kV_is h) (items_are t)

/-- raw entries of a dict with tuple keys -/
abbrev KT (H : Hp) : List (List Key × V) → List (List Key × Addr × Value) → Prop := Paired fun p q => p.1 = q.1 ∧ H q.2.1 = some (.tup (p.1.map kV)) ∧ RelV p.2 q.2.2
theorem KT.val {H : Hp} {kvs : List (List Key × V)} {xs : List (List Key × Addr × Value)} (r : KT H kvs xs) (k : List Key) : RelO (valV kvs k) ((atKey xs k).map (·.2)) := by
  induction r with
  | nil => exact True.intro
  | @cons p q ps qs h t ih =>
    obtain ⟨h1, _, h2⟩ := h
    by_cases e : p.1 = k
    · have e' : q.1 = k := h1.symm.trans e
      have b : atKey (q :: qs) k = some q.2 := by simp [atKey, List.find?_cons, e']
      rw [valV_pos e, b]; exact h2
    · have e' : ¬ q.1 = k := fun z => e (h1.trans z)
      have b : atKey (q :: qs) k = atKey qs k := by simp [atKey, List.find?_cons, e']
      rw [valV_neg e, b]; exact ih
theorem KT.repl {H : Hp} {kvs : List (List Key × V)} {xs : List (List Key × Addr × Value)} (r : KT H kvs xs) (k : List Key) {y : V} {u : Value} (ry : RelV y u) :
    KT H (kvs.map fun kv => if kv.1 = k then (kv.1, y) else kv) (xs.map (putAt k u)) := by
  induction r with
  | nil => exact .nil
  | @cons p q ps qs h t ih =>
    rw [List.map_cons, List.map_cons]
    refine .cons ?_ ih
    obtain ⟨h1, h2, h3⟩ := h
    unfold putAt
    by_cases e : p.1 = k
    · rw [if_pos e, if_pos (h1.symm.trans e)]; exact ⟨h1, h2, ry⟩
    · rw [if_neg e, if_neg (fun z => e (h1.trans z))]; exact ⟨h1, h2, h3⟩
theorem KT.put {H : Hp} {kvs : List (List Key × V)} {xs : List (List Key × Addr × Value)} (r : KT H kvs xs) (k : List Key) {b : Addr} {y : V} {u : Value} (hb : H b = some (.tup (k.map kV))) (ry : RelV y u) :
    KT H (putK kvs k y) (storedH xs k b u) := by
  have e : (kvs.any fun kv => decide (kv.1 = k)) = (atKey xs k).isSome := by
    rw [valV_any, (r.val k).isSome_eq, Option.isSome_map]
  unfold putK storedH
  rw [e]
  by_cases q : (atKey xs k).isSome = true
  · rw [if_pos q, if_pos q]; exact r.repl k ry
  · rw [if_neg q, if_neg q]; exact Paired.snoc r ⟨rfl, hb, ry⟩
theorem KT.keeps {H H' : Hp} {kvs : List (List Key × V)} {xs : List (List Key × Addr × Value)} (r : KT H kvs xs) (ht : ∀ b ys, H b = some (.tup ys) → H' b = some (.tup ys)) : KT H' kvs xs :=
  Paired.mapP r fun _ _ z => ⟨z.1, ht _ _ z.2.1, z.2.2⟩

section
variable {P : Program} {w : World} {H : Hp} {h : Heap} {a : Addr}
theorem rd_of {u : HO} (ok : HOk P w H h) (e : Rd H a u) : ObjOk P w H h a u := e.ok ok
theorem dk_rd {kvs : List (Key × V)} (ok : HOk P w H h) (e : Rd H a (.dK kvs)) : kvs.length ≤ sizeLine ∧ (a == sysModules) = false ∧ ∃ vs, KV kvs vs ∧ h.DictOf (mixKind P w) a vs :=
  show ObjOk P w H h a (.dK kvs) from rd_of ok e
theorem dk_of {kvs : List (Key × V)} (ok : HOk P w H h) (e : H a = some (.dK kvs)) : kvs.length ≤ sizeLine ∧ (a == sysModules) = false ∧ ∃ vs, KV kvs vs ∧ h.DictOf (mixKind P w) a vs := dk_rd ok (.inl e)
/-- a tracked tuple of ints and texts is a key -/
theorem key_of {ks : List Key} (ok : HOk P w H h) (e : H a = some (.tup (ks.map kV))) : (tupleKind (mixKind P w)).is h ks a := by
  obtain ⟨_, its, r, o, h1, h2, n, h3⟩ := (show ObjOk P w H h a (.tup (ks.map kV)) from ok a _ e)
  exact ⟨o, its.toArray, n, h1, h2, h3, by simpa using items_are r⟩
theorem dt_rd {kvs : List (List Key × V)} (ok : HOk P w H h) (e : Rd H a (.dT kvs)) : kvs.length ≤ sizeLine ∧ (a == sysModules) = false ∧
    ∃ xs, KT H kvs xs ∧ h.DictOfH (tupleKind (mixKind P w)) a xs := by
  obtain ⟨z, y, xs, r, o, es, ep, h1, h2, h3, h4, h5⟩ := (show ObjOk P w H h a (.dT kvs) from rd_of ok e)
  refine ⟨z, y, xs, r, o, es, ep, h1, h2, h3, h4, fun x hx => ?_, h5⟩
  have all : ∀ {l : List (List Key × V)} {m : List (List Key × Addr × Value)}, KT H l m → ∀ x ∈ m, (tupleKind (mixKind P w)).is h x.1 x.2.1 := by
    intro l m q
    induction q with
    | nil => intro x hx; exact nomatch hx
    | @cons p q ps qs hq t ih =>
      intro x hx
      rcases List.mem_cons.mp hx with e | hx
      · subst e
        exact key_of ok (by rw [← hq.1]; exact hq.2.1)
      · exact ih x hx
  exact all r x hx
theorem dt_of {kvs : List (List Key × V)} (ok : HOk P w H h) (e : H a = some (.dT kvs)) : kvs.length ≤ sizeLine ∧ (a == sysModules) = false ∧
    ∃ xs, KT H kvs xs ∧ h.DictOfH (tupleKind (mixKind P w)) a xs := dt_rd ok (.inl e)
end

/-- what the dict at a holds at the key y -/
def DGet (H : Hp) (a : Addr) (y : V) (r : Option V) : Prop :=
  (∃ kvs k, Rd H a (.dK kvs) ∧ y = kV k ∧ r = valV kvs k) ∨ ∃ kvs k b, Rd H a (.dT kvs) ∧ y = .ref b ∧ H b = some (.tup (k.map kV)) ∧ r = valV kvs k
/-- the heap behind a[y] = v -/
def DPut (H : Hp) (a : Addr) (y v : V) (H' : Hp) : Prop :=
  (∃ kvs k, H a = some (.dK kvs) ∧ y = kV k ∧ kvs.length < sizeLine ∧ H' = upd H a (.dK (putK kvs k v))) ∨
  ∃ kvs k b, H a = some (.dT kvs) ∧ y = .ref b ∧ H b = some (.tup (k.map kV)) ∧ kvs.length < sizeLine ∧ H' = upd H a (.dT (putK kvs k v))
theorem DGet.k {H : Hp} {a : Addr} {kvs : List (Key × V)} {k : Key} (e : H a = some (.dK kvs)) : DGet H a (kV k) (valV kvs k) := .inl ⟨kvs, k, .inl e, rfl, rfl⟩
theorem DPut.k {H : Hp} {a : Addr} {kvs : List (Key × V)} {k : Key} {v : V} (e : H a = some (.dK kvs)) (hl : kvs.length < sizeLine) : DPut H a (kV k) v (upd H a (.dK (putK kvs k v))) := .inl ⟨kvs, k, e, rfl, hl, rfl⟩
section
variable {X : Cx} {pins : List (Addr × Obj)} {σ : St} {H : Hp} {s : Shared} {a : Addr} {y v : V} {u r : Value} {o : Option V} {A : Around} {E : Value → Shared → Prop}

theorem Inv.big (I : Inv X pins σ H s) : sysModules < s.heap.objs.size := by
  have h : mainGlobals < s.heap.objs.size := (I.mod.glob.keeps I.bk).lt
  exact Nat.lt_trans (by decide) h

/-- d[y], there -/
theorem d_getItem {Q : Value → Shared → Prop} (hu : A.units + 1 < cLine) (I : Inv X pins σ H s) (g : DGet H a y (some v)) (ry : RelV y u) (h : ∀ w' s', Inv X pins σ H s' → RelV v w' → Q w' s') :
    wpAny (model X.prog X.w) A (getItem (.ref a) u) Q E s := by
  rcases g with ⟨kvs, k, e, ey, l⟩ | ⟨kvs, k, b, e, ey, eb, l⟩
  · subst ey
    obtain ⟨z, hd, vs, rel, dd⟩ := dk_rd I.hok e
    obtain ⟨w', hw, rw'⟩ := RelO.some_of (v := v) (o := valueAt vs k) (by rw [l]; exact rel.val k)
    exact wpAny_getItem_of (kV_is ry) dd.mapOf hw (h w' _ (I.tok _) rw')
  · subst ey
    cases (show u = Value.ref b from ry)
    obtain ⟨z, hd, xs, rel, dd⟩ := dt_rd I.hok e
    obtain ⟨w', hw, rw'⟩ := RelO.some_of (v := v) (o := (atKey xs k).map (·.2)) (by rw [l]; exact rel.val k)
    obtain ⟨p, hp, hp2⟩ := Option.map_eq_some_iff.mp hw
    refine wpAny_getItem_heap (tupleKind_room_in1 hu) (key_of I.hok eb) dd hp ?_
    rw [hp2]
    exact h w' _ (I.tok _) rw'
/-- a dict's object is replaced -/
theorem d_write {h' : Heap} {t' : Nat} {ob : HO} (I : Inv X pins σ H s) (mu : Mut (H a)) (hs : Heap.SameBut a s.heap h') (he : ∃ q, h'.get? a = some q) (new : ObjOk X.prog X.w (upd H a ob) h' a ob) :
    Inv X pins σ (upd H a ob) { s with heap := h', toks := t' } :=
  I.write (x := a) (e := a) mu (.inl rfl) (fun b q hb z => (hs.2 b hb).trans z) he new
theorem dk_new {P : Program} {w : World} {H' : Hp} {h' : Heap} {kvs : List (Key × V)} {vs : List (Key × Value)} (z : kvs.length ≤ sizeLine) (hd : (a == sysModules) = false) (rel : KV kvs vs) (dd : h'.DictOf (mixKind P w) a vs) :
    ObjOk P w H' h' a (.dK kvs) := ⟨z, hd, vs, rel, dd⟩
/-- d[y] = v -/
theorem d_setItem {H' : Hp} {Q : Unit → Shared → Prop} (hu : A.units + 1 < cLine) (I : Inv X pins σ H s) (g : DPut H a y v H') (ry : RelV y u) (rv : RelV v r) (h : ∀ s', Inv X pins σ H' s' → Q () s') :
    wpAny (model X.prog X.w) A (setItem (.ref a) u r) Q E s := by
  rcases g with ⟨kvs, k, e, ey, l, eH⟩ | ⟨kvs, k, b, e, ey, eb, l, eH⟩
  · subst ey eH
    obtain ⟨z, hd, vs, rel, dd⟩ := dk_of I.hok e
    have hz : vs.length ≤ sizeLine := by rw [← rel.length]; exact z
    have hl : (putK kvs k v).length ≤ sizeLine := by have := length_putK kvs k v; omega
    refine wpAny_setItem_pairs (hsz := hz) (kV_is ry) dd fun h' dd' hs => h _ ?_
    have he : ∃ q, h'.get? a = some q := let ⟨q, _, _, hq, _⟩ := dd'; ⟨q, hq⟩
    exact d_write I (by rw [e]; exact True.intro) hs he (dk_new hl hd (rel.put k rv) dd')
  · subst ey eH
    cases (show u = Value.ref b from ry)
    obtain ⟨z, hd, xs, rel, dd⟩ := dt_of I.hok e
    have hz : xs.length ≤ sizeLine := by rw [← Paired.length rel]; exact z
    have hl : (putK kvs k v).length ≤ sizeLine := by have := length_putK kvs k v; omega
    refine wpAny_setItem_heap (hsz := hz) (tupleKind_room_in1 hu) (key_of I.hok eb) dd fun h' dd' hs => h _ ?_
    obtain ⟨q, es, ep, hq, h2, h3, h4, _, h5⟩ := dd'
    refine d_write I (by rw [e]; exact True.intro) hs ⟨q, hq⟩ ⟨hl, hd, _, (rel.put k eb rv).keeps fun c ys ec => ?_, q, es, ep, hq, h2, h3, h4, h5⟩
    rw [upd_ne (ne_of ec e (fun z => nomatch z))]
    exact ec
end

section
variable {X : Cx} {pins : List (Addr × Obj)} {σ : St} {H : Hp} {s : Shared} {a : Addr} {kvs : List (Key × V)} {k : Key} {u : Value} {A : Around} {E : Value → Shared → Prop}
end


/-! ### readings and rules -/
/-- the element of a subscription, not a slice -/
def NoSl (i : Expr) : Prop := ∀ ov iv, subscripted i false ov iv = operate [ov, iv] (getItem ov iv)
theorem subD_of {prog : Program} {w : World} {A : Around} {E : Value → Shared → Prop} {s : Shared} {env : Env} {value slice : Expr} {pos : Pos} {T id : String} {Q : Value → Shared → Prop}
    (hl : typeLookup (.type T) "__getitem__" = pure (some (.builtin id))) (hs : NoSl slice)
    (h : wpAny (model prog w) A (eval value env) (fun o s₁ => wpAny (model prog w) A (eval slice env) (fun i s₂ => s₂.TypeIs o T ∧ wpAny (model prog w) A (getItem o i) Q E s₂) E s₁) E s) :
    wpAny (model prog w) A (eval (.Subscript value slice pos) env) Q E s := by
  refine Subscript_ (wpAny_mono h (fun o s₁ h₁ => wpAny_mono h₁ (fun i s₂ h₂ => ?_) fun _ _ x => x) fun _ _ x => x)
  obtain ⟨hT, h₂⟩ := h₂
  unfold subscriptTail
  refine wpAny_bind ?_
  rw [getitemInPython_of_ne hT.not_modules]
  refine wpAny_bind (wpAny_specialOf hT hl ?_)
  have fin : wpAny (model prog w) A (subscripted slice false o i) (fun r s₃ => wpAny (model prog w) A (letTemporaryGo value o r >>= fun _ => pure r) Q E s₃) E s₂ := by
    rw [hs o i]
    exact wpAny_operating (wpAny_mono h₂ (fun r s₃ h₃ => wpAny_bind (wpAny_letTemporaryGo (wpAny_pure h₃))) fun _ _ x => x)
  first
    | exact wpAny_pure (wpAny_bind fin)
    | exact wpAny_bind (wpAny_pure (wpAny_bind fin))
    | exact wpAny_bind fin

theorem dict_typeIs {X : Cx} {pins : List (Addr × Obj)} {σ : St} {H : Hp} {s : Shared} {a : Addr} {y : V} {o : Option V} (I : Inv X pins σ H s) (g : DGet H a y o) : s.TypeIs (.ref a) "dict" := by
  rcases g with ⟨kvs, k, e, _, _⟩ | ⟨kvs, k, b, e, _, _, _⟩
  · obtain ⟨_, _, vs, _, dd⟩ := dk_rd I.hok e
    exact dd.typeIs
  · obtain ⟨_, _, xs, _, dd⟩ := dt_rd I.hok e
    exact dd.typeIs
/-- d[y] -/
def tDGet (td ty : TE) : TE := fun σ H Q => td σ H fun x H1 => ty σ H1 fun y H2 => ∃ a v, x = .ref a ∧ DGet H2 a y (some v) ∧ Q v H2
/-- d[y] = v -/
def sDPut (td ty tv : TE) : TS := fun D σ H => tv σ H fun v H1 => td σ H1 fun x H2 => ty σ H2 fun y H3 => ∃ a H4, x = .ref a ∧ DPut H3 a y v H4 ∧ D.nx σ H4
section
variable {X : Cx} {o i e value : Expr} {pos pos' tpos : Pos} {td ty tv : TE}
theorem pe_dget (hu : X.A.units + 1 < cLine) (ho : PE X o td) (hi : PE X i ty) (hs : NoSl i) : PE X (.Subscript o i pos) (tDGet td ty) := by
  intro pins s σ H Q I h
  refine subD_of PySem.F.slot_dict_getitem.lookup hs (thn (ho pins s σ H _ I h) fun u s1 ⟨x, H1, I1, rx, q1⟩ => thn (hi pins s1 σ H1 _ I1 q1) fun iv s2 ⟨y, H2, I2, ry, a, v, ex, g, q2⟩ => ?_)
  subst ex
  obtain rfl : u = Value.ref a := rx
  exact ⟨dict_typeIs I2 g, d_getItem hu I2 g ry fun w' s3 I3 rw' => ⟨v, H2, I3, rw', q2⟩⟩
theorem ps_dput (hu : X.A.units + 1 < cLine) (ho : PE X o td) (hi : PE X i ty) (hv : PE X value tv) (hs : swapsWith value (some (.Subscript o i pos')) pos.line X.env = pure false) :
    PS X (.Assign [.Subscript o i pos'] value pos) (sDPut td ty tv) := by
  intro pins s σ H D I h
  refine wpAny_Assign_Subscript (thn (hv pins s σ H _ I h) fun r s1 ⟨v, H1, I1, rv, q1⟩ => thn (ho pins s1 σ H1 _ I1 q1) fun u s2 ⟨x, H2, I2, rx, q2⟩ => thn (hi pins s2 σ H2 _ I2 q2) fun iv s3 ⟨y, H3, I3, ry, a, H4, ex, g, q3⟩ => ?_) hs
  subst ex
  obtain rfl : u = Value.ref a := rx
  exact d_setItem hu I3 g ry rv fun s4 I4 => ⟨σ, H4, I4, q3⟩
end


/-! ### displays -/
theorem dk_empty {P : Program} {w : World} {H : Hp} (h : Heap) (hb : sysModules < h.objs.size) : ObjOk P w H (h.push { cls := .type "dict", data := .dict #[] }) h.objs.size (.dK []) :=
  ⟨Nat.zero_le _, beq_eq_false_iff_ne.mpr (Ne.symm (Nat.ne_of_lt hb)), [], .nil, Heap.DictOf.new h⟩
/-- {}, to be a dict of the kind that is wanted -/
def tDNewK : TE := fun _ H Q => ∀ p, H p = none → Q (.ref p) (upd H p (.dK []))
section
variable {X : Cx} {pos : Pos}
theorem pe_dnewK : PE X (.Dict [] [] pos) tDNewK := fun pins s σ H Q I h =>
  wpAny_Dict_empty ⟨.ref s.heap.objs.size, _, I.laid (a := s.heap.objs.size) (o := .dK []) (t' := s.toks) (fun _ _ q => Heap.get?_push_of_some _ q) (Nat.le_refl _) (dk_empty s.heap I.big), rfl, h _ (I.hok.fresh (Nat.le_refl _))⟩
end

/-- the pairs of a display, from the left -/
def tPairs : List (TE × TE) → St → Hp → (List (V × V) → Hp → Prop) → Prop
  | [], _, H, Q => Q [] H
  | (tk, tv) :: r, σ, H, Q => tk σ H fun x H1 => tv σ H1 fun y H2 => tPairs r σ H2 fun ps H3 => Q ((x, y) :: ps) H3
abbrev VV : List (V × V) → List (Value × Value) → Prop := Paired fun p q => RelV p.1 q.1 ∧ RelV p.2 q.2
def PPs (X : Cx) (pos : Pos) (keys : List (Option Expr)) (values : List Expr) (trs : List (TE × TE)) : Prop :=
  ∀ (pins : List (Addr × Obj)) (s : Shared) (σ : St) (H : Hp) (Q : List (V × V) → Hp → Prop), Inv X pins σ H s → tPairs trs σ H Q →
    wpAny (model X.prog X.w) X.A (evalPairs (pairTrees keys values X.env pos)) (fun vs s' => ∃ ps H', Inv X pins σ H' s' ∧ VV ps vs ∧ Q ps H') X.xe s
theorem pps_nil {X : Cx} {pos : Pos} : PPs X pos [] [] [] := fun pins s σ H Q I h => pairTrees_nil_walk ⟨[], H, I, .nil, h⟩
theorem pps_cons {X : Cx} {pos : Pos} {k v : Expr} {ks : List (Option Expr)} {vs : List Expr} {tk tv : TE} {trs : List (TE × TE)} (hk : PE X k tk) (hv : PE X v tv) (hr : PPs X pos ks vs trs) :
    PPs X pos (some k :: ks) (v :: vs) ((tk, tv) :: trs) := fun pins s σ H Q I h =>
  pairTrees_cons_walk (thn (hk pins s σ H _ I h) fun u s1 ⟨x, H1, I1, rx, q1⟩ => thn (hv pins s1 σ H1 _ I1 q1) fun w2 s2 ⟨y, H2, I2, ry, q2⟩ =>
    thn (hr pins s2 σ H2 _ I2 q2) fun ws s3 ⟨ps, H3, I3, rel, q3⟩ => ⟨(x, y) :: ps, H3, I3, .cons ⟨rx, ry⟩ rel, q3⟩)

def mergeK (kvs more : List (Key × V)) : List (Key × V) := more.foldl (fun acc kv => putK acc kv.1 kv.2) kvs
theorem KV.merge : ∀ {more : List (Key × V)} {rs : List (Key × Value)} {kvs : List (Key × V)} {vs : List (Key × Value)}, KV more rs → KV kvs vs → KV (mergeK kvs more) (merged vs rs) := by
  intro more rs kvs vs r
  unfold KV at r
  induction r generalizing kvs vs with
  | nil => intro q; exact q
  | @cons p q ps qs h t ih =>
    intro r0
    have e : KV (putK kvs p.1 p.2) (stored vs q.1 q.2) := by
      have := r0.put p.1 h.2
      rw [← h.1]; exact this
    exact ih e
theorem length_mergeK : ∀ (more kvs : List (Key × V)), (mergeK kvs more).length ≤ kvs.length + more.length
  | [], kvs => by show kvs.length ≤ kvs.length + 0; omega
  | p :: r, kvs => by
    have h1 := length_mergeK r (putK kvs p.1 p.2)
    have h2 := length_putK kvs p.1 p.2
    show (mergeK (putK kvs p.1 p.2) r).length ≤ _
    rw [List.length_cons]; omega
theorem carries_of {P : Program} {w : World} : ∀ {kvs : List (Key × V)} {ws : List (Value × Value)}, VV (kvs.map fun kv => (kV kv.1, kv.2)) ws → ∃ rs, Carries (mixKind P w) ws rs ∧ KV kvs rs
  | [], _, r => by rw [List.map_nil] at r; cases r; exact ⟨[], True.intro, .nil⟩
  | p :: kvs, _, r => by
    rw [List.map_cons] at r
    cases r with
    | @cons a b as bs h t =>
      obtain ⟨rs, c, q⟩ := carries_of (P := P) (w := w) t
      obtain ⟨b1, b2⟩ := b
      exact ⟨(p.1, b2) :: rs, ⟨kV_is h.1, rfl, c⟩, .cons ⟨rfl, h.2⟩ q⟩
/-- {k: v, ..} with keys ints and texts; the new dict stands empty while the pairs are made -/
def tDisp (trs : List (TE × TE)) : TE := fun σ H Q => ∀ p, H p = none → tPairs trs σ (upd H p (.dK [])) fun ps H2 => H2 p = some (.dK []) ∧ ∃ kvs : List (Key × V), ps = kvs.map (fun kv => (kV kv.1, kv.2)) ∧ kvs.length ≤ 15 ∧ Q (.ref p) (upd H2 p (.dK (mergeK [] kvs)))
theorem pe_disp {X : Cx} {pos : Pos} {keys : List (Option Expr)} {values : List Expr} {trs : List (TE × TE)} (h : PPs X pos keys values trs) (hall : keys.all (·.isSome) = true) (hl : keys.length = values.length) (h0 : keys ≠ [])
    (h15 : keys.length ≤ 15) : PE X (.Dict keys values pos) (tDisp trs) := by
  intro pins s σ H Q I q
  have hn := I.hok.fresh (Nat.le_refl s.heap.objs.size)
  have I1 := I.laid (a := s.heap.objs.size) (o := .dK []) (h' := s.heap.push { cls := .type "dict", data := .dict #[] }) (t' := s.toks) (fun _ _ q => Heap.get?_push_of_some _ q) (Nat.le_refl _) (dk_empty s.heap I.big)
  refine wpAny_Dict_walk (knd := mixKind X.prog X.w) hall hl h0 h15 (thn (h pins _ σ _ _ I1 (q _ hn)) fun ws s2 ⟨ps, H2, I2, rel, e, kvs, ep, lk, q2⟩ => ?_)
  subst ep
  obtain ⟨rs, c, rk⟩ := carries_of (P := X.prog) (w := X.w) rel
  obtain ⟨z, hd, vs0, r0, dd⟩ := dk_of I2.hok e
  cases r0
  refine ⟨rs, c, dd, fun h' dd' hs => ⟨.ref s.heap.objs.size, _, ?_, rfl, q2⟩⟩
  have hz : (mergeK [] kvs).length ≤ sizeLine := by
    have h1 := length_mergeK kvs []
    rw [List.length_nil] at h1
    rw [sizeLine_eq]; omega
  have he : ∃ q, h'.get? s.heap.objs.size = some q := let ⟨q, _, _, hq, _⟩ := dd'; ⟨q, hq⟩
  exact d_write I2 (by rw [e]; exact True.intro) hs he (dk_new hz hd (rk.merge .nil) dd')


/-! ### methods -/
section
variable {X : Cx} {pins : List (Addr × Obj)} {σ : St} {H : Hp} {s : Shared} {a : Addr} {y d : V} {u r : Value} {o : Option V} {A : Around} {E : Value → Shared → Prop}
end

section
variable {X : Cx} {o e f : Expr} {apos cpos : Pos} {td ty tx : TE}
end

/-! ### dict(d): a copy -/
section
variable {X : Cx} {pins : List (Addr × Obj)} {σ : St} {H : Hp} {s : Shared} {a : Addr} {kvs : List (Key × V)} {A : Around} {E : Value → Shared → Prop}
theorem d_copyOf {Q : Value → Shared → Prop} (I : Inv X pins σ H s) (e : Rd H a (.dK kvs)) (h : ∀ p s', H p = none → Inv X pins σ (upd H p (.dK kvs)) s' → Q (.ref p) s') : wpAny (model X.prog X.w) A (call (.type "dict") [.ref a]) Q E s := by
  obtain ⟨z, hd, vs, rel, dd⟩ := dk_rd I.hok e
  refine kt_call_dict hd dd (by rw [← rel.length]; exact z) fun h' dd' hs => ?_
  refine h _ _ (I.hok.fresh (Nat.le_refl _)) (I.laid (a := s.heap.objs.size) (o := .dK kvs) (t' := s.toks) (fun b q hq => ?_) (Nat.le_refl _) (dk_new z (beq_eq_false_iff_ne.mpr (Ne.symm (Nat.ne_of_lt I.big))) rel dd'))
  exact (hs.2 b (Nat.ne_of_lt (Heap.lt_size hq))).trans (Heap.get?_push_of_some _ hq)
end


section
variable {X : Cx} {pins : List (Addr × Obj)} {σ : St} {H : Hp} {s : Shared} {a : Addr} {y : V} {u : Value} {A : Around} {E : Value → Shared → Prop}
end
end L2

namespace Att
open PySem PySem.W PySem.Calls PyProof.Rows

/-! ### the script -/
theorem ints_of_wellAll {P : Params} {h : Heap} : ∀ (ns : List Int) (vs : List Value), WellAll P h vs (ns.map WData.int) → IntsAre vs ns := by
  intro ns
  induction ns with
  | nil =>
    intro vs w
    rw [List.map_nil] at w
    cases w
    exact .nil
  | cons n ns ih =>
    intro vs w
    rw [List.map_cons] at w
    cases w with
    | cons a b =>
      cases a
      exact .cons _ _ (ih _ b)

theorem script_of {l : OpenLaw} {n : Nat} (hn : l.most = some n) {P : Params} {h : Heap} {args : List WData} {vals : List Value}
    (hpre : l.row.toRowW.claim.pre args = true) (hwl : WellAll P h vals args) :
    ∃ a vs ns, vals = [Value.ref a] ∧ args = [WData.list (ns.map WData.int)] ∧ h.get? a = some { cls := .type "list", data := .seq vs.toArray } ∧ IntsAre vs ns ∧ ns.length ≤ n := by
  have hsh : WShape.hasAll [] args [.list .int] = true := (pre_splitW hpre).1
  have hc : l.pre.holds [] { args := args } = true := (pre_splitW hpre).2
  obtain ⟨d, r, rfl, h1, h2⟩ := hasAllW_cons hsh
  obtain rfl := hasAllW_nil h2
  obtain ⟨xs, rfl, h3⟩ := hasW_list h1
  obtain ⟨ns, rfl⟩ := items_int h3
  have hlen : ns.length ≤ n := by
    unfold OpenLaw.pre at hc
    have h4 : (WTm.not (.lt (.lit (.int (n : Int))) (.len (.arg 0)))).holds [] { args := [.list (ns.map .int)] } = true := by
      have h4 := (holds_andW hc).1
      rw [hn] at h4
      exact h4
    have h5 := condW_of h4 (w_not (w_lt w_lit (w_len_list (w_arg rfl))))
    rw [List.length_map] at h5
    refine Nat.le_of_not_lt fun q => ?_
    have q' : (n : Int) < ((ns.length : Nat) : Int) := by omega
    first
      | (rw [decide_eq_true q'] at h5; exact absurd h5 (by decide))
      | (simp at h5; omega)
  cases hwl with
  | cons w1 w2 =>
    cases w2
    cases w1 with
    | list ho hall => exact ⟨_, _, ns, rfl, rfl, ho, ints_of_wellAll ns _ hall, hlen⟩

theorem post_true (l : OpenLaw) (args : List WData) : l.row.toRowW.claim.post args (.bool true) args = true :=
  postW_of (r := l.row.toRowW) (X := (true == true))
    (show WShape.has [] (.bool true) .bool = true by first | rfl | decide | simp [WShape.has, WShape.arms, WShape.armsAll])
    (show (WTm.eq .res (.lit (.bool true))).value [] { args := args, res := some (.bool true), after := args } = some (.bool (true == true)) from w_eq_bool (w_res rfl) w_lit) rfl

/-! ### the attachment: holds_open's last premise (the goal 'hc' behind k_head) from a wpAny of the law's body -/
/-- the same from a codeAny of the CALL (for a layer whose function contracts speak of calls) -/
theorem attach_call {l : OpenLaw} {n : Nat} {q : Program} {loose : List Str} {XP : (Str → Option Value) → Heap → Prop} {YP : World → Heap → Prop} {d : DefRec}
    (hn : l.most = some n) (hdf : d.params.defaults = [])
    (call : ∀ (w : World) (s₀ s₁ : Shared) (mg mb : Str → Option Value) (fa : Addr) (o : Obj) (pm cd doc : Value) (a : Addr) (vs : List Value) (ns : List Int),
      Ground q loose [] XP w s₀ mg mb s₁.heap → YP w s₁.heap →
      s₁.heap.get? fa = some o → o.data = .func (docDef d.name d.params d.body d.scope pm cd doc) → s₁.heap.CodeRec cd d.name → mg d.name = some (.ref fa) →
      s₁.heap.get? a = some { cls := .type "list", data := .seq vs.toArray } → IntsAre vs ns → ns.length ≤ n → s₁.gens = #[] →
      codeAny (model l.prog w) callerA (.call (.ref fa) ⟨[.ref a], []⟩) (fun r s' => r = .ok (.ret (.bool true)) ∧ OldK s₁.heap s'.heap ∧ s'.os = s₁.os ∧ AllBare s'.gens) s₁) :
    WalkO q loose XP YP l.row.toRowW d [] (fun f vs => PySem.call f vs) := by
  intro w s₀ s₁ mg mb G Y fa o pm cd doc dV kV ho hd hcd hD hmg hg args vals as hpre hlay hrd hwl hlo
  obtain rfl : dV = .none := Dflts.none hD hdf
  obtain rfl : kV = .none := Dflts.noKw hD
  obtain ⟨a, vs, ns, rfl, rfl, hobj, hints, hlen⟩ := script_of hn hpre hwl
  refine enter_call (codeAny_mono (call w s₀ s₁ mg mb fa o pm cd doc a vs ns G Y ho (fd_plain hd) hcd hmg hobj hints hlen hg) fun r s' hq => ?_)
  obtain ⟨rfl, h2, h3, h4⟩ := hq
  exact ⟨.inl ⟨.bool true, .bool true, [], rfl, fun _ => rfl, .bool true, post_true l _, fun _ => ⟨List.Pairwise.nil, fun _ hm => (nomatch hm)⟩⟩, h2, h3, h4⟩

/-! ### rules over ANY heap (no ledger) from facts about the written part K: the library's own take a ledger (News) for what they write -/
section
variable {prog : Program} {w : World} {A : Around} {E : Value → Shared → Prop} {s : Shared} {K : Frag}

/-! the whole heap as the ledger: makes every rule that writes through a ledger a rule over any heap -/
end
end Att

namespace L2
open PySem PySem.Spec PyProof.Rows

theorem vals_ints : ∀ {vs : List Value} {ns : List Int}, IntsAre vs ns → Vals (ns.map V.int) vs
  | _, _, .nil => .nil
  | _, _, .cons n t h => .cons ⟨t, rfl⟩ (vals_ints h)

/-- nothing is tracked but the script, known to the object (or it is an object of the module) -/
def Only (H : Hp) : Prop := ∀ b, H b = none ∨ ∃ o xs, H b = some (.frz o (.lst xs))

/-- THE HEAD: the law's promise, at the heap behind the top. F, the promise of the law's def, may use that base is part of the heap (so K.In base, base.Ns mainGlobals mg stand in Mod) -/
theorem law_call {P : Program} {w : World} {K : PySem.W.Frag} {mg mb : Str → Option Value} {CX : CXT} {k : Nat} {fa a : Addr} {fd : FuncData} {x : Str} {sp : Sp} {s₁ : Shared} {vs : List Value} {ns : List Int}
    (KX : K.In s₁.heap) (hns : s₁.heap.Ns mainGlobals mg) (hb : s₁.heap.Ns builtinsNs mb) (hbb : ∀ x : Str, x ≠ "__name__" → mb x = bootBuiltins x) (hlim : s₁.heap.NoLimit) (hg : s₁.gens = #[])
    (ha : s₁.heap.get? a = some { cls := .type "list", data := .seq vs.toArray }) (hi : IntsAre vs ns) (hl : ns.length ≤ sizeLine) (hr : Room k callerA)
    (F : ∀ base : Heap, K.In base → base.Ns mainGlobals mg → FnOk P w K mg base CX k fa fd [x] sp) (hbind : ∀ (s : Shared) (u : Value), BindsTo s fd ⟨[u], []⟩ [(x, u)])
    (hsp : ∀ H : Hp, Only H → SqL K H a (ns.map V.int) → sp [.ref a] H (fun v _ => v = .bl true) fun _ _ _ => False)
    (hCX : ∀ H e s', CX [] H s₁ (fun _ _ _ => False) e s' → False) :
    codeAny (model P w) callerA (.call (.ref fa) ⟨[.ref a], []⟩) (fun r s' => r = .ok (.ret (.bool true)) ∧ OldK s₁.heap s'.heap ∧ s'.os = s₁.os ∧ AllBare s'.gens) s₁ := by
  have rv := vals_ints hi
  have lenV := hi.length
  -- from an abstract heap in which nothing but the script may be tracked
  have core : ∀ H : Hp, Only H → SqL K H a (ns.map V.int) → HOk P w H s₁.heap → (∀ b, H b ≠ none → b = a) → (H a ≠ none → K.lookup a = none) →
      codeAny (model P w) callerA (.call (.ref fa) ⟨[.ref a], []⟩) (fun r s' => r = .ok (.ret (.bool true)) ∧ OldK s₁.heap s'.heap ∧ s'.os = s₁.os ∧ AllBare s'.gens) s₁ := by
    intro H hO hS hok hA hK
    have base_of : ∀ {b : Addr} {o : Obj}, s₁.heap.get? b = some o → H b = none → (hidT s₁.heap H).get? b = some o := fun e n => hidT_get e n
    have noA : ∀ {b : Addr} {o : Obj} {es : Array DictEntry} {ep : Nat}, s₁.heap.get? b = some o → o.data = .dict es ep → H b = none := fun {b o es ep} e d => by
      cases q : H b with
      | none => rfl
      | some u =>
        have e' : b = a := hA b (by rw [q]; simp)
        subst e'
        rw [ha] at e; cases e
        have d' : Data.seq vs.toArray _ = Data.dict es ep := d
        cases d'
    have nsK : ∀ {b : Addr} {m : Str → Option Value}, s₁.heap.Ns b m → (hidT s₁.heap H).Ns b m := fun {b m} ⟨o, es, ep, e, d, r⟩ => ⟨o, es, ep, base_of e (noA e d), d, r⟩
    have hKb : K.In (hidT s₁.heap H) := fun b o e => base_of (KX b o e) (by
      cases q : H b with
      | none => rfl
      | some u =>
        have e' : b = a := hA b (by rw [q]; simp)
        subst e'
        rw [hK (by rw [q]; simp)] at e; cases e)
    have hM : Mod K mg (hidT s₁.heap H) := ⟨hKb, nsK hns, ⟨mb, nsK hb, hbb⟩, let ⟨mc, h1, h2⟩ := hlim; ⟨mc, nsK h1, h2⟩⟩
    have e0 : Env0 P w K mg (hidT s₁.heap H) callerA [] s₁ H := ⟨rfl, hM, fun b o e => of_hidT e, Nat.le_of_eq (hidT_size _ _), trivial, fun b hb => absurd (show b ∈ ([] : List Addr) from hb) (by simp), hok, .of_eq hg⟩
    refine codeAny_mono ((F _ hKb (nsK hns)).run callerA [] s₁ H ⟨[.ref a], []⟩ [.ref a] [.ref a] _ _ hr e0 (hbind s₁ (.ref a)) (.cons rfl .nil) (hsp H hO hS)) fun r s' h => ?_
    cases r with
    | error e => exact (hCX H e s' h).elim
    | ok fl =>
      cases fl with
      | next => exact False.elim h
      | brk => exact False.elim h
      | cont => exact False.elim h
      | ret u =>
        obtain ⟨v, H', os, bare, un, hok', r', q⟩ := h
        have q' : v = .bl true := q
        subst q'
        obtain rfl : u = Value.bool true := r'
        refine ⟨rfl, OldK.of_keep fun b o e => ?_, os, bare⟩
        cases q : H b with
        | none => exact un.keep b o e q (by intro z; exact absurd (show b ∈ ([] : List Addr) from z) (by simp)) (by simp)
        | some u =>
          rcases hO b with z | ⟨ob, xs, z⟩
          · rw [q] at z; cases z
          · have z2 := un.frzs b ob _ z
            obtain ⟨e1, _⟩ := hok b _ z
            obtain ⟨e2, _⟩ := hok' b _ z2
            rw [e] at e1; cases e1
            exact e2
  cases hk : K.lookup a with
  | some o =>
    -- the script is one of the module's own objects
    have e := KX a o hk
    rw [ha] at e
    cases e
    refine core (fun _ => none) (fun _ => .inl rfl) (.inr ⟨_, vs.toArray, _, hk, rfl, rfl, rfl, by rw [List.size_toArray, lenV]; exact hl, by simpa using rv⟩) (fun b u z => by have z' : (none : Option HO) = some u := z; cases z') (fun b z => absurd rfl z) fun z => absurd rfl z
  | none =>
    refine core (fun b => if b = a then some (.frz { cls := .type "list", data := .seq vs.toArray } (.lst (ns.map V.int))) else none) (fun b => ?_) (.inl (.inr ⟨{ cls := .type "list", data := .seq vs.toArray }, if_pos rfl⟩)) (fun b u z => ?_) (fun b z => ?_) fun _ => hk
    · by_cases hb : b = a
      · exact .inr ⟨_, _, if_pos hb⟩
      · exact .inl (if_neg hb)
    · by_cases hb : b = a
      · have z' := (if_pos hb).symm.trans z
        cases z'
        subst hb
        exact ⟨ha, by rw [List.length_map]; exact hl, vs, _, rv, ha⟩
      · have z' := (if_neg hb).symm.trans z
        cases z'
    · by_cases hb : b = a
      · exact hb
      · exact absurd (if_neg hb) z
end L2

namespace L2
open PySem PySem.Spec PyProof.Rows

/-- the goal that k_head leaves (case hc), from the law's promise. F gives the function object fd (K's own) once, then the promise over every base -/
theorem walk_of {l : PySem.W.OpenLaw} {n k : Nat} {q : Program} {loose : List Str} {XP : (Str → Option Value) → Heap → Prop} {YP : World → Heap → Prop} {d : DefRec} {K : Params → PySem.W.Frag} {CX : World → CXT} {sp : World → Sp} {x : Str}
    (hn : l.most = some n) (hn2 : n ≤ sizeLine) (hdf : d.params.defaults = []) (hr : Room k callerA)
    (hY : ∀ (w : World) (h : Heap), YP w h → (K w.params).In h)
    (F : ∀ (w : World) (mg : Str → Option Value) (fa : Addr) (h : Heap), (K w.params).In h → h.Ns mainGlobals mg → mg d.name = some (.ref fa) →
      ∃ fd : FuncData, (∀ (s : Shared) (u : Value), BindsTo s fd ⟨[u], []⟩ [(x, u)]) ∧
        ∀ base : Heap, (K w.params).In base → base.Ns mainGlobals mg → FnOk l.prog w (K w.params) mg base (CX w) k fa fd [x] (sp w))
    (hsp : ∀ (w : World) (H : Hp) (a : Addr) (ns : List Int), ns.length ≤ n → Only H → SqL (K w.params) H a (ns.map V.int) → sp w [.ref a] H (fun v _ => v = .bl true) fun _ _ _ => False)
    (hCX : ∀ (w : World) (H : Hp) (s : Shared) (e : Value) (s' : Shared), CX w [] H s (fun _ _ _ => False) e s' → False) :
    PySem.W.WalkO q loose XP YP l.row.toRowW d [] (fun f vs => PySem.call f vs) := by
  refine Att.attach_call hn hdf fun w s₀ s₁ mg mb fa o pm cd doc a vs ns G Y ho hd hcd hmg hobj hints hlen hg => ?_
  have KX := hY w _ Y
  obtain ⟨fd, hb, hF⟩ := F w mg fa _ KX G.T.g hmg
  exact law_call KX G.T.g G.T.b G.T.builtins G.T.nolimit hg hobj hints (Nat.le_trans hlen hn2) hr hF hb (fun H hO hS => hsp w H a ns hlen hO hS) fun H e s' => hCX w H s₁ e s'
end L2

/- THE LAST THEOREM (shape; LID, My.* are yours):
   My.Adr: a structure of the addresses that your layer names (classes, functions); My.Txt K t: a structure (Prop) of the equations over K;
   My.txt_mk : {K} {implicit addresses ..} (e1 : nsIn K mainGlobals "law" = some (some (.ref f))) (e2 : K.lookup f = some ⟨oc, od, .func (fnOf "law" "law" params body scope dV kV doc pm an cdv ct), sl⟩) (e3 : codeIn K cdv "law" = true) .. : ∃ t, My.Txt K t

set_option maxRecDepth 100000 in
set_option maxHeartbeats 0 in
theorem PySem.Challenge.cw_LID_holds : PySem.Challenge.rw_LID.Holds := by
  w_on; o_law; k_head; (case hw => w_witness2)
  k_fill
  refine L2.walk_of (l := PySem.Challenge.rw_LID) (n := 63) (k := 40) (x := "script") (CX := fun w => ..) (sp := fun _ => My.sp_law) rfl (by decide) rfl ⟨rfl, by decide, by decide⟩ (fun w h Y => PySem.W.kIn_of Y) ?F ?S ?C
  case F =>
    intro w mg fa h KX G hmg
    have T : ∃ t, My.Txt (L2.KOf KX) t := by
      dsimp only [L2.KOf]                          -- K must stand as «<heap const> w.params» for k_is
      refine' My.txt_mk ?e1 ?e2 ?e3 ..
      (case e1 => PySem.W.k_is)                    -- in the order: a name -> its address -> its object -> its parts
      (case e2 => PySem.W.k_is)
      ..
    obtain ⟨t, T⟩ := T
    have e0 := hmg.symm.trans (PySem.W.mg_of KX G T.law)
    cases e0                                       -- fa is the law's own address
    exact ⟨_, fun s u => .of_eq rfl, fun base kb nb => My.law_fn T kb nb⟩     -- if «.of_eq rfl» comes too early: refine' ⟨_, ?b, fun base kb nb => My.law_fn T kb nb⟩; exact fun s u => .of_eq rfl
  case S => exact fun w H a ns hl hO hS => ..
  case C => exact ..
(the tactic k_is has no namespace: write k_is) -/

/-! SHORT WORDS over the layer: a def of the text, its body, what a loop and a test want. -/
namespace L2
open PySem PySem.Spec PyProof.Rows

/-! ### the text by places -/
/-- the j-th statement of a class's body -/
def inClass (s : Stmt) (j : Nat) : Stmt := match s with
  | .ClassDef _ _ _ body _ _ _ _ _ _ _ => body.getD j (.Pass ⟨0, 0, 0, 0⟩)
  | _ => .Pass ⟨0, 0, 0, 0⟩
def defArgs (s : Stmt) : Arguments := match s with
  | .FunctionDef _ a _ _ _ _ _ _ _ _ => a
  | _ => { posonlyargs := [], args := [], vararg := none, kwonlyargs := [], kw_defaults := [], kwarg := none, defaults := [] }
def defBody (s : Stmt) : List Stmt := match s with
  | .FunctionDef _ _ b _ _ _ _ _ _ _ => b
  | _ => []
def defScope (s : Stmt) : Scope := match s with
  | .FunctionDef _ _ _ _ _ _ sc _ _ _ => sc
  | _ => { kind := .function, names := [], isGenerator := false, isCoroutine := false }

/-! ### no exception leaves a def -/
abbrev CX0 : CXT := fun _ _ _ _ _ _ => False
abbrev E0 : XK := fun _ _ _ => False
theorem pass0 {X : Cx} : Passes CX0 X E0 := fun _ _ _ _ _ _ _ h => h.elim

/-! ### a def (or method) of the text as it stands behind the top -/
structure Fun (K : PySem.W.Frag) (x qual : Str) (st : Stmt) (f : Addr) (fd : FuncData) : Prop where
  ex : ∃ (oc : Value) (od : Option Addr) (kV doc pm : Value) (an : Option Addr) (cdv ct : Value) (osl : Array (Option Value)),
    fd = PySem.W.fnOf x qual (defArgs st) (defBody st) (defScope st) .none kV doc pm an cdv ct ∧ K.lookup f = some ⟨oc, od, .func fd, osl⟩ ∧ PySem.W.codeIn K cdv qual = true
  kp : PySem.W.keepIn K (.ref f) = true
section
variable {P : Program} {w : World} {K : PySem.W.Frag} {mg : Str → Option Value} {base : Heap}
/-- THE RULE for a def: its body as a term of rules, and the reading of that term -/
theorem Fun.ok {x qual : Str} {st : Stmt} {f : Addr} {fd : FuncData} {N ps : List Str} {k : Nat} {sp : Sp} (F : Fun K x qual st f fd) (S : FnScope N ps (defScope st)) (len : ∀ vs H Q E, sp vs H Q E → vs.length = ps.length)
    (hbody : ∀ (cdv : Value) (A : Around) (outer : List Env) (s : Shared) (H : Hp) (vs : List V) (Q : VK) (E : XK), Room k (A.deeper (envOfC qual (defScope st) s.heap.objs.size f cdv)) → sp vs H Q E →
      ∃ t, PSs (cxOf CX0 P w K mg base N qual (defScope st) f cdv A outer s H E).nox (defBody st) t ∧ t { nx := fun _ H' => Q .non H', rt := Q } (start N vs) H) : FnOk P w K mg base CX0 (k + 1) f fd ps sp := by
  obtain ⟨oc, od, kV, doc, pm, an, cdv, ct, osl, rfl, lk, hcd⟩ := F.ex
  refine fn_of lk hcd S len fun A outer s H vs Q E hr hsp => ?_
  obtain ⟨t, h, q⟩ := hbody cdv A outer s H vs Q E hr hsp
  exact ⟨t, h.nox, q⟩
/-- how its arguments bind (no defaults): h is «fun _ _ _ _ _ _ us hl => match us, hl with | [_, _], _ => rfl», one _ a parameter -/
theorem Fun.binds {x qual : Str} {st : Stmt} {f : Addr} {fd : FuncData} {ps : List Str} (F : Fun K x qual st f fd)
    (h : ∀ (kV doc pm : Value) (an : Option Addr) (cdv ct : Value) (us : List Value), us.length = ps.length → bindArgs (PySem.W.fnOf x qual (defArgs st) (defBody st) (defScope st) .none kV doc pm an cdv ct) ⟨us, []⟩ = pure (ps.zip us)) : Binds K fd ps [] := by
  obtain ⟨oc, od, kV, doc, pm, an, cdv, ct, osl, rfl, lk, hcd⟩ := F.ex
  exact .all (h kV doc pm an cdv ct)
theorem fun_mk {x qual : Str} {st : Stmt} {f : Addr} {oc : Value} {od an : Option Addr} {osl : Array (Option Value)} {kV doc pm cdv ct : Value} (l : K.lookup f = some ⟨oc, od, .func (PySem.W.fnOf x qual (defArgs st) (defBody st) (defScope st) .none kV doc pm an cdv ct), osl⟩)
    (c : PySem.W.codeIn K cdv qual = true) (k : PySem.W.keepIn K (.ref f) = true) : Fun K x qual st f (PySem.W.fnOf x qual (defArgs st) (defBody st) (defScope st) .none kV doc pm an cdv ct) := ⟨⟨oc, od, kV, doc, pm, an, cdv, ct, osl, rfl, l, c⟩, k⟩
end
theorem small1000 {n : Nat} (h : n ≤ 1000) : n < sizeLine := Nat.lt_of_le_of_lt h (by decide)

/-! ### expressions in short: the name that stands in the i-th slot -/
section
variable {X : Cx}
theorem pv (i : Nat) {x : Str} {pos : Pos} (hN : X.N[i]? = some x := by rfl) (hv : Vis X.env.scope x := by first | exact Or.inl rfl | exact Or.inr (Or.inl rfl) | exact Or.inr (Or.inr rfl)) (hd : (x == ("__debug__" : Str)) = false := by decide)
    (hcd : (x == ("__classdict__" : Str)) = false := by decide) : PE X (.Name x pos) (tVar i) := pe_var hN hv hd hcd
end

/-! ### tests -/
theorem iteF {A B : Prop} (h : B) : if false = true then A else B := by
  rw [if_neg Bool.false_ne_true]
  exact h
theorem iteT {A B : Prop} (h : A) : if true = true then A else B := by
  rw [if_pos rfl]
  exact h
theorem ite2 {c A B : Prop} [Decidable c] (h1 : c → A) (h2 : ¬ c → B) : if c then A else B := by
  by_cases h : c
  · rw [if_pos h]
    exact h1 h
  · rw [if_neg h]
    exact h2 h
theorem iteNS {c A B : Prop} [Decidable c] (hc : c) (h : B) : if (!decide c) = true then A else B := by
  rw [decide_eq_true hc]
  exact iteF h

/-! ### heaps -/
/-- all that was tracked is as it was -/
def Same (H H' : Hp) : Prop := ∀ b o, H b = some o → H' b = some o
theorem Same.refl (H : Hp) : Same H H := fun _ _ h => h
theorem Same.trans {H H1 H2 : Hp} (a : Same H H1) (b : Same H1 H2) : Same H H2 := fun c o h => b c o (a c o h)
theorem Same.free {H H' : Hp} (e : Same H H') {l : Addr} (h : H' l = Option.none) : H l = Option.none := by
  cases q : H l with
  | none => rfl
  | some o =>
    rw [e l o q] at h
    cases h
theorem Same.seq {K : PySem.W.Frag} {H H' : Hp} {a : Addr} {xs : List V} (e : Same H H') (h : SqL K H a xs) : SqL K H' a xs := by
  rcases h with (h | ⟨o, h⟩) | h
  · exact .inl (.inl (e _ _ h))
  · exact .inl (.inr ⟨o, e _ _ h⟩)
  · exact .inr h

end L2

namespace L2
open PySem PySem.Spec PyProof.Rows
section
variable {X : Cx}
end
/-! ### a dict's pairs: keys that differ -/
section
variable {κ : Type} [DecidableEq κ]
theorem valV_not {kvs : List (κ × V)} {k : κ} (h : valV kvs k = none) : ¬ k ∈ kvs.map (·.1) := by
  intro m
  obtain ⟨p, hp, e⟩ := List.mem_map.mp m
  have q : (kvs.any fun kv => decide (kv.1 = k)) = true := List.any_eq_true.mpr ⟨p, hp, decide_eq_true e⟩
  rw [valV_any, h] at q
  exact absurd q (by simp)
theorem nd_snoc : ∀ {l : List κ} {k : κ}, l.Nodup → ¬ k ∈ l → (l ++ [k]).Nodup
  | [], k, _, _ => by simp
  | a :: r, k, h, hk => by
    obtain ⟨h1, h2⟩ := List.nodup_cons.mp h
    show (a :: (r ++ [k])).Nodup
    refine List.nodup_cons.mpr ⟨fun m => ?_, nd_snoc h2 fun m => hk (List.mem_cons.mpr (Or.inr m))⟩
    rcases List.mem_append.mp m with q | q
    · exact h1 q
    · exact hk (List.mem_cons.mpr (Or.inl (List.mem_singleton.mp q).symm))
theorem nd_putK {kvs : List (κ × V)} {k : κ} (v : V) (hn : (kvs.map (·.1)).Nodup) (h : valV kvs k = none) : ((putK kvs k v).map (·.1)).Nodup := by
  rw [putK_new v h, List.map_append]
  exact nd_snoc hn (valV_not h)
end
end L2


set_option Elab.async false
set_option linter.all false
set_option maxRecDepth 100000
set_option maxHeartbeats 4000000
/-! COMPREHENSIONS over the hand layer: [elt for tg in iter], [elt for tg in iter if c], and name = [..] -/
namespace L2
open PySem PySem.Spec PyProof.Rows

/-! ### what a block's closure is -/
def clos (cells : List (Str × Addr)) : List (Str × NameKind) → List (Str × Addr) → List (Str × Addr)
  | [], acc => acc
  | (n, k) :: r, acc => clos cells r (if k == .free then (n, (cells.lookup n).getD 0) :: acc else acc)
theorem clos_go {env : Env} : ∀ (names : List (Str × NameKind)) (acc : List (Str × Addr)), (∀ x ∈ names, x.2 = .free → ∃ c, env.cells.lookup x.1 = some c) →
    (forIn (m := Sem) names acc fun x r => if (x.2 == NameKind.free) = true then (do let a ← cellOf env x.1; pure (ForInStep.yield ((x.1, a) :: r))) else pure (ForInStep.yield r)) = pure (clos env.cells names acc)
  | [], acc, _ => rfl
  | (n, k) :: r, acc, h => by
    have hr : ∀ x ∈ r, x.2 = .free → ∃ c, env.cells.lookup x.1 = some c := fun x hx => h x (List.mem_cons_of_mem _ hx)
    rw [List.forIn_cons]
    by_cases hk : k = .free
    · subst hk
      obtain ⟨c, hc⟩ := h (n, .free) List.mem_cons_self rfl
      have hc : env.cells.lookup n = some c := hc
      have e : cellOf env n = pure c := by unfold cellOf; rw [hc]
      have q := clos_go r ((n, c) :: acc) hr
      show ((do let a ← cellOf env n; pure (ForInStep.yield ((n, a) :: acc))) >>= _) = _
      rw [e]
      refine Eq.trans ?goalA (Eq.trans q ?goalB)
      case goalA => rfl
      case goalB =>
        show _ = pure (clos env.cells r ((n, (env.cells.lookup n).getD 0) :: acc))
        rw [hc]
        rfl
    · have hb : (k == NameKind.free) = false := by simpa using hk
      have q := clos_go r acc hr
      show ((if (k == NameKind.free) = true then _ else _) >>= _) = pure (clos env.cells r (if k == .free then _ else acc))
      rw [hb]
      exact q
theorem closureFor_eq {scope : Scope} {env : Env} (h : ∀ x ∈ scope.names, x.2 = .free → ∃ c, env.cells.lookup x.1 = some c) : closureFor scope env = pure (clos env.cells scope.names []) := by
  have q := clos_go scope.names [] h
  unfold closureFor
  show (forIn scope.names [] _ >>= fun cs => pure cs) = _
  refine Eq.trans (congrArg (fun t => t >>= fun cs => pure cs) (Eq.trans ?_ q)) ?_
  · rfl
  · rfl
theorem clos_lookup {cells : List (Str × Addr)} : ∀ (names : List (Str × NameKind)) (acc : List (Str × Addr)), (∀ y ∈ names, y.2 = .free → ∃ c, cells.lookup y.1 = some c) → (∀ x c, acc.lookup x = some c → cells.lookup x = some c) →
    ∀ x c, (clos cells names acc).lookup x = some c → cells.lookup x = some c
  | [], acc, _, h2 => h2
  | (n, k) :: r, acc, h1, h2 => by
    have hr : ∀ x ∈ r, x.2 = .free → ∃ c, cells.lookup x.1 = some c := fun x hx => h1 x (List.mem_cons_of_mem _ hx)
    refine clos_lookup r _ hr ?_
    intro x c e
    by_cases hk : k = .free
    · subst hk
      obtain ⟨c', hc⟩ := h1 (n, .free) List.mem_cons_self rfl
      have hc : cells.lookup n = some c' := hc
      rw [show (if (NameKind.free == NameKind.free) = true then (n, (cells.lookup n).getD 0) :: acc else acc) = (n, (cells.lookup n).getD 0) :: acc from rfl, hc] at e
      rw [List.lookup_cons] at e
      cases q : x == n with
      | true =>
        rw [q] at e
        have e1 : x = n := by simpa using q
        have e2 : c' = c := Option.some.inj e
        rw [e1, hc, e2]
      | false =>
        rw [q] at e
        exact h2 x c e
    · have hb : (k == NameKind.free) = false := by simpa using hk
      rw [hb] at e
      exact h2 x c e
theorem clos_has {cells : List (Str × Addr)} : ∀ (names : List (Str × NameKind)) (acc : List (Str × Addr)) (x : Str), ((x, NameKind.free) ∈ names ∨ ∃ c, acc.lookup x = some c) → ∃ c, (clos cells names acc).lookup x = some c
  | [], acc, x, h => h.elim (fun z => nomatch z) id
  | (n, k) :: r, acc, x, h => by
    refine clos_has r _ x ?_
    rcases h with h | ⟨c, h⟩
    · rcases List.mem_cons.mp h with e | e
      · have e1 : x = n := congrArg Prod.fst e
        have e2 : NameKind.free = k := congrArg Prod.snd e
        subst e2
        subst e1
        exact .inr ⟨(cells.lookup x).getD 0, by show List.lookup x ((x, _) :: acc) = _; rw [List.lookup_cons, beq_self_eq_true]⟩
      · exact .inl e
    · right
      by_cases hk : (k == NameKind.free) = true
      · rw [if_pos hk, List.lookup_cons]
        cases x == n with
        | true => exact ⟨_, rfl⟩
        | false => exact ⟨c, h⟩
      · rw [if_neg hk]
        exact ⟨c, h⟩

/-! ### an untracked record of ours is tracked; a tracked list is let go -/
section
variable {X : Cx} {pins : List (Addr × Obj)} {σ : St} {H : Hp} {s : Shared} {a : Addr} {o : HO}
theorem Inv.track (I : Inv X pins σ H s) (hn : H a = none) (h0 : X.s₀.heap.objs.size ≤ a) (hL : a ≠ X.env.locals) (h2 : ∀ x c, X.env.cells.lookup x = some c → c ≠ a) (h3 : ∀ p ∈ X.pn ++ pins, p.1 ≠ a)
    (new : ObjOk X.prog X.w (upd H a o) s.heap a o) : Inv X pins σ (upd H a o) s := by
  have old : ∀ b u, X.s₀.heap.get? b = some u → b ≠ a := fun b u e => Nat.ne_of_lt (Nat.lt_of_lt_of_le (Heap.lt_size e) h0)
  have trk : ∀ b u, H b = some u → b ≠ a := fun b u e z => by rw [z, hn] at e; cases e
  refine ⟨I.ok, I.os, I.bare, ⟨I.base.keep, I.base.slot, fun b u e n hx => ?_, I.base.there, fun b xs e => ?_, fun b u v e => ?_, fun b ps e => ?_⟩, I.loc, I.cell, ?_, fun x c e => ?_, fun p hp => ?_, fun b u e => ?_, I.len⟩
  · rw [upd_ne (old b u e)]; exact I.base.free b u e n hx
  · have q := I.base.tups b xs e; rw [upd_ne (trk _ _ q)]; exact q
  · have q := I.base.frzs b u v e; rw [upd_ne (trk _ _ q)]; exact q
  · obtain ⟨m, q⟩ := I.base.tbls b ps e; exact ⟨m, by rw [upd_ne (trk _ _ q)]; exact q⟩
  · rw [upd_ne (Ne.symm hL)]; exact I.free
  · rw [upd_ne (h2 x c e)]; exact I.freeC x c e
  · obtain ⟨e1, e2, e3⟩ := I.pin p hp
    exact ⟨e1, by rw [upd_ne (h3 p hp)]; exact e2, e3⟩
  · by_cases hb : b = a
    · subst hb; rw [upd_same] at e; cases e; exact new
    · rw [upd_ne hb] at e
      exact (I.hok b u e).stay (fun c v _ q => q) (fun c q => by rw [upd_ne (trk _ _ q)]; exact q) fun c xs q => by rw [upd_ne (trk _ _ q)]; exact q
theorem Inv.untrack {ys : List V} (I : Inv X pins σ (upd H a (.lst ys)) s) (hn : H a = none) : Inv X pins σ H s := by
  have off : ∀ b, upd H a (.lst ys) b = none → H b = none := fun b e => by
    by_cases hb : b = a
    · rw [hb, upd_same] at e; cases e
    · rw [upd_ne hb] at e; exact e
  have off2 : ∀ b u, upd H a (.lst ys) b = some u → u ≠ .lst ys → H b = some u := fun b u e ne => by
    by_cases hb : b = a
    · rw [hb, upd_same] at e; cases e; exact absurd rfl ne
    · rw [upd_ne hb] at e; exact e
  refine ⟨I.ok, I.os, I.bare, ⟨I.base.keep, I.base.slot, fun b u e n hx => off _ (I.base.free b u e n hx), I.base.there, fun b xs e => off2 _ _ (I.base.tups b xs e) (by intro z; cases z), fun b u v e => off2 _ _ (I.base.frzs b u v e) (by intro z; cases z), fun b ps e => ?_⟩, I.loc, I.cell, off _ I.free, fun x c e => off _ (I.freeC x c e), fun p hp => ?_, fun b u e => ?_, I.len⟩
  · obtain ⟨m, q⟩ := I.base.tbls b ps e; exact ⟨m, off2 _ _ q (by intro z; cases z)⟩
  · obtain ⟨e1, e2, e3⟩ := I.pin p hp
    exact ⟨e1, off _ e2, e3⟩
  · have hb : b ≠ a := fun z => by rw [z, hn] at e; cases e
    exact (I.hok b u (by rw [upd_ne hb]; exact e)).stay (fun c v _ q => q) (fun c q => off2 _ _ q (by intro z; cases z)) fun c xs q => off2 _ _ q (by intro z; cases z)
end

/-! ### the names of a block: those of the def first, the block's own behind; ms: which of them keep their values inside -/
def maskS : List Bool → St → St
  | [], _ => []
  | _ :: bs, [] => none :: maskS bs []
  | b :: bs, v :: σ => cond b v none :: maskS bs σ
theorem maskS_length : ∀ (ms : List Bool) (σ : St), (maskS ms σ).length = ms.length
  | [], _ => rfl
  | _ :: bs, [] => by show (maskS bs []).length + 1 = bs.length + 1; rw [maskS_length bs []]
  | b :: bs, v :: σ => by show (maskS bs σ).length + 1 = bs.length + 1; rw [maskS_length bs σ]
theorem maskS_get : ∀ {ms : List Bool} {σ : St} {i : Nat} {v : V}, (maskS ms σ)[i]? = some (some v) → ms[i]? = some true ∧ σ[i]? = some (some v)
  | [], _, i, v, h => by simp [maskS] at h
  | b :: bs, [], 0, v, h => by simp [maskS] at h
  | b :: bs, [], i + 1, v, h => by
    have h' : (maskS bs [])[i]? = some (some v) := h
    have q := (maskS_get (ms := bs) (σ := []) (i := i) h').2
    simp at q
  | true :: bs, w :: σ, 0, v, h => ⟨rfl, h⟩
  | false :: bs, w :: σ, 0, v, h => by simp [maskS] at h
  | b :: bs, w :: σ, i + 1, v, h => by
    have h' : (maskS bs σ)[i]? = some (some v) := h
    exact maskS_get (ms := bs) (σ := σ) (i := i) h'
def okMask (sc : Scope) : List Str → List Str → List Bool → Bool
  | [], _, [] => true
  | x :: N, y :: NX, true :: ms => decide (x = y) && decide (sc.names.lookup x ≠ some .local) && okMask sc N NX ms
  | _ :: N, NX, false :: ms => okMask sc N NX.tail ms
  | _, _, _ => false
theorem okMask_len {sc : Scope} : ∀ {N NX : List Str} {ms : List Bool}, okMask sc N NX ms = true → ms.length = N.length
  | [], _, [], _ => rfl
  | x :: N, y :: NX, true :: ms, h => by
    rw [okMask, Bool.and_eq_true] at h
    rw [List.length_cons, List.length_cons, okMask_len h.2]
  | x :: N, [], false :: ms, h => by
    rw [okMask] at h
    rw [List.length_cons, List.length_cons, okMask_len h]
  | x :: N, y :: NX, false :: ms, h => by
    rw [okMask] at h
    rw [List.length_cons, List.length_cons, okMask_len h]
  | [], _, _ :: _, h => by simp [okMask] at h
  | _ :: _, _, [], h => by simp [okMask] at h
  | _ :: _, [], true :: _, h => by simp [okMask] at h
theorem okMask_at {sc : Scope} : ∀ {N NX : List Str} {ms : List Bool} {i : Nat} {x : Str}, okMask sc N NX ms = true → N[i]? = some x → ms[i]? = some true → NX[i]? = some x ∧ sc.names.lookup x ≠ some .local
  | x :: N, y :: NX, true :: ms, 0, z, h, h1, h2 => by
    rw [okMask, Bool.and_eq_true, Bool.and_eq_true] at h
    have e : x = z := Option.some.inj h1
    have e2 : x = y := of_decide_eq_true h.1.1
    subst e
    exact ⟨by rw [← e2]; rfl, of_decide_eq_true h.1.2⟩
  | x :: N, y :: NX, true :: ms, i + 1, z, h, h1, h2 => by
    rw [okMask, Bool.and_eq_true] at h
    exact okMask_at (i := i) h.2 h1 h2
  | x :: N, NX, false :: ms, 0, z, h, h1, h2 => by simp at h2
  | x :: N, [], false :: ms, i + 1, z, h, h1, h2 => by
    rw [okMask] at h
    have q := (okMask_at (i := i) h h1 h2).1
    simp at q
  | x :: N, y :: NX, false :: ms, i + 1, z, h, h1, h2 => by
    rw [okMask] at h
    exact okMask_at (i := i) h h1 h2
  | [], _, [], i, z, h, h1, h2 => by simp at h1
  | [], _, _ :: _, i, z, h, h1, h2 => by simp [okMask] at h
  | _ :: _, _, [], i, z, h, h1, h2 => by simp [okMask] at h
  | _ :: _, [], true :: _, i, z, h, h1, h2 => by simp [okMask] at h
/-- what is asked of a block's scope: closed, by decide +kernel -/
structure CompScope (out sc : Scope) (NX N : List Str) (ms : List Bool) : Prop where
  kind : sc.kind = .function
  nocell : ∀ x ∈ sc.names, x.2 ≠ .cell
  own : ∀ x ∈ sc.names, x.2 = .local → sc.names.lookup x.1 = some .local
  fre : ∀ x ∈ sc.names, x.2 = .free → out.names.lookup x.1 = some .cell ∨ out.names.lookup x.1 = some .free
  nd : N.Nodup
  mask : okMask sc N NX ms = true
/-- a target that stores in the slots ks alone -/
def Sets (g : TG) (ks : List Nat) : Prop := ∀ (x : V) (σ : St) (H : Hp) (Q Q' : St → Hp → Prop), g x σ H Q → (∀ σ2 H2, (σ2.length = σ.length ∧ ∀ i, i ∉ ks → σ2[i]? = σ[i]?) → Q σ2 H2 → Q' σ2 H2) → g x σ H Q'
theorem sets_name (i : Nat) : Sets (gName i) [i] := fun x σ H Q Q' h k => k _ _ ⟨List.length_set, fun j hj => by
  rw [List.getElem?_set_ne (fun z => hj (by simp [z]))]⟩ h
/-! ### the block's context -/
def cxComp (X : Cx) (sc : Scope) (N : List Str) (C : Addr) (ex : List Addr) (s : Shared) (H : Hp) : Cx :=
  { X with N := N, s₀ := s, H₀ := H, env := compEnvC sc (clos X.env.cells sc.names []) C X.env, outer := X.stack, ex := ex, fn := fun _ => false, pn := [], xe := fun _ _ => False }
/-- tests of a comprehension -/
def PTs (X : Cx) (ifs : List Expr) (t : TT) : Prop :=
  ∀ (pins : List (Addr × Obj)) (s : Shared) (σ : St) (H : Hp) (Q : Bool → Hp → Prop), Inv X pins σ H s → t σ H Q →
    wpAny (model X.prog X.w) X.A (forIn ifs true fun c r => if r = true then do let ok ← isTrue c X.env (eval c X.env); pure (ForInStep.yield ok) else pure (ForInStep.yield r)) (TP X pins σ Q) X.xe s
def tYes : TT := fun _ H Q => Q true H
theorem pts_nil {X : Cx} : PTs X [] tYes := fun pins s σ H Q I h => wpAny_tests_nil ⟨H, I, h⟩
theorem pts_one {X : Cx} {c : Expr} {t : TT} (h : PT X c t) : PTs X [c] t := fun pins s σ H Q I q => wpAny_tests_one (h pins s σ H Q I q)

/-- the reading of a comprehension: W, what holds ahead of the turn i (the items made so far, the heap) -/
def tComp (ms : List Bool) (wi : TI) (g : TG) (tc : TT) (te : TE) : TE := fun σ H Q => wi σ H fun J H1 =>
  ∃ W : Nat → Nat → List V → Hp → Prop, (∃ m, W 0 m [] H1) ∧ ∀ i m ys H, W i m ys H →
    (J.stop i H ∧ ∀ D, H D = none → Q (.ref D) (upd H D (.lst ys))) ∨
    (J.go i H ∧ ys.length < sizeLine ∧ ∃ N : List V → Hp → Prop, (∀ ys' H', N ys' H' → ∃ m', m' < m ∧ W (i + 1) m' ys' H') ∧
      ∀ x H', J.yld i H x H' → g x (maskS ms σ) H' fun σ2 H2 => tc σ2 H2 fun b H3 => if b = true then te σ2 H3 fun v H4 => N (ys ++ [v]) H4 else N ys H3)
section
variable {prog : Program} {w : World} {A : Around} {R : Result → Shared → Prop} {s : Shared}
theorem codeAny_compLoop_own {elt target iter : Expr} {ifs : List Expr} {scope : Scope} {pos : Pos} {it acc : Value} {env : Env} (I : Nat → Shared → Prop)
    (turn : ∀ n s, I n s → wpAny (model prog w) A (pyNext it) (fun r s₁ => match r with
      | none => R (.ok .next) s₁
      | some v => wpAny (model prog w) A (letOwnedTupleGo target it v) (fun _ s₁' => wpAny (model prog w) A (assign target env v) (fun _ s₂ =>
          wpAny (model prog w) A (forIn ifs true fun c r => if r = true then do let ok ← isTrue c env (eval c env); pure (ForInStep.yield ok) else pure (ForInStep.yield r)) (fun ok s₃ =>
            if ok = true then wpAny (model prog w) A (eval elt env) (fun x s₄ =>
              wpAny (model prog w) A (call (.builtin "list.append") [acc, x]) (fun _ s₅ => ∃ m, m < n ∧ I m s₅) (fun _ _ => False) s₄) (fun _ _ => False) s₃
            else ∃ m, m < n ∧ I m s₃) (fun _ _ => False) s₂) (fun _ _ => False) s₁') (fun _ _ => False) s₁) (fun _ _ => False) s)
    (n : Nat) (h : I n s) :
    codeAny (model prog w) A (.compLoop (.ListComp elt [⟨target, iter, ifs, 0⟩] scope pos) 0 it acc env) R s := by
  have fe : ∀ {α : Type} {t : Sem α} {Q : α → Shared → Prop} {E : Value → Shared → Prop} {s : Shared}, wpAny (model prog w) A t Q (fun _ _ => False) s → wpAny (model prog w) A t Q E s := fun h => wpAny_mono h (fun _ _ q => q) fun _ _ f => f.elim
  refine codeAny_loop rfl I (fun n s hI => ?_) n h
  show wpAny _ A ((compTurn (.ListComp elt [⟨target, iter, ifs, 0⟩] scope pos) 0 it acc env).onRaise (fun x => do noteFrame x env; theTreesLotGoes x)) _ _ s
  refine wpAny_noted ?_
  rw [compTurn_list]
  refine wpAny_bind (wpAny_standAt (wpAny_bind (wpAny_mono (turn n s hI) (fun r s₁ h₁ => ?_) fun _ _ f => f.elim)))
  cases r with
  | none => exact wpAny_pure h₁
  | some v =>
    refine wpAny_bind (wpAny_mono h₁ (fun _ s₁' h₁' => ?_) fun _ _ f => f.elim)
    refine wpAny_bind (wpAny_mono h₁' (fun _ s₂ h₂ => wpAny_bind (wpAny_mono h₂ (fun ok s₃ h₃ => ?_) fun _ _ f => f.elim)) fun _ _ f => f.elim)
    cases ok with
    | false => exact wpAny_pure ⟨rfl, h₃⟩
    | true =>
      exact wpAny_bind (wpAny_bind (wpAny_mono h₃ (fun x s₄ h₄ => wpAny_bind (wpAny_mono h₄ (fun _ s₅ h₅ => wpAny_pure (wpAny_pure ⟨rfl, h₅⟩)) fun _ _ f => f.elim)) fun _ _ f => f.elim))
end

/-! ### the rule -/
section
variable {X : Cx} {pins : List (Addr × Obj)} {σ : St} {H : Hp} {s s1 : Shared} {out sc : Scope} {N : List Str} {ms : List Bool}
theorem CompScope.cells (S : CompScope out sc X.N N ms) (ho : X.env.scope = out) (ok : X.Ok) : ∀ x ∈ sc.names, x.2 = .free → ∃ c, X.env.cells.lookup x.1 = some c := fun x hx hf => by
  subst ho
  exact ok.has x.1 (S.fre x hx hf)
theorem lookup_mem {α β : Type} [BEq α] [LawfulBEq α] : ∀ {l : List (α × β)} {x : α} {y : β}, l.lookup x = some y → (x, y) ∈ l
  | [], _, _, h => by simp at h
  | (a, b) :: r, x, y, h => by
    rw [List.lookup_cons] at h
    cases q : x == a with
    | true =>
      rw [q] at h
      have e1 : x = a := by simpa using q
      have e2 : b = y := Option.some.inj h
      rw [e1, e2]
      exact List.mem_cons_self
    | false =>
      rw [q] at h
      exact List.mem_cons_of_mem _ (lookup_mem h)
/-- the names of a block as relabelled: local stays; what is seen and not local was free -/
theorem relabel_lookup {env : Env} : ∀ {names : List (Str × NameKind)} {x : Str} {k : NameKind}, (∀ y ∈ names, y.2 ≠ .cell) →
    (names.map fun (n, k) => if (k == NameKind.free && env.scope.kind == .function && env.kindOf n == some .cell) then (n, NameKind.cell) else (n, k)).lookup x = some k → (k = .cell ∨ k = .free) → names.lookup x = some .free
  | [], _, _, _, h, _ => by simp at h
  | (n, k') :: r, x, k, hc, h, hk => by
    have hc' : ∀ y ∈ r, y.2 ≠ .cell := fun y hy => hc y (List.mem_cons_of_mem _ hy)
    have ih := @relabel_lookup env r x k hc'
    have hk' : k' ≠ .cell := hc (n, k') List.mem_cons_self
    replace h : List.lookup x ((if (k' == NameKind.free && env.scope.kind == .function && env.kindOf n == some .cell) = true then (n, NameKind.cell) else (n, k')) :: _) = some k := h
    cases hx : x == n with
    | true =>
      by_cases hb : (k' == NameKind.free && env.scope.kind == .function && env.kindOf n == some .cell) = true
      · rw [Bool.and_eq_true, Bool.and_eq_true] at hb
        have e : k' = .free := by simpa using hb.1.1
        rw [List.lookup_cons, hx, e]
      · rw [if_neg hb, List.lookup_cons, hx] at h
        have e : k' = k := Option.some.inj h
        rw [List.lookup_cons, hx, e]
        rcases hk with z | z
        · exact absurd (e.trans z) hk'
        · rw [z]
    | false =>
      have h2 : List.lookup x (r.map fun (n, k) => if (k == NameKind.free && env.scope.kind == .function && env.kindOf n == some .cell) then (n, NameKind.cell) else (n, k)) = some k := by
        by_cases hb : (k' == NameKind.free && env.scope.kind == .function && env.kindOf n == some .cell) = true
        · rw [if_pos hb, List.lookup_cons, hx] at h; exact h
        · rw [if_neg hb, List.lookup_cons, hx] at h; exact h
      rw [List.lookup_cons, hx]
      exact ih h2 hk
theorem relabel_local {env : Env} : ∀ {names : List (Str × NameKind)} {x : Str},
    (names.map fun (n, k) => if (k == NameKind.free && env.scope.kind == .function && env.kindOf n == some .cell) then (n, NameKind.cell) else (n, k)).lookup x = some .local → names.lookup x = some .local
  | [], _, h => by simp at h
  | (n, k') :: r, x, h => by
    have ih := @relabel_local env r x
    replace h : List.lookup x ((if (k' == NameKind.free && env.scope.kind == .function && env.kindOf n == some .cell) = true then (n, NameKind.cell) else (n, k')) :: _) = some .local := h
    cases hx : x == n with
    | true =>
      by_cases hb : (k' == NameKind.free && env.scope.kind == .function && env.kindOf n == some .cell) = true
      · rw [if_pos hb, List.lookup_cons, hx] at h
        have e : NameKind.cell = .local := Option.some.inj h
        cases e
      · rw [if_neg hb, List.lookup_cons, hx] at h
        rw [List.lookup_cons, hx]
        exact h
    | false =>
      rw [List.lookup_cons, hx]
      refine ih ?_
      by_cases hb : (k' == NameKind.free && env.scope.kind == .function && env.kindOf n == some .cell) = true
      · rw [if_pos hb, List.lookup_cons, hx] at h; exact h
      · rw [if_neg hb, List.lookup_cons, hx] at h; exact h
/-- a block is entered: its frame at C (the accumulator stands apart) -/
theorem Inv.block (I : Inv X pins σ H s) (S : CompScope out sc X.N N ms) (ho : X.env.scope = out) {C : Addr} {ex : List Addr} {t' : Nat} {h1 : Heap} {m : Str → Option Value} (hex : ∀ b ∈ ex, FpOk X pins H b) (hlt : ∀ b ∈ ex, b < s.heap.objs.size)
    (hC : s.heap.objs.size ≤ C) (hn : h1.Ns C m) (kp : ∀ b o, s.heap.get? b = some o → h1.get? b = some o) : Inv (cxComp X sc N C ex s H) [] (maskS ms σ) H { s with heap := h1, toks := t' } := by
  have hcells := S.cells ho I.ok
  have clk : ∀ x c, (clos X.env.cells sc.names []).lookup x = some c → X.env.cells.lookup x = some c := clos_lookup sc.names [] hcells (fun x c e => by simp at e)
  have seen : ∀ x, ((relabel sc X.env).names.lookup x = some .cell ∨ (relabel sc X.env).names.lookup x = some .free) → sc.names.lookup x = some .free := fun x hx => by
    rcases hx with z | z
    · exact relabel_lookup S.nocell z (.inl rfl)
    · exact relabel_lookup S.nocell z (.inr rfl)
  have hasC : ∀ x, sc.names.lookup x = some .free → ∃ c, (clos X.env.cells sc.names []).lookup x = some c := fun x hx => clos_has sc.names [] x (.inl (lookup_mem hx))
  have ok : (cxComp X sc N C ex s H).Ok := by
    refine ⟨I.ok.mod, S.kind, I.ok.glob, I.ok.blt, hC, fun x y c e1 e2 => I.ok.inj x y c (clk x c e1) (clk y c e2), fun x hx => hasC x (seen x hx), fun x c e => (by cases e), I.ok.hd, I.ok.frames, .inl rfl, fun b hb => ⟨?_, fun x c e => (hex b hb).2.2.2.2.1 x c (clk x c e)⟩, I.bs, ?_, fun b o e hb => ?_, fun b hb hb' => ?_, I.stack, I.stkFree⟩
    · exact Nat.ne_of_lt (Nat.lt_of_lt_of_le (hlt b hb) hC)
    · exact Nat.le_trans I.ok.bsz I.sz
    · rcases (hex b hb).2.2.2.1 with z | z
      · exact I.ok.noex b o e z
      · exact absurd (Nat.lt_of_lt_of_le (Heap.lt_size (I.ok.bs b o e).1) z) (Nat.lt_irrefl _)
    · rcases List.mem_cons.mp (I.stkSub b hb') with z | z
      · exact (hex b hb).2.1 z
      · exact (hex b hb).2.2.1 z
  obtain ⟨m0, _, hl0⟩ := I.loc
  refine ⟨ok, rfl, I.bare, Un.kept kp, ⟨m, hn, fun i x v e1 e2 e3 => ?_⟩, fun x c e => ?_, I.hok.fresh hC, fun x c e => I.freeC x c (clk x c e), fun p hp => absurd hp (by show p ∉ ([] ++ [] : List (Addr × Obj)); simp), I.hok.kept kp, ?_⟩
  · obtain ⟨g1, g2⟩ := maskS_get e2
    obtain ⟨g3, g4⟩ := okMask_at S.mask e1 g1
    have e3 : (relabel sc X.env).names.lookup x = some .local ∨ (relabel sc X.env).names.lookup x = some .cell ∨ (relabel sc X.env).names.lookup x = some .free := e3
    rcases e3 with z | z
    · exact absurd (relabel_local z) g4
    · have q := seen x z
      have w := S.fre (x, .free) (lookup_mem q) rfl
      have w : X.env.scope.names.lookup x = some .cell ∨ X.env.scope.names.lookup x = some .free := by rw [ho]; exact w
      obtain ⟨u, r, l⟩ := hl0 i x v g3 g2 (.inr w)
      refine ⟨u, r, ?_⟩
      rcases l with ⟨l, _⟩ | ⟨_, c, hc, o, hco, hcd⟩
      · have l : X.env.scope.names.lookup x = some .local := l
        rcases w with w | w <;> (rw [l] at w; cases w)
      · obtain ⟨c', hc'⟩ := hasC x q
        have e : c' = c := Option.some.inj ((clk x c' hc').symm.trans hc)
        subst e
        exact .inr ⟨z, c', hc', o, kp _ _ hco, hcd⟩
  · obtain ⟨v, o, hco, hcd⟩ := I.cell x c (clk x c e)
    exact ⟨v, o, kp _ _ hco, hcd⟩
  · rw [maskS_length, okMask_len S.mask]; rfl
variable {elt iter tg : Expr} {ifs : List Expr} {pos : Pos} {wi : TI} {g : TG} {tc : TT} {te : TE} {ks : List Nat}
/-- the block runs: RR is what is wanted at its end -/
theorem comp_core {E : Value → Shared → Prop} {RR : Value → Addr → Result → Shared → Prop} {it : Addr} {fp : List Addr} {tn : Nat → Heap → Prop} {J : It} {Qv : VK} (S : CompScope out sc X.N N ms) (ho : X.env.scope = out) (hc : X.calm = true) (hks : ∀ k ∈ ks, ms[k]? = some false) (hst : Sets g ks)
    (hg : ∀ C ex s H, PG (cxComp X sc N C ex s H) tg g) (ht : ∀ C ex s H, PTs (cxComp X sc N C ex s H) ifs tc) (he : ∀ C ex s H, PE (cxComp X sc N C ex s H) elt te)
    (I : Inv X pins σ H s) (T : Turn X.prog X.w X.K tg J fp it tn) (st0 : tn 0 s.heap) (f0 : ∀ b ∈ fp, FpOk X pins H b)
    (h : ∃ W : Nat → Nat → List V → Hp → Prop, (∃ m, W 0 m [] H) ∧ ∀ i m ys H, W i m ys H →
      (J.stop i H ∧ ∀ D, H D = none → Qv (.ref D) (upd H D (.lst ys))) ∨
      (J.go i H ∧ ys.length < sizeLine ∧ ∃ N : List V → Hp → Prop, (∀ ys' H', N ys' H' → ∃ m', m' < m ∧ W (i + 1) m' ys' H') ∧
        ∀ x H', J.yld i H x H' → g x (maskS ms σ) H' fun σ2 H2 => tc σ2 H2 fun b H3 => if b = true then te σ2 H3 fun v H4 => N (ys ++ [v]) H4 else N ys H3))
    (hRR : ∀ D C H' s' m', Inv X pins σ H' s' → H' C = none → s.heap.objs.size ≤ C → s'.heap.Ns C m' → Qv (.ref D) H' → RR (.ref D) C (.ok .next) s') :
    wpAny (model X.prog X.w) X.A (newList []) (fun acc s₃ => wpAny (model X.prog X.w) X.A (newFunctionEnv sc X.env.globals (clos X.env.cells sc.names []) [] X.env.qual none .none (some X.env)) (fun cenv s₄ =>
      codeAny (model X.prog X.w) X.A (.compStart (.ListComp elt [⟨tg, iter, ifs, 0⟩] sc pos) 0 (.ref it) acc { cenv with scope := relabel sc X.env }) (RR acc cenv.locals) s₄) E s₃) E s := by
  obtain ⟨W, ⟨m0, w0⟩, turn⟩ := h
  refine wpAny_newObj_type (wpAny_newFunctionEnv S.nocell (by intro y hy; simp at hy) (fun h₁ hns₁ hsb₁ => ?_) S.kind)
  dsimp only at hns₁ hsb₁ ⊢
  generalize hH2 : s.heap.push { cls := .type "list", dict := none, data := .seq ([] : List Value).toArray } = H2 at hns₁ hsb₁ ⊢
  generalize hDe : s.heap.objs.size = D at hns₁ hsb₁ ⊢
  generalize hCe : H2.objs.size = C at hns₁ hsb₁ ⊢
  have hCD : C = D + 1 := by rw [← hCe, ← hH2, Heap.size_push, hDe]
  have hDs : s.heap.objs.size ≤ D := Nat.le_of_eq hDe
  have hCs : s.heap.objs.size ≤ C := by omega
  have hDC : D ≠ C := by omega
  have below : ∀ b, b < s.heap.objs.size → b ≠ C ∧ b ≠ D := fun b hb => ⟨by omega, by omega⟩
  have old : ∀ b o, s.heap.get? b = some o → h₁.get? b = some o := fun b o e => hsb₁.extBut b o (below b (Heap.lt_size e)).1 (Heap.get?_push_of_some _ (hH2 ▸ Heap.get?_push_of_some _ e))
  have objD : h₁.get? D = some { cls := .type "list", dict := none, data := .seq ([] : List Value).toArray } := hsb₁.extBut _ _ hDC (Heap.get?_push_of_some _ (hH2 ▸ hDe ▸ Heap.get?_push_size _ rfl))
  have flt : ∀ b ∈ fp, b < s.heap.objs.size := fun b hb => by
    obtain ⟨o, e, _⟩ := T.obj 0 _ st0 b hb
    exact Heap.lt_size e
  have hcells := S.cells ho I.ok
  have clk : ∀ x c, (clos X.env.cells sc.names []).lookup x = some c → c < s.heap.objs.size := fun x c e => by
    obtain ⟨v, o, hco, _⟩ := I.cell x c (clos_lookup sc.names [] hcells (fun x c e => by simp at e) x c e)
    exact Heap.lt_size hco
  generalize hX : cxComp X sc N C fp s H = Y
  have hgY : PG Y tg g := hX ▸ hg C fp s H
  have htY : PTs Y ifs tc := hX ▸ ht C fp s H
  have heY : PE Y elt te := hX ▸ he C fp s H
  have Yprog : Y.prog = X.prog := by rw [← hX]; rfl
  have Yw : Y.w = X.w := by rw [← hX]; rfl
  have YK : Y.K = X.K := by rw [← hX]; rfl
  have Ycalm : Y.calm = true := by rw [← hX]; exact hc
  have YA : Y.A = X.A := by rw [← hX]; rfl
  have Yxe : Y.xe = fun _ _ => False := by rw [← hX]; rfl
  have Ypn : Y.pn = [] := by rw [← hX]; rfl
  have Yex : Y.ex = fp := by rw [← hX]; rfl
  have Ys0 : Y.s₀ = s := by rw [← hX]; rfl
  have YH0 : Y.H₀ = H := by rw [← hX]; rfl
  have Yfs : Y.fs = frs X.stack := by rw [← hX]; rfl
  have YL : Y.env.locals = C := by rw [← hX]; rfl
  have Ycl : Y.env.cells = clos X.env.cells sc.names [] := by rw [← hX]; rfl
  have Yenv : Y.env = { (newEnv sc C X.env.globals (clos X.env.cells sc.names []) X.env.qual none .none (some X.env) 0) with scope := relabel sc X.env } := by rw [← hX]; rfl
  have IY0 : ∀ t', Inv Y [] (maskS ms σ) H { s with heap := h₁, toks := t' } := fun t' => by rw [← hX]; exact I.block S ho f0 flt hCs hns₁ old
  have fpY : ∀ {H' : Hp} {ps : List (Addr × Obj)}, (∀ b ∈ fp, H' b = none) → (∀ p ∈ ps, p.1 = D) → ∀ b ∈ fp, FpOk Y ps H' b := fun {H' ps} hn hp b hb => by
    refine ⟨hn b hb, by rw [YL]; exact (below b (flt b hb)).1, fun z => ?_, .inl (by rw [Yex]; exact hb), fun x c e z => ?_, fun p hp' z => ?_⟩
    · rw [Yfs] at z
      rcases List.mem_cons.mp (I.stkSub b z) with y | y
      · exact (f0 b hb).2.1 y
      · exact (f0 b hb).2.2.1 y
    · rw [Ycl] at e
      exact (f0 b hb).2.2.2.2.1 x c (clos_lookup sc.names [] hcells (fun x c e => by simp at e) x c e) z
    · rw [Ypn] at hp'
      exact (below b (flt b hb)).2 (z.symm.trans (hp p hp'))
  have dY : ∀ {H' : Hp} {ps : List (Addr × Obj)}, H' D = none → (∀ p ∈ ps, p.1 ∈ fp) → FpOk Y ps H' D := fun {H' ps} hn hp => by
    refine ⟨hn, by rw [YL]; exact hDC, fun z => ?_, .inr (by rw [Ys0]; exact hDs), fun x c e z => ?_, fun p hp' z => ?_⟩
    · rw [Yfs] at z
      have q : H D = none := I.stkFree D z
      rcases List.mem_cons.mp (I.stkSub D z) with y | y
      · exact (below _ I.lt).2 y.symm
      · exact I.nofs hDs y
    · rw [Ycl] at e
      exact (below c (clk x c e)).2 z
    · rw [Ypn] at hp'
      exact (below p.1 (flt p.1 (hp p hp'))).2 z
  have wk : ∀ {σ6 : St}, (σ6.length = (maskS ms σ).length ∧ ∀ i, i ∉ ks → σ6[i]? = (maskS ms σ)[i]?) → (∀ (i : Nat) v, (maskS ms σ)[i]? = some (some v) → σ6[i]? = some (some v)) := fun {σ6} hf i v e => by
    rw [hf.2 i (fun z => ?_)]
    · exact e
    · have q := (maskS_get e).1
      rw [hks i z] at q
      cases q
  have loop : ∀ t', codeAny (model X.prog X.w) X.A (.compLoop (.ListComp elt [⟨tg, iter, ifs, 0⟩] sc pos) 0 (.ref it) (.ref D) Y.env) (RR (.ref D) C) { s with heap := h₁, toks := t' } := fun t' => by
    refine codeAny_compLoop_own (fun n s' => ∃ i ys H', Inv Y [] (maskS ms σ) H' s' ∧ tn i s'.heap ∧ (∀ b ∈ fp, H' b = none) ∧ H' D = none ∧ (∃ (its : List Value) (n : Nat), Vals ys its ∧ s'.heap.get? D = some { cls := .type "list", data := .seq its.toArray n }) ∧ ys.length ≤ sizeLine ∧ W i n ys H') ?_ m0
      ⟨0, [], H, IY0 t', T.keep _ _ _ st0 (fun b _ o e => old b o e), fun b hb => (f0 b hb).1, I.hok.fresh hDs, ⟨[], _, .nil, objD⟩, Nat.zero_le _, w0⟩
    rintro n s3 ⟨i, ys, H3, I3, st3, fr3, hD3, ⟨its, nn, vs3, ob3⟩, hl3, w3⟩
    rcases turn i n ys H3 w3 with ⟨stop, qn⟩ | ⟨go, hlen, NN, hN, step⟩
    · have z := T.done Y Yprog Yw YK Ycalm i (pinsAt [D] s3.heap) s3 (maskS ms σ) H3 (fun _ _ => False) (I3.pinned (fp := [D]) (pins := []) (fun b hb => ?c1) (fun b hb => ?c2)) (fpY fr3 (fun p hp => ?c3)) st3 stop
      case c1 => rw [List.mem_singleton.mp hb]; exact dY hD3 (fun p hp => absurd hp (by simp))
      case c2 => rw [List.mem_singleton.mp hb]; exact ⟨_, ob3, fun v e => by cases e⟩
      case c3 => exact List.mem_singleton.mp (of_pinsAt hp).1
      rw [YA] at z
      refine wpAny_mono z (fun r s4 hr4 => ?_) fun _ _ f => f
      obtain ⟨hr, I4⟩ := hr4
      subst hr
      obtain ⟨obD, hD4, _⟩ := I4.pin (D, _) (List.mem_append_right _ (mem_pinsAt (List.mem_singleton.mpr rfl) ob3))
      have b4 := I4.base
      rw [Yfs, Yex, YH0, Ys0] at b4
      have hok4 := I4.hok
      rw [Yprog, Yw] at hok4
      have I5 : Inv X pins σ H3 s4 := I.call' (ch := fp) (by rw [I4.os, Ys0]) b4 hok4 I4.bare (fun b hb => ⟨(f0 b hb).2.2.2.1, (f0 b hb).2.1, (f0 b hb).2.2.2.2.1, (f0 b hb).2.2.2.2.2⟩)
      have nC : H3 C = none := by rw [← YL]; exact I4.free
      obtain ⟨m4, hm4, _⟩ := I4.loc
      rw [YL] at hm4
      refine hRR D C (upd H3 D (.lst ys)) s4 m4 (I5.track hD4 (Nat.le_trans I.sz hDs) (fun z => (below _ I.lt).2 z.symm) (fun x c e => ?_) (fun p hp => ?_) ⟨hl3, its, nn, vs3, obD⟩) (by rw [upd_ne (Ne.symm hDC)]; exact nC) hCs hm4 (qn D hD4)
      · obtain ⟨v, o, hco, _⟩ := I.cell x c e
        exact (below c (Heap.lt_size hco)).2
      · exact (below _ (Heap.lt_size (I.pin p hp).1)).2
    · have z := T.item Y Yprog Yw YK Ycalm i (pinsAt [D] s3.heap) s3 (maskS ms σ) H3 (fun _ _ => False) (I3.pinned (fp := [D]) (pins := []) (fun b hb => ?c1) (fun b hb => ?c2)) (fpY fr3 (fun p hp => ?c3)) st3 go
      case c1 => rw [List.mem_singleton.mp hb]; exact dY hD3 (fun p hp => absurd hp (by simp))
      case c2 => rw [List.mem_singleton.mp hb]; exact ⟨_, ob3, fun v e => by cases e⟩
      case c3 => exact List.mem_singleton.mp (of_pinsAt hp).1
      rw [YA] at z
      refine wpAny_mono z (fun r s4 hr4 => ?_) fun _ _ f => f
      obtain ⟨u, hr, h4⟩ := hr4
      subst hr
      refine wpAny_mono h4 (fun _ s5 h5 => ?_) fun _ _ f => f
      obtain ⟨x, H5, I5, r5, y5, st5, fr5⟩ := h5
      have I5' := I5.pinned (fpY fr5 (fun p hp => List.mem_singleton.mp (of_pinsAt hp).1)) (T.obj _ _ st5)
      have q5 := hst x (maskS ms σ) H5 _ (fun σ2 H2 => (σ2.length = (maskS ms σ).length ∧ ∀ i, i ∉ ks → σ2[i]? = (maskS ms σ)[i]?) ∧ (tc σ2 H2 fun b H3 => if b = true then te σ2 H3 fun v H4 => NN (ys ++ [v]) H4 else NN ys H3)) (step x H5 y5) (fun σ2 H2 f q => ⟨f, q⟩)
      have z5 := hgY _ s5 (maskS ms σ) H5 x u _ I5' r5 q5
      rw [Yprog, Yw, YA, Yxe] at z5
      refine wpAny_mono z5 (fun _ s6 h6 => ?_) fun _ _ f => f
      obtain ⟨σ6, H6, I6, f6, q6⟩ := h6
      have z6 := htY _ s6 σ6 H6 _ I6 q6
      rw [Yprog, Yw, YA, Yxe] at z6
      refine wpAny_mono z6 (fun b s7 h7 => ?_) fun _ _ f => f
      obtain ⟨H7, I7, q7⟩ := h7
      -- what the pins say behind
      have back : ∀ {H8 : Hp} {s8 : Shared}, Inv Y (([] ++ pinsAt [D] s3.heap) ++ pinsAt fp s5.heap) σ6 H8 s8 → (∀ b ∈ fp, H8 b = none) ∧ H8 D = none ∧ s8.heap.get? D = some { cls := .type "list", data := .seq its.toArray nn } ∧ (∀ b ∈ fp, ∀ o, s5.heap.get? b = some o → s8.heap.get? b = some o) ∧ Inv Y (pinsAt fp s5.heap) σ6 H8 s8 := fun {H8 s8} I8 => by
        obtain ⟨obD, hD8, _⟩ := I8.pin (D, _) (List.mem_append_right _ (List.mem_append_left _ (List.mem_append_right _ (mem_pinsAt (List.mem_singleton.mpr rfl) ob3))))
        refine ⟨fun b hb => ?_, hD8, obD, fun b hb o e => (I8.pin (b, o) (List.mem_append_right _ (List.mem_append_right _ (mem_pinsAt hb e)))).1, I8.pins_of fun p hp => I8.pin p (List.mem_append_right _ (List.mem_append_right _ hp))⟩
        obtain ⟨o, e, _⟩ := T.obj _ _ st5 b hb
        exact (I8.pin (b, o) (List.mem_append_right _ (List.mem_append_right _ (mem_pinsAt hb e)))).2.1
      cases b with
      | false =>
        have q7 : NN ys H7 := q7
        obtain ⟨m', hm', w'⟩ := hN _ _ q7
        obtain ⟨k1, k2, k3, k4, k5⟩ := back I7
        show ∃ m, m < n ∧ _
        exact ⟨m', hm', i + 1, ys, H7, (k5.pins_of (fun p hp => absurd hp (by simp))).weak f6.1.symm (wk f6), T.keep _ _ _ st5 k4, k1, k2, ⟨its, nn, vs3, k3⟩, hl3, w'⟩
      | true =>
        have q7 : te σ6 H7 fun v H4 => NN (ys ++ [v]) H4 := q7
        have z7 := heY _ s7 σ6 H7 _ I7 q7
        rw [Yprog, Yw, YA, Yxe] at z7
        show wpAny _ _ _ _ _ _
        refine wpAny_mono z7 (fun v s8 h8 => ?_) fun _ _ f => f
        obtain ⟨v8, H8, I8, r8, q8⟩ := h8
        obtain ⟨k1, k2, k3, k4, k5⟩ := back I8
        have I9 : Inv Y (pinsAt fp s5.heap) σ6 (upd H8 D (.lst ys)) s8 := k5.track k2 (by rw [Ys0]; exact hDs) (by rw [YL]; exact hDC) (fun x c e z => (below c (clk x c (by rw [Ycl] at e; exact e))).2 z) (fun p hp => by
          rw [Ypn] at hp
          exact (below p.1 (flt p.1 (of_pinsAt hp).1)).2) ⟨hl3, its, nn, vs3, k3⟩
        have z8 := mt_append (X := Y) (pinsAt fp s5.heap) s8 σ6 (upd H8 D (.lst ys)) (.ref D) [v8] (.ref D) [v] (fun _ H9 => H9 = upd (upd H8 D (.lst ys)) D (.lst (ys ++ [v8]))) I9 rfl (.cons r8 .nil) ⟨D, ys, v8, rfl, rfl, upd_same, hlen, rfl⟩
        rw [Yprog, Yw, YA, Yxe] at z8
        refine wpAny_mono z8 (fun _ s9 h9 => ?_) fun _ _ f => f
        obtain ⟨_, H9, I9', _, e9⟩ := h9
        subst e9
        rw [upd_upd] at I9'
        have I10 := I9'.untrack k2
        obtain ⟨m', hm', w'⟩ := hN _ _ q8
        have ok9 : ObjOk Y.prog Y.w _ s9.heap D (.lst (ys ++ [v8])) := I9'.hok D _ upd_same
        obtain ⟨l9, its9, n9, vs9, ob9⟩ := ok9
        refine ⟨m', hm', i + 1, ys ++ [v8], H8, (I10.pins_of (fun p hp => absurd hp (by simp))).weak f6.1.symm (wk f6), T.keep _ _ _ st5 (fun b hb o e => ?_), k1, k2, ⟨its9, n9, vs9, ob9⟩, l9, w'⟩
        exact (I10.pin (b, o) (List.mem_append_right _ (mem_pinsAt hb e))).1
  have z := fun t' => codeAny_compStart_list (loop t') (T.self _ 0 _ _ _ (T.keep _ _ _ st0 (fun b _ o e => old b o e)) (loop t'))
  rw [Yenv] at z
  exact z _

/-- [elt for tg in iter (if c)] -/
theorem pe_comp {NX : List Str} (S : CompScope out sc NX N ms) (ho : X.env.scope = out) (hnx : X.N = NX) (hc : X.calm = true) (hi : PI X tg iter wi) (hst : Sets g ks) (hks : ∀ k ∈ ks, ms[k]? = some false)
    (hg : ∀ C ex s H, PG (cxComp X sc N C ex s H) tg g) (ht : ∀ C ex s H, PTs (cxComp X sc N C ex s H) ifs tc) (he : ∀ C ex s H, PE (cxComp X sc N C ex s H) elt te)
    (hs : ∀ x, foldedSetIterable iter X.env x = pure x := by intro _; rfl) : PE X (.ListComp elt [⟨tg, iter, ifs, 0⟩] sc pos) (tComp ms wi g tc te) := by
  intro pins s σ H Q I h
  subst hnx
  rw [eval_ListComp]
  refine wpAny_comprehension_free (use := none) (g := ⟨tg, iter, ifs, 0⟩) (gs := []) rfl hs (closureFor_eq (S.cells ho I.ok)) S.kind S.own (thn (hi pins s σ H _ I h) fun v s1 h1 => thn h1 fun itv s2 h2 => ?_)
  obtain ⟨it, fp, tn, J, H2, e, I2, T, st2, f2, hW⟩ := h2
  subst e
  refine comp_core (Qv := Q) S ho hc hks hst hg ht he I2 T st2 f2 hW ?_
  intro D C H' s' m' I' nC hC hm q
  refine ⟨m', hm, fun h' sb => ⟨.ref D, H', ?_, rfl, q⟩⟩
  exact I'.turned (t' := s'.toks) (it := C) (fun b o hb e => sb.extBut b o hb e) nC (Ne.symm (Nat.ne_of_lt (Nat.lt_of_lt_of_le I2.lt hC))) (.inr (Nat.le_trans I2.sz hC)) (fun x c e => by
    obtain ⟨v, o, hco, _⟩ := I2.cell x c e
    exact Nat.ne_of_lt (Nat.lt_of_lt_of_le (Heap.lt_size hco) hC)) (fun p hp => Nat.ne_of_lt (Nat.lt_of_lt_of_le (Heap.lt_size (I2.pin p hp).1) hC))
/-- name = [elt for tg in iter (if c)] -/
theorem ps_comp {NX : List Str} {i : Nat} {y : Str} {py spos : Pos} (S : CompScope out sc NX N ms) (ho : X.env.scope = out) (hnx : X.N = NX) (hc : X.calm = true) (hN : X.N.Nodup) (hy : X.N[i]? = some y) (hx : Loc X.env.scope y) (hi : PI X tg iter wi) (hst : Sets g ks) (hks : ∀ k ∈ ks, ms[k]? = some false)
    (hg : ∀ C ex s H, PG (cxComp X sc N C ex s H) tg g) (ht : ∀ C ex s H, PTs (cxComp X sc N C ex s H) ifs tc) (he : ∀ C ex s H, PE (cxComp X sc N C ex s H) elt te)
    (hsw : swapsWith (.ListComp elt [⟨tg, iter, ifs, 0⟩] sc pos) (some (.Name y py)) spos.line X.env = pure true)
    (hs : ∀ x, foldedSetIterable iter X.env x = pure x := by intro _; rfl) (hf : X.fn y = true ∨ X.env.scope.names.lookup y = some .local := by first | exact .inl rfl | exact .inr rfl | assumption) :
    PS X (.Assign [.Name y py] (.ListComp elt [⟨tg, iter, ifs, 0⟩] sc pos) spos) (tAsg (tComp ms wi g tc te) (gName i)) := by
  intro pins s σ H Dn I h
  subst hnx
  rw [exec_Assign_Name_used _ _ _ _ hsw]
  refine wpAny_bind (wpAny_standAt (wpAny_bind ?_))
  show wpAny _ X.A (do let _ ← comprehension (.ListComp elt [⟨tg, iter, ifs, 0⟩] sc pos) sc X.env _ (newList []) false (eval iter X.env) (some (assign (.Name y py) X.env))) _ _ s
  refine wpAny_bind (wpAny_mono (wpAny_comprehension_free (use := some (assign (.Name y py) X.env)) (g := ⟨tg, iter, ifs, 0⟩) (gs := []) (Q := fun _ s' => SP X pins Dn .next s') rfl hs (closureFor_eq (S.cells ho I.ok)) S.kind S.own (thn (hi pins s σ H _ I h) fun v s1 h1 => thn h1 fun itv s2 h2 => ?_))
    (fun _ s' hq => wpAny_pure (wpAny_pure hq)) fun _ _ e => e)
  obtain ⟨it, fp, tn, J, H2, e, I2, T, st2, f2, hW⟩ := h2
  subst e
  refine comp_core (Qv := fun x H1 => gName i x σ H1 Dn.nx) S ho hc hks hst hg ht he I2 T st2 f2 hW ?_
  intro D C H' s' m' I' nC hC hm q
  have cne : ∀ x c, X.env.cells.lookup x = some c → c ≠ C := fun x c e => by
    obtain ⟨v, o, hco, _⟩ := I2.cell x c e
    exact Nat.ne_of_lt (Nat.lt_of_lt_of_le (Heap.lt_size hco) hC)
  have lne : C ≠ X.env.locals := Ne.symm (Nat.ne_of_lt (Nat.lt_of_lt_of_le I2.lt hC))
  show wpAny _ X.A (assign (.Name y py) X.env (.ref D)) _ _ _
  refine wpAny_assign_Name (store_ok2 (v := .ref D) I' hN hy hx rfl (fun s'' I'' hsb => ?_) hf)
  obtain ⟨a, sba, ha⟩ := hsb
  have aC : C ≠ a := by
    rcases ha with z | z
    · rw [z]; exact lne
    · exact Ne.symm (cne y a z)
  refine ⟨m', hm.sameBut sba aC, fun h' sb => ⟨_, H', ?_, q⟩⟩
  exact I''.turned (t' := s''.toks) (it := C) (fun b o hb e => sb.extBut b o hb e) nC lne (.inr (Nat.le_trans I2.sz hC)) cne (fun p hp => Nat.ne_of_lt (Nat.lt_of_lt_of_le (Heap.lt_size (I2.pin p hp).1) hC))
end

/-! ### the forms one uses: what holds ahead of the turn i, of the items made and the heap -/
theorem comp_list {K : PySem.W.Frag} {a : Addr} {xs : List V} {B : V → List V → (List V → Hp → Prop) → Hp → Prop} {Z : List V → Hp → Prop} {H : Hp} (Pv : Nat → List V → Hp → Prop) (h0 : Pv 0 [] H) (hl : ∀ i ys H, i ≤ xs.length → Pv i ys H → SqL K H a xs)
    (hy : ∀ i ys H, i < xs.length → Pv i ys H → ys.length < sizeLine) (hs : ∀ i x ys H, xs[i]? = some x → Pv i ys H → B x ys (Pv (i + 1)) H) (hd : ∀ ys H, Pv xs.length ys H → Z ys H) :
    ∃ W : Nat → Nat → List V → Hp → Prop, (∃ m, W 0 m [] H) ∧ ∀ i m ys H, W i m ys H →
      ((Itl K a).stop i H ∧ Z ys H) ∨ ((Itl K a).go i H ∧ ys.length < sizeLine ∧ ∃ N : List V → Hp → Prop, (∀ ys' H', N ys' H' → ∃ m', m' < m ∧ W (i + 1) m' ys' H') ∧ ∀ x H', (Itl K a).yld i H x H' → B x ys N H') := by
  refine ⟨fun i m ys H => m = xs.length - i ∧ i ≤ xs.length ∧ Pv i ys H, ⟨xs.length, by simp, Nat.zero_le _, h0⟩, ?_⟩
  rintro i m ys H ⟨rfl, hi, p⟩
  have q := hl i ys H hi p
  by_cases hlt : i < xs.length
  · refine .inr ⟨⟨xs, xs[i], q, by simp [hlt]⟩, hy i ys H hlt p, Pv (i + 1), fun ys' H' p' => ⟨xs.length - (i + 1), by omega, rfl, hlt, p'⟩, fun x H' y => ?_⟩
    obtain ⟨e, y⟩ := y
    subst e
    exact hs i x ys _ (y xs q) p
  · have e : i = xs.length := by omega
    subst e
    exact .inl ⟨⟨xs, q, Nat.le_refl _⟩, hd ys H p⟩
theorem comp_range {lo : Int} {n : Nat} {B : V → List V → (List V → Hp → Prop) → Hp → Prop} {Z : List V → Hp → Prop} {H : Hp} (Pv : Nat → List V → Hp → Prop) (h0 : Pv 0 [] H)
    (hy : ∀ i ys H, i < n → Pv i ys H → ys.length < sizeLine) (hs : ∀ i ys H, i < n → Pv i ys H → B (.int (lo + i)) ys (Pv (i + 1)) H) (hd : ∀ ys H, Pv n ys H → Z ys H) :
    ∃ W : Nat → Nat → List V → Hp → Prop, (∃ m, W 0 m [] H) ∧ ∀ i m ys H, W i m ys H →
      ((Itr lo n).stop i H ∧ Z ys H) ∨ ((Itr lo n).go i H ∧ ys.length < sizeLine ∧ ∃ N : List V → Hp → Prop, (∀ ys' H', N ys' H' → ∃ m', m' < m ∧ W (i + 1) m' ys' H') ∧ ∀ x H', (Itr lo n).yld i H x H' → B x ys N H') := by
  refine ⟨fun i m ys H => m = n - i ∧ i ≤ n ∧ Pv i ys H, ⟨n, by simp, Nat.zero_le _, h0⟩, ?_⟩
  rintro i m ys H ⟨rfl, hi, p⟩
  by_cases hlt : i < n
  · refine .inr ⟨hlt, hy i ys H hlt p, Pv (i + 1), fun ys' H' p' => ⟨n - (i + 1), by omega, rfl, hlt, p'⟩, fun x H' y => ?_⟩
    obtain ⟨e, y⟩ := y
    subst e y
    exact hs i ys _ hlt p
  · have e : i = n := by omega
    subst e
    exact .inl ⟨Nat.le_refl _, hd ys H p⟩
end L2

set_option Elab.async false
set_option linter.all false
set_option maxRecDepth 100000
set_option maxHeartbeats 4000000
/-! DATA: None, bools, ints, texts, tuples and lists of these, however deep; ==, != and in over them -/
namespace L2
open PySem PySem.Spec PyProof.Rows

inductive Dt where
  | non | bl (b : Bool) | int (i : Int) | str (x : Str) | tup (l : List Dt) | lst (l : List Dt)

mutual
def dEq : Dt → Dt → Bool
  | .non, .non => true
  | .bl a, .bl b => a == b
  | .bl a, .int b => (if a then 1 else 0) == b
  | .int a, .bl b => a == (if b then 1 else 0)
  | .int a, .int b => a == b
  | .str a, .str b => a == b
  | .tup l, .tup m => dEqs l m
  | .lst l, .lst m => dEqs l m
  | _, _ => false
def dEqs : List Dt → List Dt → Bool
  | [], [] => true
  | a :: l, b :: m => dEq a b && dEqs l m
  | _, _ => false
end
mutual
theorem dEq_refl : ∀ d : Dt, dEq d d = true
  | .non => by rw [dEq]
  | .bl a => by rw [dEq]; exact beq_self_eq_true a
  | .int a => by rw [dEq]; exact beq_self_eq_true a
  | .str a => by rw [dEq]; exact beq_self_eq_true a
  | .tup l => by rw [dEq]; exact dEqs_refl l
  | .lst l => by rw [dEq]; exact dEqs_refl l
theorem dEqs_refl : ∀ l : List Dt, dEqs l l = true
  | [] => by rw [dEqs]
  | a :: l => by rw [dEqs, dEq_refl a, dEqs_refl l]; rfl
end
mutual
def dep : Dt → Nat
  | .tup l => deps l + 1
  | .lst l => deps l + 1
  | _ => 0
def deps : List Dt → Nat
  | [] => 0
  | a :: l => max (dep a) (deps l)
end
mutual
def Is (K : PySem.W.Frag) (H : Hp) : Dt → V → Prop
  | .non, v => v = .non
  | .bl b, v => v = .bl b
  | .int i, v => v = .int i
  | .str x, v => v = .str x
  | .tup l, v => ∃ a xs, v = .ref a ∧ SqT K H a xs ∧ Iss K H l xs
  | .lst l, v => ∃ a xs, v = .ref a ∧ SqL K H a xs ∧ Iss K H l xs
def Iss (K : PySem.W.Frag) (H : Hp) : List Dt → List V → Prop
  | [], vs => vs = []
  | d :: l, vs => ∃ v r, vs = v :: r ∧ Is K H d v ∧ Iss K H l r
end
theorem Iss.length {K : PySem.W.Frag} {H : Hp} : ∀ {l : List Dt} {vs : List V}, Iss K H l vs → vs.length = l.length
  | [], vs, h => by rw [Iss] at h; rw [h]; rfl
  | d :: l, vs, h => by
    rw [Iss] at h
    obtain ⟨v, r, rfl, _, h2⟩ := h
    rw [List.length_cons, List.length_cons, Iss.length h2]
theorem Iss.nil {K : PySem.W.Frag} {H : Hp} : Iss K H [] [] := by rw [Iss]
theorem Iss.cons {K : PySem.W.Frag} {H : Hp} {d : Dt} {l : List Dt} {v : V} {r : List V} (h1 : Is K H d v) (h2 : Iss K H l r) : Iss K H (d :: l) (v :: r) := by rw [Iss]; exact ⟨v, r, rfl, h1, h2⟩
theorem Iss.get {K : PySem.W.Frag} {H : Hp} : ∀ {l : List Dt} {vs : List V} {i : Nat} {v : V}, Iss K H l vs → vs[i]? = some v → ∃ d, l[i]? = some d ∧ Is K H d v
  | [], vs, i, v, h, e => by rw [Iss] at h; rw [h] at e; simp at e
  | d :: l, vs, 0, v, h, e => by
    rw [Iss] at h
    obtain ⟨w, r, rfl, h1, h2⟩ := h
    have e : w = v := Option.some.inj e
    subst e
    exact ⟨d, rfl, h1⟩
  | d :: l, vs, i + 1, v, h, e => by
    rw [Iss] at h
    obtain ⟨w, r, rfl, h1, h2⟩ := h
    exact Iss.get h2 (i := i) e
theorem Iss.strs {K : PySem.W.Frag} {H : Hp} : ∀ ns : List Str, Iss K H (ns.map Dt.str) (ns.map V.str)
  | [] => .nil
  | n :: ns => .cons (by rw [Is]) (Iss.strs ns)
/-- data stay where lists and tuples stay -/
theorem Same.tup {K : PySem.W.Frag} {H H' : Hp} {a : Addr} {xs : List V} (e : Same H H') (h : SqT K H a xs) : SqT K H' a xs := by
  rcases h with (h | ⟨o, h⟩) | h
  · exact .inl (.inl (e _ _ h))
  · exact .inl (.inr ⟨o, e _ _ h⟩)
  · exact .inr h
mutual
theorem Is.same {K : PySem.W.Frag} {H H' : Hp} (s : Same H H') : ∀ {d : Dt} {v : V}, Is K H d v → Is K H' d v
  | .non, v, h => by rw [Is] at h ⊢; exact h
  | .bl b, v, h => by rw [Is] at h ⊢; exact h
  | .int i, v, h => by rw [Is] at h ⊢; exact h
  | .str x, v, h => by rw [Is] at h ⊢; exact h
  | .tup l, v, h => by
    rw [Is] at h ⊢
    obtain ⟨a, xs, e, h1, h2⟩ := h
    exact ⟨a, xs, e, s.tup h1, Iss.same s h2⟩
  | .lst l, v, h => by
    rw [Is] at h ⊢
    obtain ⟨a, xs, e, h1, h2⟩ := h
    exact ⟨a, xs, e, s.seq h1, Iss.same s h2⟩
theorem Iss.same {K : PySem.W.Frag} {H H' : Hp} (s : Same H H') : ∀ {l : List Dt} {vs : List V}, Iss K H l vs → Iss K H' l vs
  | [], vs, h => by rw [Iss] at h ⊢; exact h
  | d :: l, vs, h => by
    rw [Iss] at h ⊢
    obtain ⟨v, r, e, h1, h2⟩ := h
    exact ⟨v, r, e, Is.same s h1, Iss.same s h2⟩
end
/-! ### equality -/
def ej (l m : List Dt) (j : Nat) : Bool := match l[j]?, m[j]? with
  | some a, some b => dEq a b
  | _, _ => false
theorem dEqs_all : ∀ l m : List Dt, ((List.range (min l.length m.length)).all (ej l m) && l.length == m.length) = dEqs l m
  | [], [] => by rw [dEqs]; rfl
  | [], b :: m => by simp [dEqs]
  | a :: l, [] => by simp [dEqs]
  | a :: l, b :: m => by
    rw [dEqs, ← dEqs_all l m]
    have e : min (a :: l).length (b :: m).length = min l.length m.length + 1 := by simp only [List.length_cons]; omega
    rw [e, List.range_succ_eq_map, List.all_cons, List.all_map]
    have e2 : (ej (a :: l) (b :: m) ∘ Nat.succ) = ej l m := by funext j; rfl
    have e3 : ej (a :: l) (b :: m) 0 = dEq a b := rfl
    have e4 : ((a :: l).length == (b :: m).length) = (l.length == m.length) := by simp
    rw [e2, e3, e4, Bool.and_assoc]
section
variable {X : Cx} {pins : List (Addr × Obj)} {σ : St} {H : Hp} {s : Shared}
theorem Inv.tupleD {K : PySem.W.Frag} (I : Inv X pins σ H s) (hK : X.K = K) {l : List Dt} {v : V} {u : Value} (h : Is K H (.tup l) v) (r : RelV v u) : ∃ (a : Addr) (xs : List V) (its : List Value), v = .ref a ∧ u = .ref a ∧ SqT K H a xs ∧ Iss K H l xs ∧ Vals xs its ∧ s.heap.IsTuple a its.toArray := by
  subst hK
  rw [Is] at h
  obtain ⟨a, xs, rfl, h1, h2⟩ := h
  obtain ⟨its, h3, h4, _⟩ := I.tuple h1
  exact ⟨a, xs, its, rfl, r, h1, h2, h3, h4⟩
theorem Inv.listD {K : PySem.W.Frag} (I : Inv X pins σ H s) (hK : X.K = K) {l : List Dt} {v : V} {u : Value} (h : Is K H (.lst l) v) (r : RelV v u) : ∃ (a : Addr) (xs : List V) (its : List Value), v = .ref a ∧ u = .ref a ∧ SqL K H a xs ∧ Iss K H l xs ∧ Vals xs its ∧ s.heap.IsList a its.toArray := by
  subst hK
  rw [Is] at h
  obtain ⟨a, xs, rfl, h1, h2⟩ := h
  obtain ⟨its, h3, h4, _⟩ := I.list h1
  exact ⟨a, xs, its, rfl, r, h1, h2, h3, h4.isList⟩
mutual
/-- one thing is two data: they are alike -/
theorem eq_same (I : Inv X pins σ H s) : ∀ (d e : Dt) {v : V}, Is X.K H d v → Is X.K H e v → dEq d e = true
  | .tup l, .tup m, v, h1, h2 => by
    rw [Is] at h1; rw [Is] at h2
    obtain ⟨a, xs, rfl, q1, q2⟩ := h1
    obtain ⟨b, ys, e, q3, q4⟩ := h2
    cases e
    have e := I.tuple_inj q1 q3
    subst e
    rw [dEq]
    exact eqs_same I l m q2 q4
  | .lst l, .lst m, v, h1, h2 => by
    rw [Is] at h1; rw [Is] at h2
    obtain ⟨a, xs, rfl, q1, q2⟩ := h1
    obtain ⟨b, ys, e, q3, q4⟩ := h2
    cases e
    have e := I.list_inj q1 q3
    subst e
    rw [dEq]
    exact eqs_same I l m q2 q4
  | .tup l, .lst m, v, h1, h2 => by
    rw [Is] at h1; rw [Is] at h2
    obtain ⟨a, xs, rfl, q1, q2⟩ := h1
    obtain ⟨b, ys, e, q3, q4⟩ := h2
    cases e
    obtain ⟨i1, _, k1, _⟩ := I.tuple q1
    obtain ⟨i2, _, k2, _⟩ := I.list q3
    exact absurd rfl (SeqAt.ne_of_list_tuple k2.isList k1)
  | .lst l, .tup m, v, h1, h2 => by
    rw [Is] at h1; rw [Is] at h2
    obtain ⟨a, xs, rfl, q1, q2⟩ := h1
    obtain ⟨b, ys, e, q3, q4⟩ := h2
    cases e
    obtain ⟨i1, _, k1, _⟩ := I.tuple q3
    obtain ⟨i2, _, k2, _⟩ := I.list q1
    exact absurd rfl (SeqAt.ne_of_list_tuple k2.isList k1)
  | .non, e, v, h1, h2 => by
    rw [Is] at h1; subst h1
    cases e <;> rw [Is] at h2 <;> first | rfl | (exfalso; first | (cases h2; done) | (obtain ⟨_, _, z, _⟩ := h2; cases z))
  | .bl b, e, v, h1, h2 => by
    rw [Is] at h1; subst h1
    cases e <;> rw [Is] at h2 <;> first | (cases h2; rw [dEq]; exact beq_self_eq_true _) | (exfalso; first | (cases h2; done) | (obtain ⟨_, _, z, _⟩ := h2; cases z))
  | .int b, e, v, h1, h2 => by
    rw [Is] at h1; subst h1
    cases e <;> rw [Is] at h2 <;> first | (cases h2; rw [dEq]; exact beq_self_eq_true _) | (exfalso; first | (cases h2; done) | (obtain ⟨_, _, z, _⟩ := h2; cases z))
  | .str b, e, v, h1, h2 => by
    rw [Is] at h1; subst h1
    cases e <;> rw [Is] at h2 <;> first | (cases h2; rw [dEq]; exact beq_self_eq_true _) | (exfalso; first | (cases h2; done) | (obtain ⟨_, _, z, _⟩ := h2; cases z))
  | .tup l, .non, v, h1, h2 => by rw [Is] at h1; rw [Is] at h2; obtain ⟨_, _, z, _⟩ := h1; rw [h2] at z; cases z
  | .tup l, .bl _, v, h1, h2 => by rw [Is] at h1; rw [Is] at h2; obtain ⟨_, _, z, _⟩ := h1; rw [h2] at z; cases z
  | .tup l, .int _, v, h1, h2 => by rw [Is] at h1; rw [Is] at h2; obtain ⟨_, _, z, _⟩ := h1; rw [h2] at z; cases z
  | .tup l, .str _, v, h1, h2 => by rw [Is] at h1; rw [Is] at h2; obtain ⟨_, _, z, _⟩ := h1; rw [h2] at z; cases z
  | .lst l, .non, v, h1, h2 => by rw [Is] at h1; rw [Is] at h2; obtain ⟨_, _, z, _⟩ := h1; rw [h2] at z; cases z
  | .lst l, .bl _, v, h1, h2 => by rw [Is] at h1; rw [Is] at h2; obtain ⟨_, _, z, _⟩ := h1; rw [h2] at z; cases z
  | .lst l, .int _, v, h1, h2 => by rw [Is] at h1; rw [Is] at h2; obtain ⟨_, _, z, _⟩ := h1; rw [h2] at z; cases z
  | .lst l, .str _, v, h1, h2 => by rw [Is] at h1; rw [Is] at h2; obtain ⟨_, _, z, _⟩ := h1; rw [h2] at z; cases z
theorem eqs_same (I : Inv X pins σ H s) : ∀ (l m : List Dt) {vs : List V}, Iss X.K H l vs → Iss X.K H m vs → dEqs l m = true
  | [], [], vs, h1, h2 => by rw [dEqs]
  | [], b :: m, vs, h1, h2 => by rw [Iss] at h1; rw [Iss] at h2; obtain ⟨_, _, z, _⟩ := h2; rw [h1] at z; cases z
  | a :: l, [], vs, h1, h2 => by rw [Iss] at h1; rw [Iss] at h2; obtain ⟨_, _, z, _⟩ := h1; rw [h2] at z; cases z
  | a :: l, b :: m, vs, h1, h2 => by
    rw [Iss] at h1; rw [Iss] at h2
    obtain ⟨v, r, rfl, q1, q2⟩ := h1
    obtain ⟨v', r', e, q3, q4⟩ := h2
    cases e
    rw [dEqs, eq_same I a b q1 q3, eqs_same I l m q2 q4]
    rfl
end
theorem dep_le {d : Dt} : ∀ {l : List Dt} {j : Nat}, l[j]? = some d → dep d ≤ deps l
  | [], j, h => by simp at h
  | a :: l, 0, h => by
    have e : a = d := Option.some.inj h
    subst e
    rw [deps]; omega
  | a :: l, j + 1, h => by
    have q := dep_le (l := l) (j := j) h
    rw [deps]; omega
/-- the items' answers -/
theorem items_eq {A : Around} {l m : List Dt} {xs ys : List V} {us vs : List Value} (ih : ∀ (j : Nat) (d e : Dt) {x y : V} {u v : Value}, l[j]? = some d → m[j]? = some e → Is X.K H d x → Is X.K H e y → RelV x u → RelV y v → SeqAt.EqAt A s u v (dEq d e))
    (h1 : Iss X.K H l xs) (h2 : Iss X.K H m ys) (r1 : Vals xs us) (r2 : Vals ys vs) : ∀ j (q1 : j < us.toArray.size) (q2 : j < vs.toArray.size), SeqAt.EqAt A s us.toArray[j] vs.toArray[j] (ej l m j) := by
  intro j q1 q2
  have q1' : j < us.length := by simpa using q1
  have q2' : j < vs.length := by simpa using q2
  have e1 : us.toArray[j] = us[j] := by simp
  have e2 : vs.toArray[j] = vs[j] := by simp
  rw [e1, e2]
  have lx : j < xs.length := by rw [r1.length]; exact q1'
  have ly : j < ys.length := by rw [r2.length]; exact q2'
  obtain ⟨u, hu, ru⟩ := r1.get (List.getElem?_eq_getElem lx)
  obtain ⟨v, hv, rv⟩ := r2.get (List.getElem?_eq_getElem ly)
  obtain ⟨d, hd, id⟩ := h1.get (List.getElem?_eq_getElem lx)
  obtain ⟨e, he, ie⟩ := h2.get (List.getElem?_eq_getElem ly)
  have e3 : us[j] = u := by rw [List.getElem?_eq_getElem q1'] at hu; exact Option.some.inj hu
  have e4 : vs[j] = v := by rw [List.getElem?_eq_getElem q2'] at hv; exact Option.some.inj hv
  have e5 : ej l m j = dEq d e := by unfold ej; rw [hd, he]
  rw [e3, e4, e5]
  exact ih j d e hd he id ie ru rv
theorem eqs_tup {l m : List Dt} {xs ys : List V} {us vs : List Value} (h1 : Iss X.K H l xs) (h2 : Iss X.K H m ys) (r1 : Vals xs us) (r2 : Vals ys vs) : ((List.range (min us.toArray.size vs.toArray.size)).all (ej l m) && us.toArray.size == vs.toArray.size) = dEqs l m := by
  have e1 : us.toArray.size = l.length := by rw [List.size_toArray, ← r1.length, h1.length]
  have e2 : vs.toArray.size = m.length := by rw [List.size_toArray, ← r2.length, h2.length]
  rw [e1, e2, dEqs_all]
/-- == of data, the answer that is asked for -/
theorem eqAt_D (I : Inv X pins σ H s) : ∀ (n : Nat) (A : Around) (d e : Dt) {x y : V} {u v : Value}, dep d ≤ n → A.units + n + 1 < cLine → Is X.K H d x → Is X.K H e y → RelV x u → RelV y v → SeqAt.EqAt A s u v (dEq d e) := by
  intro n
  induction n with
  | zero =>
    intro A d e x y u v hn hu h1 h2 r1 r2
    have hu0 : A.units < cLine := by omega
    cases d with
    | tup l => rw [dep] at hn; omega
    | lst l => rw [dep] at hn; omega
    | _ => 
      rw [Is] at h1; subst h1
      cases e with
      | tup m =>
        obtain ⟨a, xs, its, rfl, rfl, q1, q2, q3, q4⟩ := I.tupleD rfl h2 r2
        first
          | (cases r1; exact SeqAt.EqAt.none_tuple q4 hu0)
          | (cases r1; exact SeqAt.EqAt.bool_tuple _ q4 hu0)
          | (obtain ⟨t, rfl⟩ := r1; exact SeqAt.EqAt.int_tuple _ t q4 hu0)
          | (obtain ⟨t, rfl⟩ := r1; exact SeqAt.EqAt.str_tuple _ t q4 hu0)
      | lst m =>
        obtain ⟨a, xs, its, rfl, rfl, q1, q2, q3, q4⟩ := I.listD rfl h2 r2
        first
          | (cases r1; exact SeqAt.EqAt.none_list q4 hu0)
          | (cases r1; exact SeqAt.EqAt.bool_list _ q4 hu0)
          | (obtain ⟨t, rfl⟩ := r1; exact SeqAt.EqAt.int_list _ t q4 hu0)
          | (obtain ⟨t, rfl⟩ := r1; exact SeqAt.EqAt.str_list _ t q4 hu0)
      | _ =>
        rw [Is] at h2; subst h2
        exact eqAt_V r1 r2 rfl rfl
  | succ n ih =>
    intro A d e x y u v hn hu h1 h2 r1 r2
    have hu0 : A.units < cLine := by omega
    have hu1 : A.in1.units + n + 1 < cLine := by show A.units + 1 + n + 1 < cLine; omega
    cases d with
    | tup l =>
      obtain ⟨a, xs, its, rfl, rfl, q1, q2, q3, q4⟩ := I.tupleD rfl h1 r1
      rw [dep] at hn
      cases e with
      | tup m =>
        obtain ⟨b, ys, ist, rfl, rfl, p1, p2, p3, p4⟩ := I.tupleD rfl h2 r2
        by_cases hab : a = b
        · subst hab
          rw [eq_same I _ _ h1 h2]
          exact SeqAt.EqAt.same _
        · refine SeqAt.EqAt.of_refs hab ?_
          have z := SeqAt.RcAt.tuples q4 p4 hu0 (items_eq (X := X) (fun j d e {x y u v} hd _ g1 g2 g3 g4 => ih A.in1 d e (Nat.le_trans (dep_le hd) (by omega)) hu1 g1 g2 g3 g4) q2 p2 q3 p3)
          rw [eqs_tup q2 p2 q3 p3] at z
          rw [dEq]
          exact z
      | lst m =>
        obtain ⟨b, ys, ist, rfl, rfl, p1, p2, p3, p4⟩ := I.listD rfl h2 r2
        exact SeqAt.EqAt.tuple_list q4 p4 hu0
      | non => rw [Is] at h2; subst h2; cases r2; exact SeqAt.EqAt.tuple_none q4 hu0
      | bl b => rw [Is] at h2; subst h2; cases r2; exact SeqAt.EqAt.tuple_bool _ q4 hu0
      | int i => rw [Is] at h2; subst h2; obtain ⟨t, rfl⟩ := r2; exact SeqAt.EqAt.tuple_int _ t q4 hu0
      | str i => rw [Is] at h2; subst h2; obtain ⟨t, rfl⟩ := r2; exact SeqAt.EqAt.tuple_str _ t q4 hu0
    | lst l =>
      obtain ⟨a, xs, its, rfl, rfl, q1, q2, q3, q4⟩ := I.listD rfl h1 r1
      rw [dep] at hn
      cases e with
      | lst m =>
        obtain ⟨b, ys, ist, rfl, rfl, p1, p2, p3, p4⟩ := I.listD rfl h2 r2
        by_cases hab : a = b
        · subst hab
          rw [eq_same I _ _ h1 h2]
          exact SeqAt.EqAt.same _
        · refine SeqAt.EqAt.of_refs hab ?_
          rw [dEq]
          have ei := eqs_tup q2 p2 q3 p3
          by_cases hz : its.toArray.size = ist.toArray.size
          · have z := SeqAt.RcAt.lists q4 p4 hz hu0 (items_eq (X := X) (fun j d e {x y u v} hd _ g1 g2 g3 g4 => ih A.in1 d e (Nat.le_trans (dep_le hd) (by omega)) hu1 g1 g2 g3 g4) q2 p2 q3 p3)
            rw [← hz, Nat.min_self, beq_self_eq_true, Bool.and_true] at ei
            rw [ei] at z
            exact z
          · have hz' : (its.toArray.size == ist.toArray.size) = false := by simpa using hz
            rw [hz', Bool.and_false] at ei
            rw [← ei]
            exact SeqAt.RcAt.lists_lengths q4 p4 (by simpa using hz) hu0
      | tup m =>
        obtain ⟨b, ys, ist, rfl, rfl, p1, p2, p3, p4⟩ := I.tupleD rfl h2 r2
        exact SeqAt.EqAt.list_tuple q4 p4 hu0
      | non => rw [Is] at h2; subst h2; cases r2; exact SeqAt.EqAt.list_none q4 hu0
      | bl b => rw [Is] at h2; subst h2; cases r2; exact SeqAt.EqAt.list_bool _ q4 hu0
      | int i => rw [Is] at h2; subst h2; obtain ⟨t, rfl⟩ := r2; exact SeqAt.EqAt.list_int _ t q4 hu0
      | str i => rw [Is] at h2; subst h2; obtain ⟨t, rfl⟩ := r2; exact SeqAt.EqAt.list_str _ t q4 hu0
    | _ =>
      rw [Is] at h1; subst h1
      cases e with
      | tup m =>
        obtain ⟨a, xs, its, rfl, rfl, q1, q2, q3, q4⟩ := I.tupleD rfl h2 r2
        first
          | (cases r1; exact SeqAt.EqAt.none_tuple q4 hu0)
          | (cases r1; exact SeqAt.EqAt.bool_tuple _ q4 hu0)
          | (obtain ⟨t, rfl⟩ := r1; exact SeqAt.EqAt.int_tuple _ t q4 hu0)
          | (obtain ⟨t, rfl⟩ := r1; exact SeqAt.EqAt.str_tuple _ t q4 hu0)
      | lst m =>
        obtain ⟨a, xs, its, rfl, rfl, q1, q2, q3, q4⟩ := I.listD rfl h2 r2
        first
          | (cases r1; exact SeqAt.EqAt.none_list q4 hu0)
          | (cases r1; exact SeqAt.EqAt.bool_list _ q4 hu0)
          | (obtain ⟨t, rfl⟩ := r1; exact SeqAt.EqAt.int_list _ t q4 hu0)
          | (obtain ⟨t, rfl⟩ := r1; exact SeqAt.EqAt.str_list _ t q4 hu0)
      | _ =>
        rw [Is] at h2; subst h2
        exact eqAt_V r1 r2 rfl rfl
end
end L2

set_option Elab.async false
set_option linter.all false
set_option maxRecDepth 100000
set_option maxHeartbeats 4000000
/-! MORE RULES over the hand layer: == and in over data, insert, [::-1], sum, enumerate, whole slices of tuples, sums of tuples, isinstance, classes without __init__ -/
namespace L2
open PySem PySem.Spec PyProof.Rows
section
variable {X : Cx} {a b e o : Expr} {ta tb te : TE} {pos : Pos}
/-! ### ==, !=, in, not in -/
def seqD : Dt → Bool
  | .tup _ => true
  | .lst _ => true
  | _ => false
def rEqD (K : PySem.W.Frag) : R2 := fun x y H Q => ∃ d e, Is K H d x ∧ Is K H e y ∧ seqD d = true ∧ seqD e = true ∧ dep d ≤ 50 ∧ Q (.bl (dEq d e)) H
def rNeD (K : PySem.W.Frag) : R2 := fun x y H Q => ∃ d e, Is K H d x ∧ Is K H e y ∧ seqD d = true ∧ seqD e = true ∧ dep d ≤ 50 ∧ Q (.bl (!dEq d e)) H
theorem eqD_core {pins : List (Addr × Obj)} {s : Shared} {σ : St} {H : Hp} {d e : Dt} {x y : V} {v u : Value} (hu : X.A.units + 60 < cLine) (I : Inv X pins σ H s) (h1 : Is X.K H d x) (h2 : Is X.K H e y) (g1 : seqD d = true) (g2 : seqD e = true) (g3 : dep d ≤ 50) (rx : RelV x v) (ry : RelV y u) :
    SeqAt.RcAt X.A s v u (dEq d e) ∧ SeqAt.RcNeAt X.A s v u (!dEq d e) := by
  have hu0 : X.A.units < cLine := by omega
  have hu1 : X.A.in1.units + 50 + 1 < cLine := by show X.A.units + 1 + 50 + 1 < cLine; omega
  cases d with
  | tup l =>
    obtain ⟨a, xs, its, rfl, rfl, q1, q2, q3, q4⟩ := I.tupleD rfl h1 rx
    rw [dep] at g3
    cases e with
    | tup m =>
      obtain ⟨b, ys, ist, rfl, rfl, p1, p2, p3, p4⟩ := I.tupleD rfl h2 ry
      have it := items_eq (X := X) (A := X.A.in1) (fun j d e {x y u v} hd _ g1 g2 g3 g4 => eqAt_D I 50 X.A.in1 d e (Nat.le_trans (dep_le hd) (by omega)) hu1 g1 g2 g3 g4) q2 p2 q3 p3
      have z1 := SeqAt.RcAt.tuples q4 p4 hu0 it
      have z2 := SeqAt.RcNeAt.tuples q4 p4 hu0 it
      rw [eqs_tup q2 p2 q3 p3] at z1 z2
      rw [dEq]
      exact ⟨z1, z2⟩
    | lst m =>
      obtain ⟨b, ys, ist, rfl, rfl, p1, p2, p3, p4⟩ := I.listD rfl h2 ry
      exact ⟨SeqAt.RcAt.tuple_list q4 p4 hu0, SeqAt.RcNeAt.tuple_list q4 p4 hu0⟩
    | _ => cases g2
  | lst l =>
    obtain ⟨a, xs, its, rfl, rfl, q1, q2, q3, q4⟩ := I.listD rfl h1 rx
    rw [dep] at g3
    cases e with
    | lst m =>
      obtain ⟨b, ys, ist, rfl, rfl, p1, p2, p3, p4⟩ := I.listD rfl h2 ry
      have it := items_eq (X := X) (A := X.A.in1) (fun j d e {x y u v} hd _ g1 g2 g3 g4 => eqAt_D I 50 X.A.in1 d e (Nat.le_trans (dep_le hd) (by omega)) hu1 g1 g2 g3 g4) q2 p2 q3 p3
      rw [dEq]
      have ei := eqs_tup q2 p2 q3 p3
      by_cases hz : its.toArray.size = ist.toArray.size
      · have z1 := SeqAt.RcAt.lists q4 p4 hz hu0 it
        have z2 := SeqAt.RcNeAt.lists q4 p4 hz hu0 it
        rw [← hz, Nat.min_self, beq_self_eq_true, Bool.and_true] at ei
        rw [ei] at z1 z2
        exact ⟨z1, z2⟩
      · have hz' : (its.toArray.size == ist.toArray.size) = false := by simpa using hz
        rw [hz', Bool.and_false] at ei
        rw [← ei]
        exact ⟨SeqAt.RcAt.lists_lengths q4 p4 (by simpa using hz) hu0, SeqAt.RcNeAt.lists_lengths q4 p4 (by simpa using hz) hu0⟩
    | tup m =>
      obtain ⟨b, ys, ist, rfl, rfl, p1, p2, p3, p4⟩ := I.tupleD rfl h2 ry
      exact ⟨SeqAt.RcAt.list_tuple q4 p4 hu0, SeqAt.RcNeAt.list_tuple q4 p4 hu0⟩
    | _ => cases g2
  | _ => cases g1
theorem op_eqD (hu : X.A.units + 60 < cLine) : OpR X (compareOp .Eq) (rEqD X.K) := by
  intro pins s σ H x y v u Q I rx ry h
  obtain ⟨d, e, h1, h2, g1, g2, g3, q⟩ := h
  exact (eqD_core hu I h1 h2 g1 g2 g3 rx ry).1 _ _ _ _ ⟨.bl (dEq d e), H, I, rfl, q⟩
theorem op_neD (hu : X.A.units + 60 < cLine) : OpR X (compareOp .NotEq) (rNeD X.K) := by
  intro pins s σ H x y v u Q I rx ry h
  obtain ⟨d, e, h1, h2, g1, g2, g3, q⟩ := h
  exact (eqD_core hu I h1 h2 g1 g2 g3 rx ry).2 _ _ _ _ ⟨.bl (!dEq d e), H, I, rfl, q⟩
end
section
variable {X : Cx} {a b e o : Expr} {ta tb te : TE} {pos : Pos}
open Classical in
/-! ### xs.insert(i, e), 0 ≤ i -/
/-! ### xs[::-1] -/
/-! ### sum(xs) of ints -/
/-! ### slices of tuples, the whole among them; sums of tuples, empty ones among them -/
/-! ### isinstance(x, T), T a built-in type or an own class -/
theorem call_isinst : CallR X (.builtin "isinstance") (fun xs H Q => ∃ x n t b, xs = [x, .ty n] ∧ TyOf X.K H x t ∧ PySem.W.kitOne X.K t (.type n) = some b ∧ Q (.bl b) H) := by
  intro pins s σ H xs us Q I r h
  obtain ⟨x, n, t, b, rfl, ty, e, q⟩ := h
  obtain ⟨u, w', rfl, ru, rw'⟩ := vals2 r
  cases (show w' = Value.type n from rw')
  exact isinst_ok I ru ty e fun tk => ⟨.bl b, H, I.tok tk, rfl, q⟩
theorem call_isinstC : CallR X (.builtin "isinstance") (fun xs H Q => ∃ x C t b, xs = [x, .ref C] ∧ TyOf X.K H x t ∧ PySem.W.kitOne X.K t (.ref C) = some b ∧ Q (.bl b) H) := by
  intro pins s σ H xs us Q I r h
  obtain ⟨x, C, t, b, rfl, ty, e, q⟩ := h
  obtain ⟨u, w', rfl, ru, rw'⟩ := vals2 r
  cases (show w' = Value.ref C from rw')
  exact isinst_ok I ru ty e fun tk => ⟨.bl b, H, I.tok tk, rfl, q⟩
/-! ### C() of a class without __init__ -/
end
/-! ### for i, x in enumerate(xs) -/
section
variable {X : Cx} {a : Expr} {ta : TA} {elts : List Expr} {x1 : Nat} {tpos p pos : Pos}
end
/-! ### displays of written texts, ints: by one look -/
/-! ### a cut: what holds behind a statement, a test, an expression, said once -/
def tCutT (t : TT) : TT := fun σ H Q => ∃ I : Bool → Hp → Prop, t σ H I ∧ ∀ b H', I b H' → Q b H'
theorem pt_cut {X : Cx} {e : Expr} {t : TT} (h : PT X e t) : PT X e (tCutT t) := by
  intro pins s σ H Q I0 h0
  obtain ⟨I, h1, h2⟩ := h0
  exact thn (h pins s σ H _ I0 h1) fun b s' ⟨H', q1, q2⟩ => ⟨H', q1, h2 _ _ q2⟩
end L2

set_option Elab.async false
set_option linter.all false
set_option maxRecDepth 100000
set_option maxHeartbeats 4000000
/-! STILL MORE RULES: texts joined, cut, found; dicts copied and compared; great products; a method of a class that the reading names -/
namespace L2
open PySem PySem.Spec PyProof.Rows
section
variable {X : Cx} {a b e o : Expr} {ta tb te : TE} {pos : Pos}
/-! ### products of great numbers -/
theorem bits_of {n : Nat} {i : Int} (h : i.natAbs < 2 ^ n) : Builtin.Int.intBits i ≤ n := PySem.intBits_le_iff.mpr h
def CBig (i j : Int) : Prop := ∃ m n : Nat, m ≤ 100000 ∧ n ≤ 100000 ∧ i.natAbs < 2 ^ m ∧ j.natAbs < 2 ^ n
theorem op_mulB : OpR X (binaryOp .Mult) (rI CBig fun i j => .int (i * j)) := opI fun _ _ _ _ _ _ _ hc q => by
  obtain ⟨m, n, hm, hn, h1, h2⟩ := hc
  exact mul_int q (.of_bits (Nat.le_trans (bits_of h1) (by omega)) (Nat.le_trans (bits_of h2) (by omega)))
/-! ### ' '.join(xs) -/
theorem strsAre_of : ∀ {ys : List Str} {us : List Value}, Vals (ys.map V.str) us → StrsAre us ys
  | [], us, h => by cases h; exact .nil
  | y :: ys, us, h => by
    cases h with
    | cons r rr =>
      obtain ⟨t, rfl⟩ := r
      exact .cons _ _ (strsAre_of rr)
def rJoin (K : PySem.W.Frag) : V → List V → Hp → VK → Prop := fun x vs H Q => ∃ z p ys, x = .str z ∧ vs = [.ref p] ∧ SqL K H p (ys.map V.str) ∧ (ys.map (·.length)).sum + ys.length * z.length ≤ 16777216 ∧ Q (.str (Txt.join z ys)) H
theorem mt_join : MtR X "str.join" (rJoin X.K) := by
  intro pins s σ H x vs v us Q I rx rv h
  obtain ⟨z, p, ys, rfl, rfl, hx, hl, q⟩ := h
  obtain ⟨t, rfl⟩ := rx
  obtain ⟨u, rfl, ru⟩ := vals1 rv
  cases ru
  obtain ⟨its, r, pl, hz⟩ := I.list hx
  exact join_list pl.isList (strsAre_of r) hl fun t' k => ⟨.str (Txt.join z ys), H, I.tok k, ⟨_, rfl⟩, q⟩
/-! ### x.index(y), y one sign that is there -/
/-! ### x[lo:hi] of a text -/
theorem part_of {v : Value} {o : Option Int} (h : IsPart v o) : ∃ l : Option (Int × Tok), v = partValue l ∧ l.map (·.1) = o := by
  cases h with
  | none => exact ⟨none, rfl, rfl⟩
  | int i t => exact ⟨some (i, t), rfl, rfl⟩
theorem sl_str : SlR X (fun x lo hi H Q => ∃ z, x = .str z ∧ z.length ≤ sizeLine ∧ Q (.str (Txt.slice z lo hi)) H) := by
  intro pins s σ H x v vl vu lo hi sl Q I rx hs pl pu h
  obtain ⟨z, rfl, hz, q⟩ := h
  obtain ⟨t, rfl⟩ := rx
  obtain ⟨l, rfl, el⟩ := part_of pl
  obtain ⟨u, rfl, eu⟩ := part_of pu
  refine ⟨"str", _, F.slot_str_getitem.lookup, typeIs_str s z t, ?_⟩
  refine wpAny_getItem_str_slice (l := l) (u := u) (st := none) hs rfl ?_
  unfold sliceMade slicePicked
  rw [el, eu]
  have e : ∀ t' k, EP X pins σ Q (.str (Txt.slice z lo hi) t') { s with toks := k } := fun t' k => ⟨.str (Txt.slice z lo hi), H, I.tok k, ⟨_, rfl⟩, q⟩
  have hl := Txt.slice_le z lo hi
  unfold Txt.slice at e hl
  refine post_val_or_made (fun hc => ?_) e
  rw [if_neg (show ¬ (((1 : Int) == 1 && (Builtin.Str.strSliceIndices lo hi 1 z.length).length == z.length) = true) from hc)] at hl
  exact Nat.le_trans hl hz
/-! ### list + list, either one read -/
theorem op_catL : OpR X (binaryOp .Add) (fun x y H Q => ∃ l b xs zs, x = .ref l ∧ y = .ref b ∧ SqL X.K H l xs ∧ SqL X.K H b zs ∧ xs.length + zs.length ≤ sizeLine ∧ ∀ p, H p = none → Q (.ref p) (upd H p (.lst (xs ++ zs)))) := by
  intro pins s σ H x y v u Q I rx ry h
  obtain ⟨l, b, xs, zs, rfl, rfl, hH, hB, hz, q⟩ := h
  cases rx
  cases ry
  obtain ⟨its, r, pl, z1⟩ := I.list hH
  obtain ⟨its2, r2, pl2, z2⟩ := I.list hB
  have hl := r.length
  have hl2 := r2.length
  obtain ⟨⟨cls, dd, data, sl⟩, ho, hc, n, hd⟩ := pl.isList
  obtain ⟨⟨cls2, dd2, data2, sl2⟩, ho2, hc2, n2, hd2⟩ := pl2.isList
  simp only at hc hd hc2 hd2
  subst hc hd hc2 hd2
  refine concat_meets ⟨_, ho, rfl⟩ ⟨_, ho2, rfl⟩ noFill_list_add seq_list_add PySem.F.slot_list_add PySem.F.entry_list_add (PySem.F.args_list_add_2 _ _) (list_addW l b its.toArray its2.toArray n n2 dd dd2 sl sl2 (by rw [List.size_toArray, List.size_toArray]; omega)) ⟨ho, ho2, ?_⟩
  have ea : its.toArray ++ its2.toArray = (its ++ its2).toArray := by simp
  rw [ea]
  exact ⟨.ref _, _, I.lnew (t' := s.toks) (r.append r2) (by rw [List.length_append]; omega), rfl, q _ I.fresh⟩
/-! ### dict(d): a copy -/
theorem call_dict_copy : CallR X (.type "dict") (fun xs H Q => ∃ a kvs, xs = [.ref a] ∧ Rd H a (.dK kvs) ∧ ∀ p, H p = none → Q (.ref p) (upd H p (.dK kvs))) := by
  intro pins s σ H xs us Q I r h
  obtain ⟨a, kvs, rfl, ha, q⟩ := h
  obtain ⟨u, rfl, ru⟩ := vals1 r
  cases ru
  exact d_copyOf I ha fun p s' hp I' => ⟨.ref p, _, I', rfl, q p hp⟩
/-! ### two dicts of the same pairs are alike -/
theorem valV_mem {κ : Type} [DecidableEq κ] : ∀ {kvs : List (κ × V)} {k : κ} {v : V}, (kvs.map (·.1)).Nodup → (k, v) ∈ kvs → valV kvs k = some v
  | [], k, v, _, h => by cases h
  | p :: r, k, v, hn, h => by
    have hn : (p.1 :: r.map (·.1)).Nodup := hn
    obtain ⟨h1, h2⟩ := List.nodup_cons.mp hn
    rcases List.mem_cons.mp h with e | e
    · subst e
      exact valV_pos rfl
    · rw [valV_neg fun z => h1 (z ▸ List.mem_map.mpr ⟨_, e, rfl⟩)]
      exact valV_mem h2 e
theorem hits_same {A : Around} {s : Shared} {kvs : List (Key × V)} {kb : List (Key × Value)} (hn : (kvs.map (·.1)).Nodup) (hf : ∀ p ∈ kvs, flatV p.2 = true) (rb : KV kvs kb) :
    ∀ {l : List (Key × V)} {ka : List (Key × Value)}, (∀ p ∈ l, p ∈ kvs) → KV l ka → PySem.W.KeqHits A s kb ka true
  | [], ka, _, h => by cases h; exact .nil
  | p :: l, ka, hs, h => by
    cases h with
    | cons r rr =>
      rename_i q l2
      obtain ⟨qk, qv⟩ := q
      obtain ⟨pk, pv'⟩ := p
      obtain ⟨e1, r1⟩ := r
      have e1 : pk = qk := e1
      subst e1
      have hm := hs _ List.mem_cons_self
      have hv := valV_mem hn hm
      have hr := rb.val pk
      rw [hv] at hr
      obtain ⟨y, ey, ry⟩ := RelO.some_of hr
      have he := eqAt_V (A := A) (s := s) r1 ry (hf _ hm) (hf _ hm)
      have e2 : eqV pv' pv' = true := by
        have := hf _ hm
        cases pv' with
        | non => rfl
        | bl b => exact beq_self_eq_true b
        | int i => exact beq_self_eq_true i
        | str x => exact beq_self_eq_true x
        | _ => cases this
      have e2' : eqV (pk, pv').2 (pk, pv').2 = true := e2
      rw [e2'] at he
      exact .hit ey he (hits_same hn hf rb (fun p hp => hs p (List.mem_cons_of_mem _ hp)) rr)
def rSameD (ans : Bool) : R2 := fun x y H Q => ∃ a b kvs, x = .ref a ∧ y = .ref b ∧ H a = some (.dK kvs) ∧ H b = some (.dK kvs) ∧ (kvs.map (·.1)).Nodup ∧ (∀ p ∈ kvs, flatV p.2 = true) ∧ Q (.bl ans) H
theorem op_eqDict (hu : X.A.units < cLine) : OpR X (compareOp .Eq) (rSameD true) := by
  intro pins s σ H x y v u Q I rx ry h
  obtain ⟨a, b, kvs, rfl, rfl, ha, hb, hn, hf, q⟩ := h
  cases rx
  cases ry
  obtain ⟨_, ma, va, ra, da⟩ := dk_of I.hok ha
  obtain ⟨_, mb, vb, rb, db⟩ := dk_of I.hok hb
  refine PySem.W.keq_eq ma mb da db hu (r := true) (fun _ => hits_same hn hf rb (fun _ h => h) ra) ?_
  rw [← ra.length, ← rb.length, beq_self_eq_true]
  exact ⟨.bl true, H, I, rfl, q⟩
end
/-! ### o.m(..), the class of o named in the reading -/
/-- a method m of the class C that keeps the promise sp, with room k -/
structure MOk (P : Program) (w : World) (K : PySem.W.Frag) (mg : Str → Option Value) (base : Heap) (k : Nat) (C : Addr) (m : Str) (sp : Sp) : Prop where
  cl : Cls K C
  run : ∃ (f : Addr) (fd : FuncData) (ps : List Str), Meth K C m f ∧ FnOk P w K mg base CX0 k f fd ps sp ∧ Binds K fd ps []
def tMethP (P : Program) (w : World) (K : PySem.W.Frag) (mg : Str → Option Value) (base : Heap) (k : Nat) (m : Str) (ta : TE) (t : TA) : TE := fun σ H Q => ta σ H fun x H1 => ∃ a C dx fs sp, x = .ref a ∧ H1 a = some (.ins C dx fs) ∧ fs.lookup m = none ∧ MOk P w K mg base k C m sp ∧
  t σ H1 fun vs H2 => sp (x :: vs) H2 Q E0
section
variable {X : Cx} {m : Str} {pos apos : Pos} {e o : Expr} {es : List Expr} {ta : TE} {t : TA} {k : Nat}
theorem pe_methP {pl : Sem Bool} (he : PE X o ta) (hr : Room k X.A) (ha : PA X (e :: es) t)
    (hst : starEach (e :: es) X.env = (false, eval e X.env) :: starEach es X.env := by rfl) (hpl : (backTo pos (starEach es X.env)).any (·.1) = false := by rfl)
    (ht : eval (.Call (.Attribute o m apos) (e :: es) [] pos) X.env = (do
      let ov ← eval o X.env
      standAt apos.atName
      let (f, first) ← holding [ov] (getMethod ov m pl)
      callWith pos f first (backTo pos (starEach (e :: es) X.env)) (backToKw pos (keywordEach [] X.env))) := by rfl) :
    PE X (.Call (.Attribute o m apos) (e :: es) [] pos) (tMethP X.prog X.w X.K X.mg X.base k m ta t) := by
  intro pins s σ H Q I h
  refine PySem.W.methodCall_KW (pl := pl) (thn (he pins s σ H _ I h) fun u s1 ⟨x, H1, I1, rx, a, C, dx, fs, sp, ex, ea, l, M, q⟩ => ?_) ht
  subst ex
  obtain rfl : u = Value.ref a := rx
  obtain ⟨c, f, fd, ps, hm, F, hb⟩ := M
  refine getmeth_ok I1 ea c hm l ?_
  refine PySem.W.callWith_K (first := [.ref a]) (h₀ := X.base) I.ok.mod.kin hm.kp (thn (ha pos pins s1 σ H1 _ I1 q) fun us s2 ⟨vs, H2, I2, r, q2⟩ => ⟨I2.kIn, ?_⟩) hst hpl
  exact run_fn (us := .ref a :: us) (vs := .ref a :: vs) (dvs := []) F hr hb .nil pass0 I2 (.cons rfl r) (by rw [List.append_nil]; exact q2)
end
end L2

set_option Elab.async false
set_option linter.all false
set_option maxRecDepth 100000
set_option maxHeartbeats 4000000
/-! xs.count(y), xs.index(y) of flat items -/
namespace L2
open PySem PySem.Spec PyProof.Rows
section
variable {X : Cx}
end
end L2

set_option Elab.async false
set_option linter.all false
set_option maxRecDepth 100000
set_option maxHeartbeats 4000000
/-! range with a step, zip of lists and tuples, x.split(y) -/
namespace L2
open PySem PySem.Spec PyProof.Rows
/-! ### range(a, b, c), c above 0 -/
def Its (lo c : Int) (n : Nat) : It := ⟨fun i _ => i < n, fun i H x H' => H' = H ∧ x = .int (lo + i * c), fun i _ => n ≤ i⟩
theorem turn_steps {P : Program} {w : World} {K : PySem.W.Frag} {tg : Expr} (it : Addr) (lo c : Int) (n : Nat) : Turn P w K tg (Its lo c n) [it] it (fun i h => IsRangeIter h it (lo + (i : Nat) * c) ((n : Int) - (i : Nat)) c) where
  mem := by simp
  obj := fun i h st b hb => by
    have e : b = it := by simpa using hb
    subst e
    exact ⟨_, st, fun v z => by
      have z' : Data.fields _ = Data.cell v := z
      cases z'⟩
  keep := fun i h h' st k => k it (by simp) _ st
  item := by
    intro X hP hw hK hc i pins s σ H E I hf st hg
    subst hP hw hK
    obtain ⟨f0, f1, f2, f3, f4, f5⟩ := hf it (by simp)
    have W := Walks.range (prog := X.prog) (w := X.w) (I.ok.hd hc) it lo c n
    refine W.item i s _ _ hg st fun v h' tk hv st' kk => ?_
    obtain ⟨t, rfl⟩ := hv
    have I1 : Inv X pins σ H { s with heap := h', toks := tk } := I.turned (fun b o hb e => kk b o (by simpa using hb) e) f0 f1 f3 f4 f5
    exact ⟨_, rfl, go_of (s := { s with heap := h', toks := tk }) (n := "range_iterator") st' rfl rfl (by decide) ⟨.int (lo + i * c), H, I1, ⟨t, rfl⟩, ⟨rfl, rfl⟩, st', fun b hb => (hf b hb).1⟩⟩
  done := by
    intro X hP hw hK hc i pins s σ H E I hf st hg
    subst hP hw hK
    obtain ⟨f0, f1, f2, f3, f4, f5⟩ := hf it (by simp)
    exact wpAny_pyNext_range_end (I.ok.hd hc) st (by have : n ≤ i := hg; omega) fun h' eb => ⟨rfl, I.turned (t' := s.toks) (fun b o hb e => eb b o hb e) f0 f1 f3 f4 f5⟩
  self := fun _ _ _ _ _ st h => wpAny_pyIter_rangeiter st h
theorem steps_small {a b c : Int} (ha : 0 ≤ a) (ha' : a < 1000000) (hb : 0 ≤ b) (hb' : b < 1000000) (hc : 0 < c) (hc' : c < 1000000) : Builtin.Range.small a b c = true := by
  have q0 := Int.ediv_nonneg (a := b - a - 1) (b := c)
  have q1 : 0 ≤ b - a - 1 → (b - a - 1) / c ≤ b - a - 1 := fun h => Int.ediv_le_self _ h
  unfold Builtin.Range.small Builtin.Range.rangeSize
  simp only [Builtin.Range.rangeFitsLong, Bool.and_eq_true, Bool.or_eq_true, decide_eq_true_eq, beq_iff_eq, hc, gt_iff_lt, if_true]
  split <;> omega
theorem steps_size {a b c : Int} (hc : 0 < c) : 0 ≤ Builtin.Range.rangeSize a b c := by
  unfold Builtin.Range.rangeSize
  rw [if_pos hc]
  split
  · have := Int.ediv_nonneg (a := b - a - 1) (b := c) (by omega) (by omega)
    omega
  · exact Int.le_refl 0
def iRng3 (ta : TA) : TI := fun σ H R => ta σ H fun vs H1 => ∃ a b c : Int, vs = [.int a, .int b, .int c] ∧ (0 ≤ a ∧ a < 1000000 ∧ 0 ≤ b ∧ b < 1000000 ∧ 0 < c ∧ c < 1000000) ∧ R (Its a c (Builtin.Range.rangeSize a b c).toNat) H1
section
variable {X : Cx} {tg : Expr}
theorem steps_it {pins : List (Addr × Obj)} {σ : St} {H : Hp} {s : Shared} {R : It → Hp → Prop} {E : Value → Shared → Prop} {a b c : Int} {t u v : Tok} {tk : Nat} (I : Inv X pins σ H s) (hs : Builtin.Range.small a b c = true) (hc : 0 < c)
    (q : R (Its a c (Builtin.Range.rangeSize a b c).toNat) H) : wpAny (model X.prog X.w) X.A (pyIter (.ref s.heap.objs.size)) (PIE X pins σ tg R) E { s with heap := s.heap.push { cls := .type "range", data := .fields #[.int a t, .int b u, .int c v] }, toks := tk } := by
  refine wpAny_pyIter_range (IsRange.new ..) hs ?_
  have I1 : Inv X pins σ H { s with heap := s.heap.push { cls := .type "range", data := .fields #[.int a t, .int b u, .int c v] }, toks := tk } := I.kept fun b o e => Heap.get?_push_of_some _ e
  refine ⟨_, [(s.heap.push { cls := .type "range", data := .fields #[.int a t, .int b u, .int c v] }).objs.size], _, _, H, rfl, I1.kept (t' := tk) fun b o e => Heap.get?_push_of_some _ e, turn_steps _ a c (Builtin.Range.rangeSize a b c).toNat, ?_, fun b hb => ?_, q⟩
  · have e1 : a + ((0 : Nat) : Int) * c = a := by simp
    have e2 : (((Builtin.Range.rangeSize a b c).toNat : Nat) : Int) - ((0 : Nat) : Int) = Builtin.Range.rangeSize a b c := by have := steps_size (a := a) (b := b) hc; omega
    show IsRangeIter _ _ (a + ((0 : Nat) : Int) * c) ((((Builtin.Range.rangeSize a b c).toNat : Nat) : Int) - ((0 : Nat) : Int)) c
    rw [e1, e2]
    exact Heap.get?_push_size _ rfl
  · rw [List.mem_singleton.mp hb]
    exact I1.fpOk (Nat.le_refl _) (I1.hok.fresh (Nat.le_refl _))
theorem pi_range3 {a b c : Expr} {ta : TA} {p pos : Pos} (hg : Gl X "range") (hm : X.mg "range" = none) (ha : PA X [a, b, c] ta)
    (hs : starEach [a, b, c] X.env = [(false, eval a X.env), (false, eval b X.env), (false, eval c X.env)] := by rfl) (hs2 : starEach [b, c] X.env = [(false, eval b X.env), (false, eval c X.env)] := by rfl) :
    PI X tg (.Call (.Name "range" p) [a, b, c] [] pos) (iRng3 ta) := by
  intro pins s σ H R I h
  refine Call_ (ld_blt I hg hm boot_range (PyProof.Rows.callWith_type1 (thn (ha pos pins s σ H _ I h) fun us s1 ⟨vs, H1, I1, r1, q1⟩ => ?_) (by rw [hs, hs2]) (by rw [hs2]; rfl)))
  obtain ⟨i, j, k, e, ⟨q1, q2, q3, q4, q5, q6⟩, q⟩ := q1
  subst e
  cases r1 with
  | cons r rr =>
    cases rr with
    | cons r' rr =>
      cases rr with
      | cons r'' rr =>
        cases rr
        obtain ⟨t, rfl⟩ := r
        obtain ⟨t', rfl⟩ := r'
        obtain ⟨t'', rfl⟩ := r''
        exact call_range_3 (by omega) (steps_it I1 (steps_small q1 q2 q3 q4 q5 q6) q5 q) (.inl (PyProof.noPylong_small (by omega)))
end
theorem for_steps {lo c : Int} {n : Nat} {g : TG} {tb : TS} {D : Ends} {σ : St} {H : Hp} (Pv : Nat → St → Hp → Prop) (h0 : Pv 0 σ H)
    (hs : ∀ (i : Nat) σ H, i < n → Pv i σ H → g (.int (lo + i * c)) σ H fun σ2 H2 => tb { D with nx := Pv (i + 1), ct := Pv (i + 1), bk := D.nx } σ2 H2) (hd : ∀ σ H, Pv n σ H → D.nx σ H) :
    ∃ W : Nat → Nat → St → Hp → Prop, (∃ m, W 0 m σ H) ∧ ∀ i m σ H, W i m σ H →
      ((Its lo c n).stop i H ∧ D.nx σ H) ∨ ((Its lo c n).go i H ∧ ∃ N : St → Hp → Prop, (∀ σ' H', N σ' H' → ∃ m', m' < m ∧ W (i + 1) m' σ' H') ∧ ∀ x H', (Its lo c n).yld i H x H' → g x σ H' fun σ2 H2 => tb { D with nx := N, ct := N, bk := D.nx } σ2 H2) := by
  refine ⟨fun i m σ H => m = n - i ∧ i ≤ n ∧ Pv i σ H, ⟨n, by simp, Nat.zero_le _, h0⟩, ?_⟩
  rintro i m σ H ⟨rfl, hi, p⟩
  by_cases hlt : i < n
  · refine .inr ⟨hlt, Pv (i + 1), fun σ' H' p' => ⟨n - (i + 1), by omega, rfl, hlt, p'⟩, fun x H' y => ?_⟩
    obtain ⟨e, y⟩ := y
    subst e y
    exact hs i σ _ hlt p
  · have e : i = n := by omega
    subst e
    exact .inl ⟨Nat.le_refl _, hd σ H p⟩
/-- // by a positive divisor below 2 ** 64 -/
theorem op_fdivB {X : Cx} : OpR X (binaryOp .FloorDiv) (rI (fun _ j => 0 < j ∧ j < 18446744073709551616) fun i j => .int (i / j)) := opI fun i j _ _ _ _ _ hc q => by
  have h1 : (0 : Int) < j := hc.1
  have h2 : j < 18446744073709551616 := hc.2
  refine floordiv_int (by omega) (by rw [Int.fdiv_eq_ediv_of_nonneg i (by omega)]; exact q) (.inl (PyProof.noPylong_of_log2 ?_))
  have h3 : j.natAbs < 2 ^ 64 := by show j.natAbs < 18446744073709551616; omega
  exact Nat.lt_trans ((Nat.log2_lt (by omega)).mpr h3) (by decide)
/-! ### x.split(y) -/
def rSplit : V → List V → Hp → VK → Prop := fun x vs H Q => ∃ z y : Str, x = .str z ∧ vs = [.str y] ∧ (y.length == 0) = false ∧ z.length ≤ sizeLine ∧ (Builtin.Str.partsBetween z (Builtin.Str.occurrences z y 0 z.length (z.length + 1)) y.length).length ≤ sizeLine ∧
  ∀ p, H p = none → Q (.ref p) (upd H p (.lst ((Txt.split z y).map V.str)))
theorem vals_strs : ∀ l : List (Str × Tok), Vals ((l.map (·.1)).map V.str) (strValues l)
  | [] => .nil
  | (x, t) :: l => .cons ⟨t, rfl⟩ (vals_strs l)
theorem mt_split {X : Cx} : MtR X "str.split" rSplit := by
  intro pins s σ H x vs v us Q I rx rv h
  obtain ⟨z, y, rfl, rfl, hy, hz, hn, q⟩ := h
  obtain ⟨t, rfl⟩ := rx
  obtain ⟨u, rfl, ru⟩ := vals1 rv
  obtain ⟨t', rfl⟩ := ru
  have one : (1 : Nat) ≤ sizeLine := by decide
  cases h1 : (decide (z.length < y.length) || decide (Builtin.Str.strKind z < Builtin.Str.strKind y)) with
  | true =>
    have e : Txt.split z y = [z] := if_pos h1
    rw [e] at q
    exact call_meets F.slot_str_split (typeIs_str _ _ _) F.entry_str_split (F.args_str_split_2 _ _) (meets_str_split_cannot_occur z y t t' h1) ⟨.ref _, _, I.lnew (ys := [.str z]) (its := [.str z t]) (t' := s.toks) (.cons ⟨t, rfl⟩ .nil) one, rfl, q _ I.fresh⟩
  | false =>
    cases hf : (Builtin.Str.occurrences z y 0 z.length (z.length + 1)).isEmpty with
    | true =>
      have e : Txt.split z y = [z] := (if_neg (ne_true_of_eq_false h1)).trans (if_pos hf)
      rw [e] at q
      exact call_meets F.slot_str_split (typeIs_str _ _ _) F.entry_str_split (F.args_str_split_2 _ _) (meets_str_split_not_found z y t t' h1 hy hf) ⟨.ref _, _, I.lnew (ys := [.str z]) (its := [.str z t]) (t' := s.toks) (.cons ⟨t, rfl⟩ .nil) one, rfl, q _ I.fresh⟩
    | false =>
      have e : Txt.split z y = Builtin.Str.partsBetween z (Builtin.Str.occurrences z y 0 z.length (z.length + 1)) y.length := (if_neg (ne_true_of_eq_false h1)).trans (if_neg (ne_true_of_eq_false hf))
      rw [e] at q
      refine call_meets F.slot_str_split (typeIs_str _ _ _) F.entry_str_split (F.args_str_split_2 _ _) (meets_str_split_sep z y t t' h1 hy hf hz hn) ?_
      have ev := vals_strs (numbered s.toks (Builtin.Str.partsBetween z (Builtin.Str.occurrences z y 0 z.length (z.length + 1)) y.length))
      rw [numbered_texts, ← strsFrom_eq] at ev
      exact ⟨.ref _, _, I.lnew ev (by rw [List.length_map]; exact hn), rfl, q _ I.fresh⟩
end L2

set_option Elab.async false
set_option linter.all false
set_option maxRecDepth 100000
set_option maxHeartbeats 4000000
/-! for x, y in zip(xs, ys): each a list or a tuple -/
namespace L2
open PySem PySem.Spec PyProof.Rows
section
variable {prog : Program} {w : World} {A : Around} {E : Value → Shared → Prop} {s : Shared}
variable {z TI TO i1 i2 l1 l2 : Addr} {b1 b2 : Bool} {k1 k2 : Nat} {xs ys : Array Value}
end
/-! ### making it -/
/-! ### walking it -/
section
variable {X : Cx} {a b : Expr} {ta : TA} {elts : List Expr} {x1 : Nat} {tpos p pos : Pos}
end
end L2

set_option Elab.async false
set_option linter.all false
set_option maxRecDepth 100000
set_option maxHeartbeats 4000000
/-! C.m(self, ..) of an own class; list(range(a, b)) -/
namespace L2
open PySem PySem.Spec PyProof.Rows
structure CMeth (K : PySem.W.Frag) (C : Addr) (m : Str) (f : Addr) : Prop where
  hg : PySem.W.specialIn K (.ref C) "__getattribute__" = some (some (.builtin "type.__getattribute__"))
  rd : PySem.W.readsIn K C (.type "type") = true
  fc : PySem.W.findCls K (.ref C) (.type "type") m = some (.val (.ref f))
  kp : PySem.W.keepIn K (.ref f) = true
section
variable {X : Cx} {CX : CXT} {k : Nat} {f C : Addr} {fd : FuncData} {ps : List Str} {sp : Sp} {dvs : List V} {ds : List Value} {E : XK} {x m : Str} {p pos apos : Pos} {e : Expr} {es : List Expr} {t : TA}
theorem pe_callC {pl : Sem Bool} (hg : Gl X x) (hm : X.mg x = some (.ref C)) (M : CMeth X.K C m f) (F : FnOk X.prog X.w X.K X.mg X.base CX k f fd ps sp) (hr : Room k X.A) (hb : Binds X.K fd ps ds) (hd : Vals dvs ds) (hx : Passes CX X E) (ha : PA X (e :: es) t)
    (hdb : (x == ("__debug__" : Str)) = false := by decide) (hst : starEach (e :: es) X.env = (false, eval e X.env) :: starEach es X.env := by rfl) (hpl : (backTo pos (starEach es X.env)).any (·.1) = false := by rfl)
    (ht : eval (.Call (.Attribute (.Name x p) m apos) (e :: es) [] pos) X.env = (do
      let ov ← eval (.Name x p) X.env
      standAt apos.atName
      let (f, first) ← holding [ov] (getMethod ov m pl)
      callWith pos f first (backTo pos (starEach (e :: es) X.env)) (backToKw pos (keywordEach [] X.env))) := by rfl) :
    PE X (.Call (.Attribute (.Name x p) m apos) (e :: es) [] pos) (tCall sp dvs E t) := by
  intro pins s σ H Q I h
  refine PySem.W.methodCall_KW (pl := pl) (ld_glob I hg hm ?_ hdb) ht
  refine PySem.W.method_cls I.kIn M.hg (PySem.W.cls_value I.kIn M.rd M.fc rfl ?_)
  have I1 := I.tok (s.toks + 1)
  refine PySem.W.callWith_K (first := []) (h₀ := X.base) I.ok.mod.kin M.kp (thn (ha pos pins _ σ H _ I1 h) fun us s2 ⟨vs, H2, I2, r, q2⟩ => ⟨I2.kIn, ?_⟩) hst hpl
  exact run_fn (us := us) (vs := vs) F hr hb hd hx I2 r q2
end
def upTo (i : Int) (n : Nat) : List V := (List.range n).map fun k => V.int (i + (k : Nat))
theorem upTo_len (i : Int) (n : Nat) : (upTo i n).length = n := by unfold upTo; simp
theorem upTo_succ (i : Int) (n : Nat) : upTo i (n + 1) = upTo i n ++ [.int (i + n)] := by unfold upTo; rw [List.range_succ, List.map_append]; rfl
theorem vals_upTo {i : Int} {n : Nat} {its : List Value} (hl : its.length = n) (h : ∀ k v, its[k]? = some v → ∃ t, v = Value.int (i + (k : Nat)) t) : Vals (upTo i n) its := by
  induction n generalizing its with
  | zero =>
    cases its with
    | nil => exact .nil
    | cons _ _ => cases hl
  | succ n ih =>
    have hlt : n < its.length := by omega
    obtain ⟨t, ht⟩ := h n its[n] (List.getElem?_eq_getElem hlt)
    have e : its = its.take n ++ [its[n]] := by
      have := List.take_append_getElem (l := its) (i := n) hlt
      rw [this, List.take_of_length_le (by omega)]
    rw [upTo_succ, e]
    refine Vals.append (ih (by rw [List.length_take]; omega) fun k v hk => ?_) (.cons ⟨t, ht⟩ .nil)
    rw [List.getElem?_take] at hk
    split at hk
    · exact h k v hk
    · cases hk
end L2

set_option Elab.async false
set_option linter.all false
set_option maxRecDepth 100000
set_option maxHeartbeats 4000000
/-! range(a, b) of any ints: small ones and great ones; list(range(a, b)) -/
namespace L2
open PySem PySem.Spec PyProof.Rows
def rOb (sm : Bool) (x left step : Int) : Obj := { cls := .type (cond sm "range_iterator" "longrange_iterator"), dict := none, data := .fields #[rawInt x, rawInt left, rawInt step], slots := #[] }
def rSt (sm : Bool) (h : Heap) (it : Addr) (x left step : Int) : Prop := h.get? it = some (rOb sm x left step)
theorem walks_any {prog : Program} {w : World} {A : Around} (hh : A.handled = none) (sm : Bool) (I : Addr) (a c : Int) (n : Nat) :
    Walks prog w A I [I] [I] n (fun i v => ∃ t, v = .int (a + i * c) t) (fun i h => rSt sm h I (a + (i : Nat) * c) ((n : Int) - (i : Nat)) c) := by
  cases sm
  · exact Walks.longrange hh I a c n
  · exact Walks.range hh I a c n
theorem iter_any {prog : Program} {w : World} {A : Around} {E : Value → Shared → Prop} {s : Shared} {r : Addr} {a b c : Int} {t u v : Tok} {Q : Value → Shared → Prop} (hr : IsRange s.heap r a b c t u v)
    (hQ : Q (.ref s.heap.objs.size) { s with heap := s.heap.push (rOb (Builtin.Range.small a b c) a (Builtin.Range.rangeSize a b c) c) }) : wpAny (model prog w) A (pyIter (.ref r)) Q E s := by
  cases e : Builtin.Range.small a b c with
  | true => rw [e] at hQ; exact wpAny_pyIter_range hr e hQ
  | false => rw [e] at hQ; exact wpAny_pyIter_longrange hr e hQ
theorem turn_any {P : Program} {w : World} {K : PySem.W.Frag} {tg : Expr} (sm : Bool) (it : Addr) (lo : Int) (n : Nat) : Turn P w K tg (Itr lo n) [it] it (fun i h => rSt sm h it (lo + (i : Nat) * 1) ((n : Int) - (i : Nat)) 1) where
  mem := by simp
  obj := fun i h st b hb => by
    have e : b = it := by simpa using hb
    subst e
    exact ⟨_, st, fun v z => by
      have z' : Data.fields _ = Data.cell v := z
      cases z'⟩
  keep := fun i h h' st k => k it (by simp) _ st
  item := by
    intro X hP hw hK hc i pins s σ H E I hf st hg
    subst hP hw hK
    obtain ⟨f0, f1, f2, f3, f4, f5⟩ := hf it (by simp)
    have W := walks_any (prog := X.prog) (w := X.w) (I.ok.hd hc) sm it lo 1 n
    refine W.item i s _ _ hg st fun v h' tk hv st' kk => ?_
    obtain ⟨t, rfl⟩ := hv
    have I1 : Inv X pins σ H { s with heap := h', toks := tk } := I.turned (fun b o hb e => kk b o (by simpa using hb) e) f0 f1 f3 f4 f5
    refine ⟨_, rfl, go_of (s := { s with heap := h', toks := tk }) (n := cond sm "range_iterator" "longrange_iterator") st' rfl rfl (by cases sm <;> decide) ⟨.int (lo + i), H, I1, ⟨t, ?_⟩, ⟨rfl, rfl⟩, st', fun b hb => (hf b hb).1⟩⟩
    rw [Int.mul_one]
  done := by
    intro X hP hw hK hc i pins s σ H E I hf st hg
    subst hP hw hK
    obtain ⟨f0, f1, f2, f3, f4, f5⟩ := hf it (by simp)
    have hl : (n : Int) - (i : Nat) ≤ 0 := by have : n ≤ i := hg; omega
    cases sm
    · exact wpAny_pyNext_long_end (I.ok.hd hc) st hl fun h' eb => ⟨rfl, I.turned (t' := s.toks) (fun b o hb e => eb b o hb e) f0 f1 f3 f4 f5⟩
    · exact wpAny_pyNext_range_end (I.ok.hd hc) st hl fun h' eb => ⟨rfl, I.turned (t' := s.toks) (fun b o hb e => eb b o hb e) f0 f1 f3 f4 f5⟩
  self := fun _ _ _ _ _ st h => by
    cases sm
    · exact wpAny_pyIter_longiter st h
    · exact wpAny_pyIter_rangeiter st h
section
variable {X : Cx} {tg a b : Expr} {ta : TA} {p p1 pos pos1 : Pos}
def iRngB (ta : TA) : TI := fun σ H R => ta σ H fun vs H1 => ∃ i j : Int, vs = [.int i, .int j] ∧ R (Itr i (j - i).toNat) H1
theorem pi_rangeB (hg : Gl X "range") (hm : X.mg "range" = none) (ha : PA X [a, b] ta) (hs : starEach [a, b] X.env = [(false, eval a X.env), (false, eval b X.env)] := by rfl) (hs2 : starEach [b] X.env = [(false, eval b X.env)] := by rfl) :
    PI X tg (.Call (.Name "range" p) [a, b] [] pos) (iRngB ta) := by
  intro pins s σ H R I h
  refine Call_ (ld_blt I hg hm boot_range (PyProof.Rows.callWith_type1 (thn (ha pos pins s σ H _ I h) fun us s1 ⟨vs, H1, I1, r1, q1⟩ => ?_) (by rw [hs, hs2]) (by rw [hs2]; rfl)))
  obtain ⟨lo, hi, e, q⟩ := q1
  subst e
  obtain ⟨u1, u2, rfl, e1, e2⟩ := vals2 r1
  obtain ⟨t, rfl⟩ := e1
  obtain ⟨t', rfl⟩ := e2
  refine call_range_2 (iter_any (IsRange.new ..) ?_)
  refine ⟨_, [_], _, _, H1, rfl, (I1.kept (t' := _) fun b o e => Heap.get?_push_of_some _ (Heap.get?_push_of_some _ e)), turn_any (Builtin.Range.small lo hi 1) _ lo (hi - lo).toNat, ?_, fun b hb => ?_, q⟩
  · have e1 : lo + ((0 : Nat) : Int) * 1 = lo := by simp
    have e2 : (((hi - lo).toNat : Nat) : Int) - ((0 : Nat) : Int) = Builtin.Range.rangeSize lo hi 1 := by rw [rangeSize_nat]; omega
    show rSt _ _ _ (lo + ((0 : Nat) : Int) * 1) ((((hi - lo).toNat : Nat) : Int) - ((0 : Nat) : Int)) 1
    rw [e1, e2]
    exact Heap.get?_push_size _ rfl
  · rw [List.mem_singleton.mp hb]
    exact I1.fpOk (by rw [Heap.size_push]; exact Nat.le_succ _) (I1.hok.fresh (by rw [Heap.size_push]; exact Nat.le_succ _))
end
/-! ### list(range(a, b)) -/
section
variable {prog : Program} {w : World} {A : Around} {s : Shared} {R : Result → Shared → Prop} {r : Addr} {a b c : Int} {t u v : Tok} {n : Nat}
theorem ext_any (hh : A.handled = none) (hr : IsRange s.heap r a b c t u v) (hn : Builtin.Range.rangeSize a b c = n) (hlen : n ≤ 2 ^ 24) (S : Addr) (res : Value) (c0 : Nat) (hS : s.heap.get? S = some { cls := .type "list", data := .seq #[] c0 })
    (hR : ∀ h' tk acc c', (∀ b o, b ≠ S → s.heap.get? b = some o → h'.get? b = some o) → h'.get? S = some { cls := .type "list", dict := none, data := .seq acc c', slots := #[] } → ItemsOf (fun i v => ∃ t, v = .int (a + i * c) t) acc n → R (.ok (.ret res)) { s with heap := h', toks := tk }) :
    wpAny (model prog w) A.in1 (Builtin.List.listExtendWith (.ref S) (.ref r) res) (fun fin s' => match fin with | .done f => R (.ok f) s' | .again c' => c'.quiet = true ∧ codeAny (model prog w) A c' R s') (fun e s' => R (.error e) s') s := by
  have nSr : S ≠ r := fun e => by rw [e, hr] at hS; simp at hS
  have nSn : S ≠ s.heap.objs.size := Nat.ne_of_lt (Heap.lt_size hS)
  have fS : S ∉ [s.heap.objs.size] := fun m => nSn (List.mem_singleton.mp m)
  have W := (walks_any (prog := prog) (w := w) (A := A.in1) hh (Builtin.Range.small a b c) s.heap.objs.size a c n).toS
  have key : ∀ (h : Heap) (c1 tk : Nat), rSt (Builtin.Range.small a b c) h s.heap.objs.size (a + ((0 : Nat) : Int) * c) ((n : Int) - ((0 : Nat) : Int)) c → (∀ b o, b ≠ S → s.heap.get? b = some o → h.get? b = some o) → h.get? S = some { cls := .type "list", data := .seq #[] c1 } →
      codeAny (model prog w) A (.builtin "list.extend.loop" ⟨[.ref S, .ref s.heap.objs.size, res], []⟩) R { s with heap := h, toks := tk } := by
    intro h c1 tk it k hS1
    refine codeAny_extend_loopS W (by rw [sizeLine_eq]; omega) S fS res n 0 _ #[] c1 rfl (Nat.zero_le _) it hS1 (ItemsOf.nil _) fun s' acc c' hm hS' ha => ?_
    rw [Moved.eq_with hm]
    refine hR s'.heap s'.toks acc c' (fun b o hb e => hm.heap b o (fun m => ?_) (k b o hb e)) hS' ha
    rcases List.mem_cons.mp m with q | q
    · exact hb q
    · rw [List.mem_singleton.mp q] at e
      exact absurd (Heap.lt_size e) (Nat.lt_irrefl _)
  unfold Builtin.List.listExtendWith
  refine wpAny_bind (wpAny_typeOf (T := "range") ⟨_, hr, rfl⟩ ?_)
  simp only [show Builtin.List.listSameRef (.ref S) (.ref r) = false by simp [Builtin.List.listSameRef, nSr], show (Value.type "range" == Value.type "list") = false by decide, show (Value.type "range" == Value.type "tuple") = false by decide, Bool.or_false, Bool.false_eq_true, if_false]
  refine wpAny_bind (iter_any hr (wpAny_bind (wpAny_holding (wpAny_hint_range (n := n) (Heap.get?_push_of_some _ hr) hn hlen ?_))))
  have it1 : rSt (Builtin.Range.small a b c) (s.heap.push (rOb (Builtin.Range.small a b c) a (Builtin.Range.rangeSize a b c) c)) s.heap.objs.size (a + ((0 : Nat) : Int) * c) ((n : Int) - ((0 : Nat) : Int)) c := by
    unfold rSt
    rw [hn]
    have := Heap.get?_push_size s.heap (o := rOb (Builtin.Range.small a b c) a n c) rfl
    simpa using this
  have hS1 := Heap.get?_push_of_some (rOb (Builtin.Range.small a b c) a (Builtin.Range.rangeSize a b c) c) hS
  refine wpAny_ite_split (fun _ => wpAny_bind (wpAny_rule (wpAny_bind ?_))) (fun _ => wpAny_pure ⟨plainId_quiet F.plain_extend_loop _, key _ c0 _ it1 (fun b o _ e => Heap.get?_push_of_some _ e) hS1⟩)
  show wpAny _ _ (updateSeq S (·.push .none) >>= fun _ => updateSeq S (·.pop)) _ _ _
  have hS2 := Heap.get?_update_self (Obj.mapSeq (·.push Value.none)) hS1 rfl
  refine wpAny_bind (wpAny_updateSeq hS1 rfl (wpAny_updateSeq (hz := by seq_fits) hS2 rfl (wpAny_pure ⟨plainId_quiet F.plain_extend_loop _, key _ _ _ ?_ (fun b o hb e => ?_) (Heap.get?_update_self (Obj.mapSeq (·.pop)) hS2 rfl)⟩)))
  · exact (Heap.get?_update_other _ _ nSn).trans ((Heap.get?_update_other _ _ nSn).trans it1)
  · exact (Heap.get?_update_other _ _ (Ne.symm hb)).trans ((Heap.get?_update_other _ _ (Ne.symm hb)).trans (Heap.get?_push_of_some _ e))
theorem init_any (hh : A.handled = none) (hr : IsRange s.heap r a b c t u v) (hn : Builtin.Range.rangeSize a b c = n) (hlen : n ≤ 2 ^ 24) (S : Addr) (hS : s.heap.get? S = some { cls := .type "list", data := .seq #[] })
    (hR : ∀ h' tk acc c', (∀ b o, b ≠ S → s.heap.get? b = some o → h'.get? b = some o) → h'.get? S = some { cls := .type "list", dict := none, data := .seq acc c', slots := #[] } → ItemsOf (fun i v => ∃ t, v = .int (a + i * c) t) acc n → R (.ok (.ret .none)) { s with heap := h', toks := tk }) :
    wpAny (model prog w) A.in1 (Builtin.«list.__init__» ⟨[.ref S, .ref r], []⟩) (fun fin s' => match fin with | .done f => R (.ok f) s' | .again c' => c'.quiet = true ∧ codeAny (model prog w) A c' R s') (fun e s' => R (.error e) s') s := by
  have nSr : S ≠ r := fun e => by rw [e, hr] at hS; simp at hS
  show wpAny _ _ (Builtin.List.listItems (.ref S) >>= fun old => Builtin.List.listUpdate (.ref S) (fun _ => #[]) >>= fun _ => letGo old.toList.reverse >>= fun _ => Builtin.List.listExtendWith (.ref S) (.ref r) .none) _ _ s
  unfold Builtin.List.listItems
  refine wpAny_bind (wpAny_bind (wpAny_seqItems hS rfl (wpAny_pure ?_)))
  show wpAny _ _ (updateSeq S (fun _ => (#[] : Array Value)) >>= fun _ => letGo (#[] : Array Value).toList.reverse >>= fun _ => Builtin.List.listExtendWith (.ref S) (.ref r) .none) _ _ s
  have oth : ∀ b o, b ≠ S → s.heap.get? b = some o → (s.heap.update S (Obj.mapSeq (fun _ => (#[] : Array Value)))).get? b = some o := fun b o hb e => (Heap.get?_update_other _ _ (Ne.symm hb)).trans e
  refine wpAny_bind (wpAny_updateSeq hS rfl (wpAny_bind (wpAny_letGo ?_)))
  exact ext_any hh (oth r _ (Ne.symm nSr) hr) hn hlen S .none _ (Heap.get?_update_self (Obj.mapSeq (fun _ => (#[] : Array Value))) hS rfl) fun h' tk acc c' k hS' ha => hR h' tk acc c' (fun b o hb e => k b o hb (oth b o hb e)) hS' ha
theorem list_any {E : Value → Shared → Prop} {Q : Value → Shared → Prop} (hh : A.handled = none) (hr : IsRange s.heap r a b c t u v) (hn : Builtin.Range.rangeSize a b c = n) (hlen : n ≤ 2 ^ 24)
    (hQ : ∀ h' tk acc c', (∀ b o, s.heap.get? b = some o → h'.get? b = some o) → h'.get? s.heap.objs.size = some { cls := .type "list", dict := none, data := .seq acc c', slots := #[] } → ItemsOf (fun i v => ∃ t, v = .int (a + i * c) t) acc n → Q (.ref s.heap.objs.size) { s with heap := h', toks := tk }) :
    wpAny (model prog w) A (call (.type "list") [.ref r]) Q E s := by
  refine callType_codes (Q₁ := fun obj s1 => obj = .ref s.heap.objs.size ∧ s1 = { s with heap := s.heap.push { cls := .type "list", data := .seq #[] } }) F.called_list (F.typeCall_list_1 _) F.entry_list_init (code_list_new _ ⟨rfl, rfl⟩) fun obj s1 h1 => ?_
  obtain ⟨rfl, rfl⟩ := h1
  have hS : (s.heap.push { cls := .type "list", data := .seq #[] }).get? s.heap.objs.size = some { cls := .type "list", data := .seq #[] } := Heap.get?_push_size _ rfl
  exact ⟨⟨_, hS, rfl⟩, F.args_list_init_2 _ _, init_any (A := A.in1) hh (Heap.get?_push_of_some _ hr) hn hlen _ hS fun h' tk acc c' k hS' ha => ⟨rfl, hQ h' tk acc c' (fun b o e => k b o (Nat.ne_of_lt (Heap.lt_size e)) (Heap.get?_push_of_some _ e)) hS' ha⟩⟩
end
def tLRange (ta : TA) : TE := fun σ H Q => ta σ H fun vs H1 => ∃ i j : Int, vs = [.int i, .int j] ∧ (j - i).toNat ≤ 1000 ∧ ∀ l, H1 l = none → Q (.ref l) (upd H1 l (.lst (upTo i (j - i).toNat)))
section
variable {X : Cx} {a b : Expr} {ta : TA} {p p1 pos pos1 : Pos}
theorem pe_listRange (hgl : Gl X "list") (hml : X.mg "list" = none) (hg : Gl X "range") (hm : X.mg "range" = none) (hc : X.calm = true) (ha : PA X [a, b] ta)
    (hs : starEach [a, b] X.env = [(false, eval a X.env), (false, eval b X.env)] := by rfl) (hs2 : starEach [b] X.env = [(false, eval b X.env)] := by rfl)
    (h0 : starEach [.Call (.Name "range" p) [a, b] [] pos] X.env = [(false, eval (.Call (.Name "range" p) [a, b] [] pos) X.env)] := by rfl) :
    PE X (.Call (.Name "list" p1) [.Call (.Name "range" p) [a, b] [] pos] [] pos1) (tLRange ta) := by
  intro pins s σ H Q I h
  refine Call_ (ld_blt I hgl hml boot_list (PyProof.Rows.callWith_type1 ?_ h0 rfl))
  rw [h0]
  show wpAny _ _ (spliced ((false, eval (.Call (.Name "range" p) [a, b] [] pos) X.env) :: [])) _ _ s
  refine Calls.spliced_cons (Call_ (ld_blt I hg hm boot_range (PyProof.Rows.callWith_type1 (thn (ha pos pins s σ H _ I h) fun us s1 ⟨vs, H1, I1, r1, q1⟩ => ?_) (by rw [hs, hs2]) (by rw [hs2]; rfl))))
  obtain ⟨i, j, e, hz, q⟩ := q1
  subst e
  obtain ⟨u1, u2, rfl, e1, e2⟩ := vals2 r1
  obtain ⟨t, rfl⟩ := e1
  obtain ⟨t', rfl⟩ := e2
  refine call_range_2 (Calls.spliced_nil (list_any (n := (j - i).toNat) (I1.ok.hd hc) (IsRange.new ..) (rangeSize_nat _ _) (by omega) fun h' tk acc c' hk hS ha => ?_))
  have hv : Vals (upTo i (j - i).toNat) acc.toList := vals_upTo (by have := ha.1; simpa using this) fun k v hk' => by
    obtain ⟨t, ht⟩ := ha.2 k v (by simpa using hk')
    exact ⟨t, by rw [ht]; simp⟩
  refine ⟨.ref _, _, I1.laid (t' := tk) (fun b o e => hk b o (Heap.get?_push_of_some _ e)) (by rw [Heap.size_push]; exact Nat.le_succ _) (show ObjOk X.prog X.w _ h' _ (.lst (upTo i (j - i).toNat)) from ⟨by rw [upTo_len]; exact Nat.le_of_lt (small1000 hz), acc.toList, c', hv, by simpa using hS⟩), rfl, q _ (I1.hok.fresh (by rw [Heap.size_push]; exact Nat.le_succ _))⟩
end
end L2

set_option Elab.async false
set_option linter.all false
set_option maxRecDepth 100000
set_option maxHeartbeats 4000000
namespace Nw
open PySem L2
def top (i : Nat) : Stmt := PySem.Challenge.pw_nearerwork_k10_choices.main.body.getD i (.Pass ⟨0, 0, 0, 0⟩)
abbrev sAt : Stmt := top 15
abbrev sBegin : Stmt := top 16
abbrev sDraw : Stmt := top 17
abbrev sNames : Stmt := top 18
abbrev sNumI : Stmt := inClass (top 3) 0
abbrev sNumW : Stmt := inClass (top 3) 1
abbrev sNamI : Stmt := inClass (top 4) 0
abbrev sNamW : Stmt := inClass (top 4) 1
abbrev sTwoI : Stmt := inClass (top 5) 0
abbrev sPluW : Stmt := inClass (top 6) 0
abbrev sMinW : Stmt := inClass (top 7) 0
abbrev sTimW : Stmt := inClass (top 8) 0
abbrev sSum : Stmt := top 19
abbrev sWorth : Stmt := top 20
abbrev sHand : Stmt := top 21
abbrev sChaI : Stmt := inClass (top 10) 0
abbrev sChaC : Stmt := inClass (top 10) 1
abbrev sPutI : Stmt := inClass (top 11) 0
abbrev sPutC : Stmt := inClass (top 11) 1
abbrev sAnyI : Stmt := inClass (top 12) 0
abbrev sAnyC : Stmt := inClass (top 12) 1
abbrev sWhole : Stmt := top 14
abbrev sSame : Stmt := top 22
abbrev sRight : Stmt := top 23
abbrev sLaw : Stmt := top 24
structure Bl (mg : Str → Option Value) : Prop where
  len : mg "len" = none
  range : mg "range" = none
  isinstance : mg "isinstance" = none
  int : mg "int" = none
  bool : mg "bool" = none
  list : mg "list" = none
  dict : mg "dict" = none
  max : mg "max" = none
  min : mg "min" = none

/-! ### small facts -/
theorem hu60 {A : Around} {k : Nat} (hr : Room k A) : A.units + 60 < cLine := by have := hr.un; omega
theorem same_new {H : Hp} {p : Addr} (h : H p = none) (o : HO) : Same H (upd H p o) := fun b u q => by rw [upd_ne (ne_of_none q h)]; exact q
theorem same_put {H H' : Hp} {p : Addr} (s : Same H H') (h : H p = none) (o : HO) : Same H (upd H' p o) := fun b u q => by rw [upd_ne (ne_of_none q h)]; exact s b u q
def cps (l : List Nat) : Str := ⟨l.toArray⟩
theorem cps_length (l : List Nat) : (cps l).length = l.length := by show l.toArray.size = l.length; simp
theorem cps_append (a b : List Nat) : cps a ++ cps b = cps (a ++ b) := by
  show (⟨a.toArray ++ b.toArray⟩ : Str) = ⟨(a ++ b).toArray⟩
  simp
theorem cps_inj {a b : List Nat} (h : cps a = cps b) : a = b := by
  have h : a.toArray = b.toArray := Str.mk.inj h
  simpa using h
theorem str_len (x y : Str) : (x ++ y).length = x.length + y.length := by
  show (x.cps ++ y.cps).size = x.cps.size + y.cps.size
  simp
theorem alpha : ("abcdefghijklmnopqrstuvwxyz" : Str) = cps ((List.range 26).map (97 + ·)) := by decide +kernel
theorem letter_at {i : Int} (h0 : 0 ≤ i) (h1 : i < 26) : atI (("abcdefghijklmnopqrstuvwxyz" : Str).cps.toList) i = some (97 + i.toNat) := by
  rw [alpha]
  obtain ⟨k, rfl⟩ : ∃ k : Nat, i = k := ⟨i.toNat, by omega⟩
  refine atI_nat ?_
  show (((List.range 26).map (97 + ·)).toArray.toList)[k]? = _
  have hi : k < 26 := by omega
  simp [hi]
theorem join_signs : ∀ cs : List Nat, Str.join ⟨#[]⟩ (cs.map fun c => (⟨#[c]⟩ : Str)) = cps cs
  | [] => rfl
  | c :: cs => by
    rw [List.map_cons, PyProof.Rows.join_nil_cons, join_signs cs]
    show (⟨#[c] ++ cs.toArray⟩ : Str) = ⟨(c :: cs).toArray⟩
    simp
theorem join_eq (sep : Str) (l : List Str) : Txt.join sep l = Str.join sep l := eq_of_beq (PyProof.Rows.join_plain_closes sep l)
theorem flat_strs : ∀ l : List Str, (l.map V.str).all flatV = true
  | [] => rfl
  | y :: l => by rw [List.map_cons, List.all_cons, flat_strs l]; rfl
theorem sum_ones : ∀ cs : List Nat, ((cs.map fun c => (⟨#[c]⟩ : Str)).map (·.length)).sum = cs.length
  | [] => rfl
  | c :: cs => by
    rw [List.map_cons, List.map_cons, List.sum_cons, sum_ones cs, List.length_cons]
    show 1 + cs.length = cs.length + 1
    omega
theorem inV_strs (x : Str) : ∀ l : List Str, inV (.str x) (l.map V.str) = decide (x ∈ l)
  | [] => rfl
  | y :: l => by
    have q := inV_strs x l
    unfold inV at q ⊢
    rw [List.map_cons, List.any_cons, q]
    by_cases e : x = y
    · subst e
      simp [eqV]
    · have e' : ¬ y = x := fun z => e z.symm
      simp [eqV, e, e']
theorem deps_strs : ∀ ns : List Str, deps (ns.map Dt.str) = 0
  | [] => by simp [deps]
  | n :: ns => by simp [deps, dep, deps_strs ns]
theorem at_strs {l : List Str} {r : Int} (r0 : 0 ≤ r) (r1 : r < (l.length : Int)) : ∃ x ∈ l, atI (l.map V.str) r = some (.str x) := by
  obtain ⟨k, rfl⟩ : ∃ k : Nat, r = k := ⟨r.toNat, by omega⟩
  have hk : k < l.length := by omega
  exact ⟨l[k], List.getElem_mem hk, atI_nat (by rw [List.getElem?_map, List.getElem?_eq_getElem hk]; rfl)⟩
theorem em26 (x : Int) : 0 ≤ x % 26 ∧ x % 26 < 26 := ⟨Int.emod_nonneg _ (by decide), Int.emod_lt_of_pos _ (by decide)⟩
def ownW : List Str := ["name", "from", "to", "at", "keep", "deed", "when", "do", "any", "and", "or", "not", "yes", "tie", "step", "for", "none", "falls"]
section
variable {P : Program} {w : World} {K : PySem.W.Frag} {mg : Str → Option Value} {base : Heap}
/-! ### a cell: some int -/
def spAt (K : PySem.W.Frag) : Sp := fun vs H Q _ => ∃ (a : Addr) (ns : List Int) (k : Int), vs = [.ref a, .int k] ∧ SqL K H a (ns.map V.int) ∧ ns.length ≤ 63 ∧ 0 ≤ k ∧ k ≤ 1000 ∧ ∀ (r : Int) (H' : Hp), Same H H' → Q (.int r) H'
theorem scAt : FnScope ["_law_script", "_law_k"] ["_law_script", "_law_k"] (defScope sAt) := ⟨rfl, rfl, rfl, by decide +kernel, rfl, by decide +kernel, by decide +kernel⟩
theorem ok_at {f : Addr} {fd : FuncData} (B : Bl mg) (F : Fun K "_law_at" "_law_at" sAt f fd) : FnOk P w K mg base CX0 1 f fd ["_law_script", "_law_k"] (spAt K) := by
  refine F.ok scAt (fun vs H Q E h => ?_) (fun cdv A outer s H vs Q E hr h => ?_)
  · obtain ⟨a, ns, k, rfl, _⟩ := h
    rfl
  obtain ⟨a, ns, k, rfl, hS, hl, k0, k1, q⟩ := h
  refine ⟨_, (@pss_cons _ _ _ _ _ (@ps_if _ _ _ _ _ _ _ _ (@pt_cmpR _ _ _ _ _ _ _ _ op_lt (pv 1) (pe_callB call_len_seq (by rfl) B.len PySem.boot_len (@pa_cons _ _ _ _ _ (pv 0) pa_nil (by rfl))) (nomark _)) (@pss_one _ _ _ (@ps_ret _ _ _ _ (@pe_ix _ _ _ _ _ _ (rIxL K) ix_list (pv 0) (pv 1) (fun _ _ => rfl)))) pss_nil) (@pss_one _ _ _ (@ps_ret _ _ _ _ (@pe_op _ _ _ _ _ _ _ _ op_mod (@pe_op _ _ _ _ _ _ _ _ op_mul (@pe_op _ _ _ _ _ _ _ _ op_add (@pe_op _ _ _ _ _ _ _ _ op_mod (@pe_ix _ _ _ _ _ _ (rIxL K) ix_list (@pe_op _ _ _ _ _ _ _ _ op_catL (pv 0) (@pe_lst _ _ _ _ (@pa_cons _ _ _ _ _ pe_int pa_nil (by rfl)))) pe_int (fun _ _ => rfl)) pe_int) pe_int) (@pe_op _ _ _ _ _ _ _ _ op_add (@pe_op _ _ _ _ _ _ _ _ op_mul (pv 1) (pv 1)) pe_int)) pe_int)))), ?_⟩
  refine ⟨_, rfl, _, rfl, a, _, rfl, .inl hS, _, _, rfl, rfl, _, rfl, ?_⟩
  refine ite2 (fun c => ?_) (fun c => ?_)
  · have c' : k < (((ns.map V.int).length : Nat) : Int) := of_decide_eq_true c
    rw [List.length_map] at c'
    obtain ⟨j, rfl⟩ : ∃ j : Nat, k = j := ⟨k.toNat, by omega⟩
    have hj : j < ns.length := by omega
    exact ⟨_, rfl, _, rfl, a, _, _, _, rfl, rfl, hS, atI_nat (by rw [List.getElem?_map, List.getElem?_eq_getElem hj]; rfl), q _ H (Same.refl H)⟩
  · refine ⟨_, rfl, by decide, fun p hp => ⟨a, p, _, _, rfl, rfl, (same_new hp _).seq hS, SqL.of upd_same, ?_, fun z hz => ?_⟩⟩
    · rw [List.length_map]
      exact Nat.le_of_lt (small1000 (by show ns.length + 1 ≤ 1000; omega))
    have hat : ∃ x : Int, atI (ns.map V.int ++ [V.int 0]) 0 = some (.int x) := by
      cases ns with
      | nil => exact ⟨0, atI_nat (j := 0) rfl⟩
      | cons n r => exact ⟨n, atI_nat (j := 0) rfl⟩
    obtain ⟨x, hx⟩ := hat
    have b1 := Int.emod_nonneg x (b := 1000003) (by decide)
    have b2 := Int.emod_lt_of_pos x (b := 1000003) (by decide)
    refine ⟨z, _, _, _, rfl, rfl, SqL.of upd_same, hx, _, _, rfl, rfl, (by show (0 : Int) < 1000003; decide), _, _, rfl, rfl, _, rfl, _, rfl, _, _, rfl, rfl, .inl ⟨by omega, by omega⟩, _, _, rfl, rfl, _, _, rfl, rfl, .inl ⟨?_, ?_⟩, _, _, rfl, rfl, (by show (0 : Int) < 2147483647; decide), ?_⟩
    · show -(2 ^ 64) < x % 1000003 + 29; omega
    · show x % 1000003 + 29 < 2 ^ 64; omega
    exact q _ _ ((same_new hp _).trans (same_new hz _))
/-! ### a state of two ints, and drawing from it -/
def spBegin : Sp := fun vs H Q _ => ∃ c : Int, vs = [.int c] ∧ ∀ p, H p = none → Q (.ref p) (upd H p (.lst [.int (c / 2), .int (c % 2)]))
theorem scBegin : FnScope ["_law_cell"] ["_law_cell"] (defScope sBegin) := ⟨rfl, rfl, rfl, by decide +kernel, rfl, by decide +kernel, by decide +kernel⟩
theorem ok_begin {f : Addr} {fd : FuncData} (F : Fun K "_law_begin" "_law_begin" sBegin f fd) : FnOk P w K mg base CX0 1 f fd ["_law_cell"] spBegin := by
  refine F.ok scBegin (fun vs H Q E h => ?_) (fun cdv A outer s H vs Q E hr h => ?_)
  · obtain ⟨c, rfl, _⟩ := h
    rfl
  obtain ⟨c, rfl, q⟩ := h
  refine ⟨_, (@pss_one _ _ _ (@ps_ret _ _ _ _ (@pe_lst _ _ _ _ (@pa_cons _ _ _ _ _ (@pe_op _ _ _ _ _ _ _ _ op_fdiv (pv 0) pe_int) (@pa_cons _ _ _ _ _ (@pe_op _ _ _ _ _ _ _ _ op_mod (pv 0) pe_int) pa_nil (by rfl)) (by rfl))))), ?_⟩
  exact ⟨_, rfl, _, _, rfl, rfl, ⟨by decide, by decide⟩, _, rfl, _, _, rfl, rfl, (by show (0 : Int) < 2; decide), (by show 2 ≤ sizeLine; decide), fun p hp => q p hp⟩
def spDraw : Sp := fun vs H Q _ => ∃ (a : Addr) (s0 s1 m : Int), vs = [.ref a, .int m] ∧ H a = some (.lst [.int s0, .int s1]) ∧ 0 < m ∧ m < 100000000 ∧ ∀ r s0' : Int, 0 ≤ r → r < m → Q (.int r) (upd H a (.lst [.int s0', .int s1]))
theorem scDraw : FnScope ["_law_state", "_law_many", "_law_found", "_law_number"] ["_law_state", "_law_many"] (defScope sDraw) := ⟨rfl, rfl, rfl, by decide +kernel, rfl, by decide +kernel, by decide +kernel⟩
theorem ok_draw {f : Addr} {fd : FuncData} (F : Fun K "_law_draw" "_law_draw" sDraw f fd) : FnOk P w K mg base CX0 1 f fd ["_law_state", "_law_many"] spDraw := by
  refine F.ok scDraw (fun vs H Q E h => ?_) (fun cdv A outer s H vs Q E hr h => ?_)
  · obtain ⟨a, s0, s1, m, rfl, _⟩ := h
    rfl
  obtain ⟨a, s0, s1, m, rfl, hH, m0, m1, q⟩ := h
  refine ⟨_, (@pss_cons _ _ _ _ _ (@ps_if _ _ _ _ _ _ _ _ (@pt_cmpR _ _ _ _ _ _ _ _ op_eq (@pe_ix _ _ _ _ _ _ (rIxL K) ix_list (pv 0) pe_int (fun _ _ => rfl)) pe_int (nomark _)) (@pss_cons _ _ _ _ _ (@ps_set _ _ 2 _ _ _ _ scDraw.nd rfl (Or.inl rfl) (@pe_op _ _ _ _ _ _ _ _ op_mod (@pe_ix _ _ _ _ _ _ (rIxL K) ix_list (pv 0) pe_int (fun _ _ => rfl)) (pv 1)) rfl (Or.inl rfl)) (@pss_cons _ _ _ _ _ (ps_asg (@pe_op _ _ _ _ _ _ _ _ op_fdiv (@pe_ix _ _ _ _ _ _ (rIxL K) ix_list (pv 0) pe_int (fun _ _ => rfl)) (pv 1)) (pg_sub (pv 0) pe_int set_list)) (@pss_one _ _ _ (@ps_ret _ _ _ _ (pv 2))))) pss_nil) (@pss_cons _ _ _ _ _ (@ps_set _ _ 3 _ _ _ _ scDraw.nd rfl (Or.inl rfl) (@pe_op _ _ _ _ _ _ _ _ op_mod (@pe_op _ _ _ _ _ _ _ _ op_add (@pe_op _ _ _ _ _ _ _ _ op_mul (@pe_op _ _ _ _ _ _ _ _ op_mod (@pe_ix _ _ _ _ _ _ (rIxL K) ix_list (pv 0) pe_int (fun _ _ => rfl)) pe_int) pe_int) pe_int) pe_int) rfl (Or.inl rfl)) (@pss_cons _ _ _ _ _ (ps_asg (@pe_op _ _ _ _ _ _ _ _ op_mod (@pe_op _ _ _ _ _ _ _ _ op_add (@pe_op _ _ _ _ _ _ _ _ op_add (@pe_op _ _ _ _ _ _ _ _ op_mul (pv 3) pe_int) (@pe_op _ _ _ _ _ _ _ _ op_mod (@pe_op _ _ _ _ _ _ _ _ op_fdivB (@pe_ix _ _ _ _ _ _ (rIxL K) ix_list (pv 0) pe_int (fun _ _ => rfl)) pe_int) pe_int)) pe_int) pe_int) (pg_sub (pv 0) pe_int set_list)) (@pss_one _ _ _ (@ps_ret _ _ _ _ (@pe_op _ _ _ _ _ _ _ _ op_mod (@pe_op _ _ _ _ _ _ _ _ op_fdiv (@pe_op _ _ _ _ _ _ _ _ op_mod (@pe_op _ _ _ _ _ _ _ _ op_add (@pe_op _ _ _ _ _ _ _ _ op_mul (@pe_ix _ _ _ _ _ _ (rIxL K) ix_list (pv 0) pe_int (fun _ _ => rfl)) pe_int) pe_int) pe_int) pe_int) (pv 1))))))), ?_⟩
  have a0 : ∀ x y : Int, atI [V.int x, V.int y] 0 = some (.int x) := fun x y => atI_nat (j := 0) rfl
  have a1 : atI [V.int s0, V.int s1] 1 = some (.int s1) := atI_nat (j := 1) rfl
  have i0 : ∀ x y : Int, ixN [V.int x, V.int y].length 0 = some 0 := fun _ _ => by show ixN 2 0 = some 0; decide
  refine ⟨_, rfl, a, _, _, _, rfl, rfl, SqL.of hH, a1, rfl, _, rfl, ite2 (fun _ => ?_) (fun _ => ?_)⟩
  · refine ⟨_, rfl, a, _, _, _, rfl, rfl, SqL.of hH, a0 _ _, _, rfl, _, _, rfl, rfl, m0, ?_⟩
    refine ⟨_, rfl, a, _, _, _, rfl, rfl, SqL.of hH, a0 _ _, _, rfl, _, _, rfl, rfl, ⟨m0, by omega⟩, _, rfl, a, _, _, 0, rfl, rfl, hH, i0 _ _, ?_⟩
    exact ⟨_, rfl, q _ _ (Int.emod_nonneg _ (by omega)) (Int.emod_lt_of_pos _ m0)⟩
  · have b1 := Int.emod_nonneg s0 (b := 2147483647) (by decide)
    have b2 := Int.emod_lt_of_pos s0 (b := 2147483647) (by decide)
    have f1 : ∀ x : Int, 0 ≤ x % 2147483629 ∧ x % 2147483629 < 2147483629 := fun x => ⟨Int.emod_nonneg _ (by decide), Int.emod_lt_of_pos _ (by decide)⟩
    have f2 : ∀ x : Int, 0 ≤ x % 2147483587 ∧ x % 2147483587 < 2147483587 := fun x => ⟨Int.emod_nonneg _ (by decide), Int.emod_lt_of_pos _ (by decide)⟩
    refine ⟨_, rfl, a, _, _, _, rfl, rfl, SqL.of hH, a0 _ _, _, _, rfl, rfl, (by show (0 : Int) < 2147483647; decide), _, _, rfl, rfl, .inl ⟨?_, ?_⟩, _, _, rfl, rfl, _, _, rfl, rfl, (by show (0 : Int) < 2147483629; decide), ?_⟩
    · show -(2 ^ 64) < s0 % 2147483647; omega
    · show s0 % 2147483647 < 2 ^ 64; omega
    refine ⟨_, rfl, _, _, rfl, rfl, .inl ⟨Int.lt_of_lt_of_le (by decide) (f1 _).1, Int.lt_trans (f1 _).2 (by decide)⟩, _, rfl, a, _, _, _, rfl, rfl, SqL.of hH, a0 _ _, _, _, rfl, rfl, ⟨by decide, by decide⟩, _, _, rfl, rfl, (by show (0 : Int) < 1000003; decide), _, _, rfl, rfl, _, _, rfl, rfl, _, _, rfl, rfl, (by show (0 : Int) < 2147483587; decide), _, rfl, a, _, _, 0, rfl, rfl, hH, i0 _ _, ?_⟩
    refine ⟨_, rfl, a, _, _, _, rfl, rfl, SqL.of upd_same, a0 _ _, _, _, rfl, rfl, .inl ⟨Int.lt_of_lt_of_le (by decide) (f2 _).1, Int.lt_trans (f2 _).2 (by decide)⟩, _, _, rfl, rfl, _, _, rfl, rfl, (by show (0 : Int) < 2147483579; decide), _, _, rfl, rfl, ⟨by decide, by decide⟩, _, rfl, _, _, rfl, rfl, m0, ?_⟩
    exact q _ _ (Int.emod_nonneg _ (by omega)) (Int.emod_lt_of_pos _ m0)
end
end Nw

set_option Elab.async false
set_option linter.all false
set_option maxRecDepth 100000
set_option maxHeartbeats 4000000
namespace Nw
open PySem L2
/-! ### names: texts of one to nine letters that differ -/
structure Nam (x : Str) : Prop where
  signs : ∃ cs : List Nat, x = cps cs ∧ cs ≠ [] ∧ cs.length ≤ 8 ∧ ∀ c ∈ cs, 97 ≤ c ∧ c ≤ 122
  other : x ∉ ownW
/-- the letters cs with the letter d put in at place n -/
def nmk (cs : List Nat) (n : Nat) (d : Int) : List Nat := cs.take n ++ (97 + (d % 26).toNat) :: cs.drop n
theorem nmk_len (cs : List Nat) {n : Nat} (d : Int) : (nmk cs n d).length = cs.length + 1 := by
  unfold nmk
  rw [List.length_append, List.length_cons, List.length_take, List.length_drop]
  omega
theorem nmk_at {cs : List Nat} {n : Nat} (h : n ≤ cs.length) (d : Int) : (nmk cs n d)[n]? = some (97 + (d % 26).toNat) := by
  unfold nmk
  have e : (cs.take n).length = n := by rw [List.length_take]; omega
  rw [List.getElem?_append_right (by omega), e, Nat.sub_self]
  rfl
theorem nmk_ne {cs : List Nat} {n : Nat} (h : n ≤ cs.length) {d d' : Int} (hd : d % 26 ≠ d' % 26) : cps (nmk cs n d) ≠ cps (nmk cs n d') := by
  intro e
  have e := congrArg (fun l : List Nat => l[n]?) (cps_inj e)
  have e : (nmk cs n d)[n]? = (nmk cs n d')[n]? := e
  rw [nmk_at h, nmk_at h] at e
  have e := Option.some.inj e
  have b1 := em26 d
  have b2 := em26 d'
  omega
theorem nmk_ok {cs : List Nat} (n : Nat) (d : Int) (h : ∀ c ∈ cs, 97 ≤ c ∧ c ≤ 122) : ∀ c ∈ nmk cs n d, 97 ≤ c ∧ c ≤ 122 := by
  intro c hc
  unfold nmk at hc
  rcases List.mem_append.mp hc with z | z
  · exact h c (List.mem_of_mem_take z)
  · rcases List.mem_cons.mp z with z | z
    · have b := em26 d
      omega
    · exact h c (List.mem_of_mem_drop z)
/-- the first i names -/
def nms (cs : List Nat) (n : Nat) (a b : Int) (i : Nat) : List Str := (List.range i).map fun (k : Nat) => cps (nmk cs n (a + k * b))
theorem nms_succ (cs : List Nat) (n : Nat) (a b : Int) (i : Nat) : nms cs n a b (i + 1) = nms cs n a b i ++ [cps (nmk cs n (a + i * b))] := by
  unfold nms
  rw [List.range_succ, List.map_append]
  rfl
theorem nms_len (cs : List Nat) (n : Nat) (a b : Int) (i : Nat) : (nms cs n a b i).length = i := by unfold nms; simp
theorem nodup_map {f : Nat → Str} : ∀ {i : Nat}, (∀ j k, j < k → k < i → f j ≠ f k) → ((List.range i).map f).Nodup
  | 0, _ => by simp
  | i + 1, h => by
    rw [List.range_succ, List.map_append]
    refine List.nodup_append.mpr ⟨nodup_map fun j k a b => h j k a (by omega), by simp, fun x hx y hy e => ?_⟩
    obtain ⟨j, hj, rfl⟩ := List.mem_map.mp hx
    have hy : y = f i := by simpa using hy
    subst hy
    exact h j i (List.mem_range.mp hj) (by omega) e
theorem nms_nodup {cs : List Nat} {n : Nat} (h : n ≤ cs.length) {a b : Int} (b0 : 1 ≤ b) (b1 : b ≤ 3) {i : Nat} (hi : i ≤ 8) : (nms cs n a b i).Nodup := by
  refine nodup_map fun j k hjk hk => nmk_ne h ?_
  have hb : b = 1 ∨ b = 2 ∨ b = 3 := by omega
  rcases hb with rfl | rfl | rfl <;> omega
/-- zq and a letter -/
def zqs (a : Int) (i : Nat) : List Str := (List.range i).map fun (k : Nat) => cps [122, 113, 97 + ((a + k) % 26).toNat]
theorem zqE : ("zq" : Str) = cps [122, 113] := by decide +kernel
theorem zqs_succ (a : Int) (i : Nat) : zqs a (i + 1) = zqs a i ++ [cps [122, 113, 97 + ((a + i) % 26).toNat]] := by
  unfold zqs
  rw [List.range_succ, List.map_append]
  rfl
theorem zqs_len (a : Int) (i : Nat) : (zqs a i).length = i := by unfold zqs; simp
theorem zqs_nodup (a : Int) {i : Nat} (hi : i ≤ 8) : (zqs a i).Nodup := by
  refine nodup_map fun j k hjk hk e => ?_
  have e := cps_inj e
  simp only [List.cons.injEq, and_true, true_and] at e
  have b1 := em26 (a + j)
  have b2 := em26 (a + k)
  omega
theorem zq_own : ∀ d : _root_.Fin 26, cps [122, 113, 97 + d.val] ∉ ownW := by decide +kernel
theorem zqs_nam {a : Int} {i : Nat} {x : Str} (h : x ∈ zqs a i) : Nam x := by
  unfold zqs at h
  obtain ⟨k, hk, rfl⟩ := List.mem_map.mp h
  have b := em26 (a + (k : Nat))
  refine ⟨⟨_, rfl, by simp, by simp, fun c hc => ?_⟩, ?_⟩
  · simp only [List.mem_cons, List.not_mem_nil, or_false] at hc
    rcases hc with rfl | rfl | rfl
    · decide
    · decide
    · omega
  · exact zq_own ⟨((a + (k : Nat)) % 26).toNat, by omega⟩
theorem nms_nam {cs : List Nat} {n : Nat} {a b : Int} {i : Nat} (hl : cs.length ≤ 7) (hc : ∀ c ∈ cs, 97 ≤ c ∧ c ≤ 122) (ho : ∀ x ∈ nms cs n a b i, x ∉ ownW) {x : Str} (h : x ∈ nms cs n a b i) : Nam x := by
  refine ⟨?_, ho x h⟩
  unfold nms at h
  obtain ⟨k, hk, rfl⟩ := List.mem_map.mp h
  have ln := nmk_len cs (n := n) (a + (k : Nat) * b)
  exact ⟨_, rfl, (by intro z; rw [z] at ln; cases ln), (by omega), nmk_ok n _ hc⟩
theorem sl_to {cs : List Nat} {j : Int} (h0 : 0 ≤ j) (h1 : j ≤ cs.length) : Txt.slice (cps cs) none (some j) = cps (cs.take j.toNat) := by
  show StrLaws.sliceText (cps cs) none (some j) = _
  rw [StrLaws.sliceText_to ⟨h0, by show j ≤ (cs.toArray.toList.length : Int); simpa using h1⟩]
  show (⟨_⟩ : Str) = ⟨_⟩
  simp [cps]
theorem sl_from {cs : List Nat} {j : Int} (h0 : 0 ≤ j) (h1 : j ≤ cs.length) : Txt.slice (cps cs) (some j) none = cps (cs.drop j.toNat) := by
  show StrLaws.sliceText (cps cs) (some j) none = _
  rw [StrLaws.sliceText_from ⟨h0, by show j ≤ (cs.toArray.toList.length : Int); simpa using h1⟩]
  show (⟨((cs.toArray.toList.drop j.toNat).take ((cs.toArray.toList.length : Int) - j).toNat).toArray⟩ : Str) = ⟨(cs.drop j.toNat).toArray⟩
  rw [List.toList_toArray, List.take_of_length_le (by rw [List.length_drop]; omega)]
theorem own_split : Txt.split ("name from to at keep deed when do any and or not yes tie step for none falls" : Str) (" " : Str) = ownW := by decide +kernel
theorem own_parts : (Builtin.Str.partsBetween ("name from to at keep deed when do any and or not yes tie step for none falls" : Str) (Builtin.Str.occurrences ("name from to at keep deed when do any and or not yes tie step for none falls" : Str) (" " : Str) 0 ("name from to at keep deed when do any and or not yes tie step for none falls" : Str).length (("name from to at keep deed when do any and or not yes tie step for none falls" : Str).length + 1)) (" " : Str).length).length ≤ 1000 := by decide +kernel
theorem eq_nilS (ms : List Str) : dEq (.lst (ms.map Dt.str)) (.lst []) = decide (ms = []) := by
  cases ms with
  | nil => rw [List.map_nil, dEq, dEqs]; rfl
  | cons m r => rw [List.map_cons, dEq]; simp [dEqs]
section
variable {P : Program} {w : World} {K : PySem.W.Frag} {mg : Str → Option Value} {base : Heap}
def spNames : Sp := fun vs H Q _ => ∃ (c m : Int), vs = [.int c, .int m] ∧ 0 ≤ m ∧ m ≤ 8 ∧ ∀ (p : Addr) (H' : Hp) (l : List Str), Same H H' → H p = none → H' p = some (.lst (l.map V.str)) → (l.length : Int) = m → l.Nodup → (∀ x ∈ l, Nam x) → Q (.ref p) H'
theorem scNames : FnScope ["_law_cell", "_law_many", "_law_letters", "_law_state", "_law_size", "_law_at_here", "_law_first", "_law_step", "_law_base", "_law_some", "_law_k", "_law_letter", "_law_own"] ["_law_cell", "_law_many"] (defScope sNames) := ⟨rfl, rfl, rfl, by decide +kernel, rfl, by decide +kernel, by decide +kernel⟩
theorem nd_scNames1 : (["_law_cell", "_law_many", "_law_letters", "_law_state", "_law_size", "_law_at_here", "_law_first", "_law_step", "_law_base", "_law_some", "_law_k", "_law_letter", "_law_own"] : List Str).Nodup := by decide +kernel
theorem nd_scNames2 : (["_law_cell", "_law_many", "_law_letters", "_law_state", "_law_size", "_law_at_here", "_law_first", "_law_step", "_law_base", "_law_some", "_law_k", "_law_letter", "_law_own", "_law_name"] : List Str).Nodup := by decide +kernel
theorem nd_scNames3 : (["_law_cell", "_law_many", "_law_letters", "_law_state", "_law_size", "_law_at_here", "_law_first", "_law_step", "_law_base", "_law_some", "_law_k", "_law_letter", "_law_own"] : List Str).Nodup := by decide +kernel
theorem ok_names {f fB fD : Addr} {fd fdB fdD : FuncData} (B : Bl mg) (F : Fun K "_law_names" "_law_names" sNames f fd) (FB : Fun K "_law_begin" "_law_begin" sBegin fB fdB) (bB : Binds K fdB ["_law_cell"] []) (mB : mg "_law_begin" = some (.ref fB))
    (FD : Fun K "_law_draw" "_law_draw" sDraw fD fdD) (bD : Binds K fdD ["_law_state", "_law_many"] []) (mD : mg "_law_draw" = some (.ref fD)) : FnOk P w K mg base CX0 2 f fd ["_law_cell", "_law_many"] spNames := by
  have GB : FnOk P w K mg base CX0 1 fB fdB ["_law_cell"] spBegin := ok_begin FB
  have GD : FnOk P w K mg base CX0 1 fD fdD ["_law_state", "_law_many"] spDraw := ok_draw FD
  refine F.ok scNames (fun vs H Q E h => ?_) (fun cdv A outer s H vs Q E hr h => ?_)
  · obtain ⟨c, m, rfl, _⟩ := h
    rfl
  obtain ⟨c, m, rfl, m0, m1, q⟩ := h
  have hu := hu60 hr
  refine ⟨_, (@pss_cons _ _ _ _ _ (@ps_set _ _ 2 _ _ _ _ scNames.nd rfl (Or.inr rfl) pe_str rfl (Or.inl rfl)) (@pss_cons _ _ _ _ _ (@ps_set _ _ 3 _ _ _ _ scNames.nd rfl (Or.inr rfl) (pe_call GB hr (by rfl) mB FB.kp bB .nil pass0 (@pa_cons _ _ _ _ _ (pv 0) pa_nil (by rfl))) rfl (Or.inl rfl)) (@pss_cons _ _ _ _ _ (@ps_set _ _ 4 _ _ _ _ scNames.nd rfl (Or.inl rfl) (pe_call GD hr (by rfl) mD FD.kp bD .nil pass0 (@pa_cons _ _ _ _ _ (pv 3) (@pa_cons _ _ _ _ _ pe_int pa_nil (by rfl)) (by rfl))) rfl (Or.inl rfl)) (@pss_cons _ _ _ _ _ (@ps_set _ _ 5 _ _ _ _ scNames.nd rfl (Or.inl rfl) (pe_call GD hr (by rfl) mD FD.kp bD .nil pass0 (@pa_cons _ _ _ _ _ (pv 3) (@pa_cons _ _ _ _ _ (@pe_op _ _ _ _ _ _ _ _ op_add (pv 4) pe_int) pa_nil (by rfl)) (by rfl))) rfl (Or.inl rfl)) (@pss_cons _ _ _ _ _ (@ps_set _ _ 6 _ _ _ _ scNames.nd rfl (Or.inr rfl) (pe_call GD hr (by rfl) mD FD.kp bD .nil pass0 (@pa_cons _ _ _ _ _ (pv 3) (@pa_cons _ _ _ _ _ pe_int pa_nil (by rfl)) (by rfl))) rfl (Or.inl rfl)) (@pss_cons _ _ _ _ _ (@ps_set _ _ 7 _ _ _ _ scNames.nd rfl (Or.inl rfl) (@pe_op _ _ _ _ _ _ _ _ op_add pe_int (pe_call GD hr (by rfl) mD FD.kp bD .nil pass0 (@pa_cons _ _ _ _ _ (pv 3) (@pa_cons _ _ _ _ _ pe_int pa_nil (by rfl)) (by rfl)))) rfl (Or.inl rfl)) (@pss_cons _ _ _ _ _ (@ps_set _ _ 8 _ _ _ _ scNames.nd rfl (Or.inl rfl) (pe_bm (r := rJoin K) PySem.F.plainAttrs_str PySem.F.slot_str_join PySem.F.type_str_join mt_join pe_str (@pa_cons _ _ _ _ _ (pe_comp (NX := ["_law_cell", "_law_many", "_law_letters", "_law_state", "_law_size", "_law_at_here", "_law_first", "_law_step", "_law_base", "_law_some", "_law_k", "_law_letter", "_law_own"]) (N := ["_law_cell", "_law_many", "_law_letters", "_law_state", "_law_size", "_law_at_here", "_law_first", "_law_step", "_law_base", "_law_some", "_law_k", "_law_letter", "_law_own"]) (ms := [true, true, true, true, true, true, true, true, true, true, false, true, true]) (ks := [10]) (out := defScope sNames) (by exact ⟨rfl, by decide +kernel, by decide +kernel, by decide +kernel, by decide +kernel, by decide +kernel⟩) rfl rfl rfl (pi_range1 rfl B.range (@pa_cons _ _ _ _ _ (pv 4) pa_nil (by rfl))) (@sets_name 10) (by decide) (fun C ex s H => (pg_name (i := 10) nd_scNames1 rfl (Or.inl rfl))) (fun C ex s H => pts_nil) (fun C ex s H => (@pe_ix _ _ _ _ _ _ _ ix_str (pv 2) (pe_call GD hr (by rfl) mD FD.kp bD .nil pass0 (@pa_cons _ _ _ _ _ (pv 3) (@pa_cons _ _ _ _ _ pe_int pa_nil (by rfl)) (by rfl))) (fun _ _ => rfl)))) pa_nil (by rfl))) rfl (Or.inl rfl)) (@pss_cons _ _ _ _ _ (@ps_set _ _ 9 _ _ _ _ scNames.nd rfl (Or.inl rfl) (@pe_lst _ _ _ _ pa_nil) rfl (Or.inl rfl)) (@pss_cons _ _ _ _ _ (@ps_for _ _ _ _ _ _ _ _ PassesOwn.never rfl (pi_range1 rfl B.range (@pa_cons _ _ _ _ _ (pv 1) pa_nil (by rfl))) (pg_name (i := 10) scNames.nd rfl (Or.inl rfl)) (@pss_cons _ _ _ _ _ (@ps_set _ _ 11 _ _ _ _ scNames.nd rfl (Or.inl rfl) (@pe_ix _ _ _ _ _ _ _ ix_str (pv 2) (@pe_op _ _ _ _ _ _ _ _ op_mod (@pe_op _ _ _ _ _ _ _ _ op_add (pv 6) (@pe_op _ _ _ _ _ _ _ _ op_mul (pv 10) (pv 7))) pe_int) (fun _ _ => rfl)) rfl (Or.inl rfl)) (@pss_one _ _ _ (@ps_expr _ _ _ _ (pe_bm PySem.F.plainAttrs_list PySem.F.slot_list_append PySem.F.type_list_append mt_append (pv 9) (@pa_cons _ _ _ _ _ (@pe_op _ _ _ _ _ _ _ _ op_add_str (@pe_op _ _ _ _ _ _ _ _ op_add_str (@pe_slice _ _ _ _ _ _ _ _ _ _ sl_str (pv 8) po_none (@po_some _ _ _ (pv 5))) (pv 11)) (@pe_slice _ _ _ _ _ _ _ _ _ _ sl_str (pv 8) (@po_some _ _ _ (pv 5)) po_none)) pa_nil (by rfl))) (by rfl)))) (by intro _; rfl)) (@pss_cons _ _ _ _ _ (@ps_set _ _ 12 _ _ _ _ scNames.nd rfl (Or.inr rfl) (pe_bm PySem.F.plainAttrs_str PySem.F.slot_str_split PySem.F.type_str_split mt_split pe_str (@pa_cons _ _ _ _ _ pe_str pa_nil (by rfl))) rfl (Or.inl rfl)) (@pss_cons _ _ _ _ _ (@ps_if _ _ _ _ _ _ _ _ (@pt_cmpR _ _ _ _ _ _ _ _ (@op_neD _ hu) (pe_comp (NX := ["_law_cell", "_law_many", "_law_letters", "_law_state", "_law_size", "_law_at_here", "_law_first", "_law_step", "_law_base", "_law_some", "_law_k", "_law_letter", "_law_own"]) (N := ["_law_cell", "_law_many", "_law_letters", "_law_state", "_law_size", "_law_at_here", "_law_first", "_law_step", "_law_base", "_law_some", "_law_k", "_law_letter", "_law_own", "_law_name"]) (ms := [true, true, true, true, true, true, true, true, true, true, true, true, true, false]) (ks := [13]) (out := defScope sNames) (by exact ⟨rfl, by decide +kernel, by decide +kernel, by decide +kernel, by decide +kernel, by decide +kernel⟩) rfl rfl rfl (@pi_list _ _ _ _ (pv 9)) (@sets_name 13) (by decide) (fun C ex s H => (pg_name (i := 13) nd_scNames2 rfl (Or.inl rfl))) (fun C ex s H => (@pts_one _ _ _ (@pt_cmpR _ _ _ _ _ _ _ (rIn K false) op_in_seq (pv 13) (pv 12) (by with_unfolding_all rfl)))) (fun C ex s H => (pv 13))) (@pe_lst _ _ _ _ pa_nil) (nomark _)) (@pss_one _ _ _ (@ps_ret _ _ _ _ (pe_comp (NX := ["_law_cell", "_law_many", "_law_letters", "_law_state", "_law_size", "_law_at_here", "_law_first", "_law_step", "_law_base", "_law_some", "_law_k", "_law_letter", "_law_own"]) (N := ["_law_cell", "_law_many", "_law_letters", "_law_state", "_law_size", "_law_at_here", "_law_first", "_law_step", "_law_base", "_law_some", "_law_k", "_law_letter", "_law_own"]) (ms := [true, true, true, true, true, true, true, true, true, true, false, true, true]) (ks := [10]) (out := defScope sNames) (by exact ⟨rfl, by decide +kernel, by decide +kernel, by decide +kernel, by decide +kernel, by decide +kernel⟩) rfl rfl rfl (pi_range1 rfl B.range (@pa_cons _ _ _ _ _ (pv 1) pa_nil (by rfl))) (@sets_name 10) (by decide) (fun C ex s H => (pg_name (i := 10) nd_scNames3 rfl (Or.inl rfl))) (fun C ex s H => pts_nil) (fun C ex s H => (@pe_op _ _ _ _ _ _ _ _ op_add_str pe_str (@pe_ix _ _ _ _ _ _ _ ix_str (pv 2) (@pe_op _ _ _ _ _ _ _ _ op_mod (@pe_op _ _ _ _ _ _ _ _ op_add (pv 6) (pv 10)) pe_int) (fun _ _ => rfl))))))) pss_nil) (@pss_one _ _ _ (@ps_ret _ _ _ _ (pv 9)))))))))))))), ?_⟩
  refine ⟨_, rfl, c, rfl, fun a ha => ?_⟩
  refine ⟨_, rfl, a, _, _, 8, rfl, upd_same, by decide, by decide, fun z z0 z1 z2 => ?_⟩
  rw [upd_upd]
  refine ⟨_, rfl, _, rfl, _, _, rfl, rfl, a, _, _, z + 1, rfl, upd_same, by omega, by omega, fun at_ y0 y1 y2 => ?_⟩
  rw [upd_upd]
  refine ⟨_, rfl, a, _, _, 26, rfl, upd_same, by decide, by decide, fun fi x0 x1 x2 => ?_⟩
  rw [upd_upd]
  refine ⟨_, rfl, a, _, _, 3, rfl, upd_same, by decide, by decide, fun st w0 w1 w2 => ⟨_, _, rfl, rfl, ?_⟩⟩
  rw [upd_upd]
  -- the base
  refine ⟨rfl, _, rfl, z, rfl, by omega, by omega, comp_range (n := z.toNat) (fun i ys H' => ∃ (cs : List Nat) (u0 : Int), ys = (cs.map fun c => (⟨#[c]⟩ : Str)).map V.str ∧ cs.length = i ∧ (∀ c ∈ cs, 97 ≤ c ∧ c ≤ 122) ∧ H' = upd H a (.lst [.int u0, .int (c % 2)])) ⟨[], _, rfl, rfl, by simp, rfl⟩ (fun i ys H' hi ⟨cs, _, e1, e2, _⟩ => by rw [e1, List.length_map, List.length_map, e2]; exact small1000 (by omega)) ?_ ?_⟩
  · rintro i ys H' hi ⟨cs, u0, rfl, e2, e3, rfl⟩
    refine ⟨_, rfl, _, rfl, a, _, _, 26, rfl, upd_same, by decide, by decide, fun r r' r0 r1 => ?_⟩
    rw [upd_upd]
    refine ⟨_, _, _, rfl, rfl, by decide, letter_at r0 r1, ?_⟩
    refine ⟨cs ++ [97 + r.toNat], r', by rw [List.map_append, List.map_append]; rfl, by rw [List.length_append, e2]; rfl, fun x hx => ?_, rfl⟩
    rcases List.mem_append.mp hx with y | y
    · exact e3 x y
    · rw [List.mem_singleton.mp y]
      omega
  · rintro ys H' ⟨cs, u0, rfl, e2, e3, rfl⟩ D hD
    refine ⟨_, D, cs.map fun c => (⟨#[c]⟩ : Str), rfl, rfl, SqL.of upd_same, ?_, ?_⟩
    · rw [sum_ones, List.length_map]
      show cs.length + cs.length * 0 ≤ 16777216
      omega
    rw [join_eq, show ("" : Str) = ⟨#[]⟩ from rfl, join_signs]
    have s1 := same_put (same_new ha (.lst [.int u0, .int (c % 2)])) (by
      by_cases e : D = a
      · rw [e, upd_same] at hD; cases hD
      · rw [upd_ne e] at hD; exact hD) (.lst ((cs.map fun c => (⟨#[c]⟩ : Str)).map V.str))
    generalize upd (upd H a (.lst [.int u0, .int (c % 2)])) D (.lst ((cs.map fun c => (⟨#[c]⟩ : Str)).map V.str)) = H1 at s1 ⊢
    have la : at_ ≤ cs.length := by omega
    have lb : (cps cs).length ≤ sizeLine := by rw [cps_length]; exact Nat.le_of_lt (small1000 (by omega))
    refine ⟨by decide, fun pl hpl => ?_⟩
    have npl : H pl = none := s1.free hpl
    refine ⟨_, rfl, m, rfl, by omega, by omega, for_range (n := m.toNat) (fun i σ H2 => ∃ v1 v2 : Option V, σ = [some (.int c), some (.int m), some (.str "abcdefghijklmnopqrstuvwxyz"), some (.ref a), some (.int z), some (.int at_), some (.int fi), some (.int (1 + st)), some (.str (cps cs)), some (.ref pl), v1, v2, none] ∧ Same H H2 ∧ H2 pl = some (.lst ((nms cs at_.toNat fi (1 + st) i).map V.str))) ⟨none, none, rfl, s1.trans (same_new hpl _), upd_same⟩ ?_ ?_⟩
    · rintro i σ H2 hi ⟨v1, v2, rfl, f3, f4⟩
      have b := em26 (fi + (0 + (i : Int)) * (1 + st))
      refine ⟨_, rfl, _, rfl, _, rfl, _, rfl, _, _, rfl, rfl, .inl ⟨by omega, by omega⟩, _, _, rfl, rfl, _, _, rfl, rfl, (by show (0 : Int) < 26; decide), _, _, _, rfl, rfl, by decide, letter_at b.1 b.2, ?_⟩
      refine ⟨_, rfl, .inl ⟨rfl, _, SqL.of f4⟩, _, rfl, _, rfl, _, rfl, _, rfl, lb, _, rfl, _, _, rfl, rfl, ?_, _, rfl, _, rfl, _, rfl, _, rfl, lb, _, _, rfl, rfl, ?_, pl, _, _, rfl, rfl, f4, ?_, ?_⟩
      · rw [sl_to y1 la, cps_length, List.length_take]
        exact Nat.le_of_lt (small1000 (by show _ + 1 ≤ 1000; omega))
      · rw [sl_to y1 la, sl_from y1 la, str_len, cps_length, cps_length, List.length_take, List.length_drop]
        exact Nat.le_of_lt (small1000 (by show _ + 1 + _ ≤ 1000; omega))
      · rw [List.length_map, nms_len]
        exact small1000 (by omega)
      · refine ⟨_, _, rfl, same_put f3 npl _, ?_⟩
        rw [upd_same, nms_succ, List.map_append, sl_to y1 la, sl_from y1 la]
        have e : cps (cs.take at_.toNat) ++ (⟨#[97 + ((fi + (0 + (i : Int)) * (1 + st)) % 26).toNat]⟩ : Str) ++ cps (cs.drop at_.toNat) = cps (nmk cs at_.toNat (fi + i * (1 + st))) := by
          rw [show (⟨#[97 + ((fi + (0 + (i : Int)) * (1 + st)) % 26).toNat]⟩ : Str) = cps [97 + ((fi + (0 + (i : Int)) * (1 + st)) % 26).toNat] from rfl, cps_append, cps_append, Int.zero_add]
          unfold nmk
          rw [List.append_assoc]
          rfl
        rw [e]
        rfl
    · rintro σ H2 ⟨v1, v2, rfl, f3, f4⟩
      -- the own words
      refine ⟨rfl, _, _, rfl, rfl, by decide +kernel, by decide +kernel, Nat.le_of_lt (small1000 own_parts), fun po hpo => ?_⟩
      rw [own_split]
      have n1 := nms_len cs at_.toNat fi (1 + st) m.toNat
      have so := same_new hpo (.lst (ownW.map V.str))
      have eo : (upd H2 po (.lst (ownW.map V.str))) po = some (.lst (ownW.map V.str)) := upd_same
      have f5 := so _ _ f4
      have f6 := f3.trans so
      generalize upd H2 po (.lst (ownW.map V.str)) = H3 at so eo f5 f6 ⊢
      refine ⟨_, rfl, pl, rfl, ⟨_, SqL.of f5⟩, comp_list (xs := (nms cs at_.toNat fi (1 + st) m.toNat).map V.str) (fun i ys H' => ∃ l : List Str, ys = l.map V.str ∧ l.length ≤ i ∧ H' = H3 ∧ (l = [] → ∀ x ∈ (nms cs at_.toNat fi (1 + st) m.toNat).take i, x ∉ ownW)) ⟨[], rfl, Nat.le_refl _, rfl, fun _ x hx => by simp at hx⟩ (fun i ys H' _ ⟨_, _, _, e, _⟩ => by rw [e]; exact SqL.of f5) (fun i ys H' hi ⟨l, e1, e2, _⟩ => by rw [e1, List.length_map]; rw [List.length_map] at hi; exact small1000 (by omega)) ?_ ?_⟩
      · rintro i x ys H' hx ⟨l, rfl, e2', rfl, e4⟩
        have hi : i < (nms cs at_.toNat fi (1 + st) m.toNat).length := by have := (List.getElem?_eq_some_iff.mp hx).1; rw [List.length_map] at this; exact this
        rw [List.getElem?_map, List.getElem?_eq_getElem hi] at hx
        cases hx
        refine ⟨_, rfl, _, rfl, po, _, rfl, .inl (SqL.of eo), rfl, flat_strs _, _, rfl, ite2 (fun c1 => ?_) (fun c1 => ?_)⟩
        · exact ⟨_, rfl, l ++ [_], by rw [List.map_append]; rfl, by rw [List.length_append]; show l.length + 1 ≤ i + 1; omega, rfl, fun z => by simp at z⟩
        · refine ⟨l, rfl, by omega, rfl, fun z x hx => ?_⟩
          rw [List.take_add_one, List.getElem?_eq_getElem hi] at hx
          rcases List.mem_append.mp hx with y | y
          · exact e4 z x y
          · have y : x = (nms cs at_.toNat fi (1 + st) m.toNat)[i] := by simpa using y
            have c2 : ¬ inV (.str (nms cs at_.toNat fi (1 + st) m.toNat)[i]) (ownW.map V.str) = true := c1
            rw [inV_strs] at c2
            rw [y]
            exact fun z => c2 (decide_eq_true z)
      · rintro ys H' ⟨l, rfl, e2', rfl, e4⟩ D2 hD2
        rw [List.length_map, List.take_of_length_le (by omega)] at e4
        refine ⟨by decide, fun z9 hz9 => ⟨.lst (l.map Dt.str), .lst [], ?_, ?_, rfl, rfl, ?_, _, rfl, ?_⟩⟩
        · rw [Is]
          exact ⟨D2, _, rfl, SqL.of (by rw [upd_ne (ne_of_none upd_same hz9), upd_same]), Iss.strs l⟩
        · rw [Is]
          exact ⟨z9, _, rfl, SqL.of upd_same, Iss.nil⟩
        · rw [dep, deps_strs]; decide
        have s9 := f6.trans ((same_new hD2 (.lst (l.map V.str))).trans (same_new hz9 (.lst [])))
        have g9 := ((same_new hD2 (.lst (l.map V.str))).trans (same_new hz9 (.lst []))) _ _ f5
        generalize upd (upd H' D2 (.lst (l.map V.str))) z9 (.lst []) = H9 at s9 g9 ⊢
        rw [eq_nilS]
        by_cases hl0 : l = []
        · rw [decide_eq_true hl0]
          refine iteF ?_
          exact ⟨_, rfl, q pl H9 _ s9 npl g9 (by rw [n1]; omega) (nms_nodup (by omega) (by omega) (by omega) (by omega)) fun x hx => nms_nam (by omega) e3 (e4 hl0) hx⟩
        · rw [decide_eq_false hl0]
          refine iteT ?_
          refine ⟨_, rfl, m, rfl, by omega, by omega, comp_range (n := m.toNat) (fun i ys H' => ys = (zqs fi i).map V.str ∧ H' = H9) ⟨rfl, rfl⟩ (fun i ys H' hi ⟨e1, _⟩ => by rw [e1, List.length_map, zqs_len]; exact small1000 (by omega)) ?_ ?_⟩
          · rintro i ys H' hi ⟨rfl, rfl⟩
            have b := em26 (fi + (0 + (i : Int)))
            refine ⟨_, rfl, _, rfl, _, rfl, _, _, rfl, rfl, _, _, rfl, rfl, (by show (0 : Int) < 26; decide), _, _, _, rfl, rfl, by decide, letter_at b.1 b.2, _, _, rfl, rfl, ?_, ?_⟩
            · exact Nat.le_of_lt (small1000 (by show 2 + 1 ≤ 1000; decide))
            · refine ⟨?_, rfl⟩
              rw [zqs_succ, List.map_append, Int.zero_add, zqE]
              show _ ++ [V.str (cps [122, 113] ++ cps [97 + ((fi + (i : Int)) % 26).toNat])] = _
              rw [cps_append]
              rfl
          · rintro ys H' ⟨rfl, rfl⟩ D3 hD3
            exact q D3 _ _ (s9.trans (same_new hD3 _)) (s9.free hD3) upd_same (by rw [zqs_len]; omega) (zqs_nodup fi (by omega)) fun x hx => zqs_nam hx
end
end Nw

set_option Elab.async false
set_option linter.all false
set_option maxRecDepth 100000
set_option maxHeartbeats 4000000
namespace Nw
open PySem L2
/-! ### trees -/
inductive Sg where
  | plus | minus | times
inductive Tr where
  | num (n : Int) | nam (x : Str) | op (s : Sg) (l r : Tr)
def sgS : Sg → Str
  | .plus => "+"
  | .minus => "-"
  | .times => "*"
def trD : Tr → Dt
  | .num n => .tup [.str "number", .int n]
  | .nam x => .tup [.str "name", .str x]
  | .op s l r => .tup [.str (sgS s), trD l, trD r]
def lv : Tr → Nat
  | .num _ => 1
  | .nam _ => 1
  | .op _ l r => lv l + lv r
def dp : Tr → Nat
  | .num _ => 0
  | .nam _ => 0
  | .op _ l r => max (dp l) (dp r) + 1
theorem lv_pos : ∀ t : Tr, 0 < lv t
  | .num _ => Nat.one_pos
  | .nam _ => Nat.one_pos
  | .op _ l r => Nat.add_pos_left (lv_pos l) _
def Fits (l : List Str) : Tr → Prop
  | .num n => 0 ≤ n ∧ n ≤ 99
  | .nam x => x ∈ l
  | .op _ a b => Fits l a ∧ Fits l b
def Sb (d : Addr) (H H' : Hp) : Prop := ∀ b o, b ≠ d → H b = some o → H' b = some o
theorem Sb.trans {d : Addr} {H H1 H2 : Hp} (a : Sb d H H1) (b : Sb d H1 H2) : Sb d H H2 := fun c o hc e => b c o hc (a c o hc e)
theorem Sb.of {d : Addr} {H H' : Hp} (s : Same H H') : Sb d H H' := fun b o _ e => s b o e
theorem Sb.upd (d : Addr) (H : Hp) (o : HO) : Sb d H (upd H d o) := fun b u hb e => by rw [upd_ne hb]; exact e
theorem SqT.sb {K : PySem.W.Frag} {a r : Addr} {H H' : Hp} {xs ys : List V} (h : SqT K H r xs) (ha : H a = some (.lst ys)) (s : Sb a H H') : SqT K H' r xs := by
  rcases h with (h | ⟨o, h⟩) | h
  · exact .inl (.inl (s _ _ (ne_of h ha (by intro z; cases z)) h))
  · exact .inl (.inr ⟨o, s _ _ (ne_of h ha (by intro z; cases z)) h⟩)
  · exact .inr h
theorem tr_sb {K : PySem.W.Frag} {a : Addr} {H H' : Hp} {ys : List V} (ha : H a = some (.lst ys)) (s : Sb a H H') : ∀ {t : Tr} {v : V}, Is K H (trD t) v → Is K H' (trD t) v
  | .num n, v, h => by
    rw [trD, Is] at h ⊢
    obtain ⟨p, xs, e, h1, h2⟩ := h
    refine ⟨p, xs, e, SqT.sb h1 ha s, ?_⟩
    simp only [Iss, Is] at h2 ⊢
    exact h2
  | .nam n, v, h => by
    rw [trD, Is] at h ⊢
    obtain ⟨p, xs, e, h1, h2⟩ := h
    refine ⟨p, xs, e, SqT.sb h1 ha s, ?_⟩
    simp only [Iss, Is] at h2 ⊢
    exact h2
  | .op g l r, v, h => by
    rw [trD, Is] at h ⊢
    obtain ⟨p, xs, e, h1, h2⟩ := h
    refine ⟨p, xs, e, SqT.sb h1 ha s, ?_⟩
    simp only [Iss] at h2 ⊢
    obtain ⟨v1, r1, e1, i1, v2, r2, e2, i2, v3, r3, e3, i3, e4⟩ := h2
    refine ⟨v1, r1, e1, ?_, v2, r2, e2, tr_sb ha s i2, v3, r3, e3, tr_sb ha s i3, e4⟩
    rw [Is] at i1 ⊢
    exact i1
/-- a tree of data, opened -/
theorem is_num {K : PySem.W.Frag} {H : Hp} {n : Int} {v : V} (h : Is K H (trD (.num n)) v) : ∃ p, v = .ref p ∧ SqT K H p [.str "number", .int n] := by
  rw [trD, Is] at h
  obtain ⟨p, xs, e, h1, h2⟩ := h
  simp only [Iss, Is] at h2
  obtain ⟨v1, r1, rfl, rfl, v2, r2, rfl, rfl, rfl⟩ := h2
  exact ⟨p, e, h1⟩
theorem is_nam {K : PySem.W.Frag} {H : Hp} {n : Str} {v : V} (h : Is K H (trD (.nam n)) v) : ∃ p, v = .ref p ∧ SqT K H p [.str "name", .str n] := by
  rw [trD, Is] at h
  obtain ⟨p, xs, e, h1, h2⟩ := h
  simp only [Iss, Is] at h2
  obtain ⟨v1, r1, rfl, rfl, v2, r2, rfl, rfl, rfl⟩ := h2
  exact ⟨p, e, h1⟩
theorem is_op {K : PySem.W.Frag} {H : Hp} {g : Sg} {l r : Tr} {v : V} (h : Is K H (trD (.op g l r)) v) : ∃ p a b, v = .ref p ∧ SqT K H p [.str (sgS g), a, b] ∧ Is K H (trD l) a ∧ Is K H (trD r) b := by
  rw [trD, Is] at h
  obtain ⟨p, xs, e, h1, h2⟩ := h
  simp only [Iss] at h2
  obtain ⟨v1, r1, rfl, i1, v2, r2, rfl, i2, v3, r3, rfl, i3, rfl⟩ := h2
  rw [Is] at i1
  subst i1
  exact ⟨p, v2, v3, e, h1, i2, i3⟩
theorem sign_at {k : Int} (k0 : 0 ≤ k) (k1 : k < 3) : ∃ g : Sg, atI [V.str "+", V.str "-", V.str "*"] k = some (.str (sgS g)) := by
  have : k = 0 ∨ k = 1 ∨ k = 2 := by omega
  rcases this with rfl | rfl | rfl
  · exact ⟨.plus, atI_nat (j := 0) rfl⟩
  · exact ⟨.minus, atI_nat (j := 1) rfl⟩
  · exact ⟨.times, atI_nat (j := 2) rfl⟩
theorem tr_num {K : PySem.W.Frag} {H : Hp} {p : Addr} {n : Int} (h : SqT K H p [.str "number", .int n]) : Is K H (trD (.num n)) (.ref p) := by
  rw [trD, Is]
  exact ⟨p, _, rfl, h, .cons (by rw [Is]) (.cons (by rw [Is]) .nil)⟩
theorem tr_nam {K : PySem.W.Frag} {H : Hp} {p : Addr} {x : Str} (h : SqT K H p [.str "name", .str x]) : Is K H (trD (.nam x)) (.ref p) := by
  rw [trD, Is]
  exact ⟨p, _, rfl, h, .cons (by rw [Is]) (.cons (by rw [Is]) .nil)⟩
theorem tr_op {K : PySem.W.Frag} {H : Hp} {p : Addr} {g : Sg} {l r : Tr} {a b : V} (h : SqT K H p [.str (sgS g), a, b]) (h1 : Is K H (trD l) a) (h2 : Is K H (trD r) b) : Is K H (trD (.op g l r)) (.ref p) := by
  rw [trD, Is]
  exact ⟨p, _, rfl, h, .cons (by rw [Is]) (.cons h1 (.cons h2 .nil))⟩
theorem fn_none {P : Program} {w : World} {K : PySem.W.Frag} {mg : Str → Option Value} {base : Heap} {f : Addr} {fd : FuncData} {ps : List Str} {k : Nat} {sp : Sp} (h : ∀ vs H Q E, ¬ sp vs H Q E) : FnOk P w K mg base CX0 k f fd ps sp := ⟨fun vs H Q E q => absurd q (h _ _ _ _), fun _ _ _ _ _ _ _ _ _ _ _ _ _ q => absurd q (h _ _ _ _)⟩
/-! ### a state at a, names at b -/
theorem strs_ne {l : List Str} {x y : Int} : HO.lst (l.map V.str) ≠ HO.lst [.int x, .int y] := by
  intro e
  have e := HO.lst.inj e
  cases l with
  | nil => cases e
  | cons a r => cases (List.cons.inj e).1
structure StAt (H : Hp) (a b : Addr) (s1 : Int) (l : List Str) : Prop where
  st : ∃ s0 : Int, H a = some (.lst [.int s0, .int s1])
  nm : H b = some (.lst (l.map V.str))
theorem StAt.ne {H : Hp} {a b : Addr} {s1 : Int} {l : List Str} (S : StAt H a b s1 l) : b ≠ a := by
  obtain ⟨s0, h⟩ := S.st
  exact ne_of S.nm h strs_ne
theorem StAt.put {H : Hp} {a b : Addr} {s1 : Int} {l : List Str} (S : StAt H a b s1 l) (s0 : Int) : StAt (upd H a (.lst [.int s0, .int s1])) a b s1 l := ⟨⟨s0, upd_same⟩, by rw [upd_ne S.ne]; exact S.nm⟩
theorem StAt.same {H H' : Hp} {a b : Addr} {s1 : Int} {l : List Str} (S : StAt H a b s1 l) (s : Same H H') : StAt H' a b s1 l := by
  obtain ⟨s0, h⟩ := S.st
  exact ⟨⟨s0, s _ _ h⟩, s _ _ S.nm⟩
section
variable {P : Program} {w : World} {K : PySem.W.Frag} {mg : Str → Option Value} {base : Heap}
def spSum (K : PySem.W.Frag) (n : Nat) : Sp := fun vs H Q _ => ∃ (a b : Addr) (s1 near d : Int) (l : List Str), vs = [.ref a, .ref b, .int near, .int d] ∧ StAt H a b s1 l ∧ l.length ≤ 8 ∧ 0 ≤ d ∧ d.toNat < n ∧
  ∀ (p : Addr) (H' : Hp) (t : Tr), Sb a H H' → StAt H' a b s1 l → Is K H' (trD t) (.ref p) → Fits l t → lv t ≤ 2 ^ (d.toNat + 1) → dp t ≤ d.toNat + 1 → Q (.ref p) H'
theorem scSum : FnScope ["_law_state", "_law_names_here", "_law_near", "_law_depth", "_law_kind", "_law_sign", "_law_one"] ["_law_state", "_law_names_here", "_law_near", "_law_depth"] (defScope sSum) := ⟨rfl, rfl, rfl, by decide +kernel, rfl, by decide +kernel, by decide +kernel⟩
theorem ok_sum {f fD : Addr} {fd fdD : FuncData} (B : Bl mg) (F : Fun K "_law_sum" "_law_sum" sSum f fd) (bS : Binds K fd ["_law_state", "_law_names_here", "_law_near", "_law_depth"] []) (mS : mg "_law_sum" = some (.ref f))
    (FD : Fun K "_law_draw" "_law_draw" sDraw fD fdD) (bD : Binds K fdD ["_law_state", "_law_many"] []) (mD : mg "_law_draw" = some (.ref fD)) : ∀ n : Nat, FnOk P w K mg base CX0 (n + 2) f fd ["_law_state", "_law_names_here", "_law_near", "_law_depth"] (spSum K n)
  | 0 => fn_none fun vs H Q E h => by obtain ⟨a, b, s1, near, d, l, _, _, _, _, h1, _⟩ := h; omega
  | n + 1 => by
    have GD : FnOk P w K mg base CX0 1 fD fdD ["_law_state", "_law_many"] spDraw := ok_draw FD
    have GS := ok_sum B F bS mS FD bD mD n
    refine F.ok scSum (fun vs H Q E h => ?_) (fun cdv A outer s H vs Q E hr h => ?_)
    · obtain ⟨a, b, s1, near, d, l, rfl, _⟩ := h
      rfl
    obtain ⟨a, b, s1, near, d, l, rfl, S, l8, d0, hn, q⟩ := h
    have hrD := hr.mono (show 1 ≤ n + 2 by omega)
    have hu := hu60 hr
    have pw : 1 ≤ 2 ^ (d.toNat + 1) := Nat.one_le_two_pow
    have pw2 : 2 ≤ 2 ^ (d.toNat + 1) := by rw [Nat.pow_succ]; have := Nat.one_le_two_pow (n := d.toNat); omega
    refine ⟨_, (@pss_cons _ _ _ _ _ (@ps_set _ _ 4 _ _ _ _ scSum.nd rfl (Or.inl rfl) (pe_call GD hrD (by rfl) mD FD.kp bD .nil pass0 (@pa_cons _ _ _ _ _ (pv 0) (@pa_cons _ _ _ _ _ pe_int pa_nil (by rfl)) (by rfl))) rfl (Or.inl rfl)) (@pss_cons _ _ _ _ _ (@ps_if _ _ _ _ _ _ _ _ (@pt_cut _ _ _ ((@pw_or _ _ _ _ _ _ _ (@pt_cmpR _ _ _ _ _ _ _ _ op_eq (pv 4) pe_int (nomark _)) (pw_or1 (@pt_cmpR _ _ _ _ _ _ _ _ (@op_eqD _ hu) (pv 1) (@pe_lst _ _ _ _ pa_nil) (nomark _))))).pt) (@pss_one _ _ _ (@ps_ret _ _ _ _ (@pe_tup _ _ _ _ _ (@pa_cons _ _ _ _ _ pe_str (@pa_cons _ _ _ _ _ (@pe_op _ _ _ _ _ _ _ _ op_mod (@pe_op _ _ _ _ _ _ _ _ op_add (pv 2) (pe_call GD hrD (by rfl) mD FD.kp bD .nil pass0 (@pa_cons _ _ _ _ _ (pv 0) (@pa_cons _ _ _ _ _ pe_int pa_nil (by rfl)) (by rfl)))) pe_int) pa_nil (by rfl)) (by rfl))))) pss_nil) (@pss_cons _ _ _ _ _ (@ps_if _ _ _ _ _ _ _ _ (@pt_cmpR _ _ _ _ _ _ _ _ op_eq (pv 4) pe_int (nomark _)) (@pss_one _ _ _ (@ps_ret _ _ _ _ (@pe_tup _ _ _ _ _ (@pa_cons _ _ _ _ _ pe_str (@pa_cons _ _ _ _ _ (@pe_ix _ _ _ _ _ _ (rIxL K) ix_list (pv 1) (pe_call GD hrD (by rfl) mD FD.kp bD .nil pass0 (@pa_cons _ _ _ _ _ (pv 0) (@pa_cons _ _ _ _ _ (pe_callB call_len_seq (by rfl) B.len PySem.boot_len (@pa_cons _ _ _ _ _ (pv 1) pa_nil (by rfl))) pa_nil (by rfl)) (by rfl))) (fun _ _ => rfl)) pa_nil (by rfl)) (by rfl))))) pss_nil) (@pss_cons _ _ _ _ _ (@ps_if _ _ _ _ _ _ _ _ (@pt_cmpR _ _ _ _ _ _ _ _ op_eq (pv 4) pe_int (nomark _)) (@pss_one _ _ _ (@ps_ret _ _ _ _ (@pe_tup _ _ _ _ _ (@pa_cons _ _ _ _ _ pe_str (@pa_cons _ _ _ _ _ (pe_call GD hrD (by rfl) mD FD.kp bD .nil pass0 (@pa_cons _ _ _ _ _ (pv 0) (@pa_cons _ _ _ _ _ pe_int pa_nil (by rfl)) (by rfl))) pa_nil (by rfl)) (by rfl))))) pss_nil) (@pss_cons _ _ _ _ _ (@ps_set _ _ 5 _ _ _ _ scSum.nd rfl (Or.inl rfl) (@pe_ix _ _ _ _ _ _ (rIxL K) ix_list (@pe_lst _ _ _ _ (@pa_cons _ _ _ _ _ pe_str (@pa_cons _ _ _ _ _ pe_str (@pa_cons _ _ _ _ _ pe_str pa_nil (by rfl)) (by rfl)) (by rfl))) (pe_call GD hrD (by rfl) mD FD.kp bD .nil pass0 (@pa_cons _ _ _ _ _ (pv 0) (@pa_cons _ _ _ _ _ pe_int pa_nil (by rfl)) (by rfl))) (fun _ _ => rfl)) rfl (Or.inl rfl)) (@pss_cons _ _ _ _ _ (@ps_if _ _ _ _ _ _ _ _ (@pt_cut _ _ _ ((@pw_or _ _ _ _ _ _ _ (@pt_cmpR _ _ _ _ _ _ _ _ op_lt (pv 4) pe_int (nomark _)) (pw_or1 (@pt_cmpR _ _ _ _ _ _ _ _ op_eq (pv 3) pe_int (nomark _))))).pt) (@pss_one _ _ _ (@ps_ret _ _ _ _ (@pe_tup _ _ _ _ _ (@pa_cons _ _ _ _ _ (pv 5) (@pa_cons _ _ _ _ _ (@pe_tup _ _ _ _ _ (@pa_cons _ _ _ _ _ pe_str (@pa_cons _ _ _ _ _ (@pe_ix _ _ _ _ _ _ (rIxL K) ix_list (pv 1) (pe_call GD hrD (by rfl) mD FD.kp bD .nil pass0 (@pa_cons _ _ _ _ _ (pv 0) (@pa_cons _ _ _ _ _ (pe_callB call_len_seq (by rfl) B.len PySem.boot_len (@pa_cons _ _ _ _ _ (pv 1) pa_nil (by rfl))) pa_nil (by rfl)) (by rfl))) (fun _ _ => rfl)) pa_nil (by rfl)) (by rfl))) (@pa_cons _ _ _ _ _ (@pe_tup _ _ _ _ _ (@pa_cons _ _ _ _ _ pe_str (@pa_cons _ _ _ _ _ (pe_call GD hrD (by rfl) mD FD.kp bD .nil pass0 (@pa_cons _ _ _ _ _ (pv 0) (@pa_cons _ _ _ _ _ pe_int pa_nil (by rfl)) (by rfl))) pa_nil (by rfl)) (by rfl))) pa_nil (by rfl)) (by rfl)) (by rfl))))) pss_nil) (@pss_cons _ _ _ _ _ (@ps_set _ _ 6 _ _ _ _ scSum.nd rfl (Or.inl rfl) (pe_call GS hr (by rfl) mS F.kp bS .nil pass0 (@pa_cons _ _ _ _ _ (pv 0) (@pa_cons _ _ _ _ _ (pv 1) (@pa_cons _ _ _ _ _ (pv 2) (@pa_cons _ _ _ _ _ (@pe_op _ _ _ _ _ _ _ _ op_sub (pv 3) pe_int) pa_nil (by rfl)) (by rfl)) (by rfl)) (by rfl))) rfl (Or.inl rfl)) (@pss_one _ _ _ (@ps_ret _ _ _ _ (@pe_tup _ _ _ _ _ (@pa_cons _ _ _ _ _ (pv 5) (@pa_cons _ _ _ _ _ (pv 6) (@pa_cons _ _ _ _ _ (pe_call GS hr (by rfl) mS F.kp bS .nil pass0 (@pa_cons _ _ _ _ _ (pv 0) (@pa_cons _ _ _ _ _ (pv 1) (@pa_cons _ _ _ _ _ (pv 2) (@pa_cons _ _ _ _ _ (@pe_op _ _ _ _ _ _ _ _ op_sub (pv 3) pe_int) pa_nil (by rfl)) (by rfl)) (by rfl)) (by rfl))) pa_nil (by rfl)) (by rfl)) (by rfl)))))))))))), ?_⟩
    obtain ⟨s0, hs⟩ := S.st
    refine ⟨_, rfl, a, s0, s1, 6, rfl, hs, by decide, by decide, fun kd z0 k0 k1 => ?_⟩
    have S1 := S.put z0
    have b1 := Sb.upd a H (.lst [.int z0, .int s1])
    generalize upd H a (.lst [.int z0, .int s1]) = H1 at S1 b1 ⊢
    refine ⟨fun c H' => Same H1 H' ∧ (c = false → l ≠ []), ?_, ?_⟩
    · refine ⟨_, rfl, rfl, _, rfl, ite2 (fun _ => ⟨Same.refl _, fun z => by cases z⟩) (fun _ => ?_)⟩
      refine ⟨_, rfl, by decide, fun z hz => ⟨.lst (l.map Dt.str), .lst [], ?_, ?_, rfl, rfl, ?_, _, rfl, ?_⟩⟩
      · rw [Is]
        exact ⟨b, _, rfl, SqL.of ((same_new hz _) _ _ S1.nm), Iss.strs l⟩
      · rw [Is]
        exact ⟨z, _, rfl, SqL.of upd_same, Iss.nil⟩
      · rw [dep, deps_strs]; decide
      rw [eq_nilS]
      exact ⟨same_new hz _, fun e => of_decide_eq_false e⟩
    rintro c H2 ⟨s2, hc⟩
    have S2 := S1.same s2
    have b2 := b1.trans (.of s2)
    obtain ⟨y0, hy⟩ := S2.st
    cases c with
    | true =>
      refine iteT ⟨_, rfl, _, rfl, a, y0, s1, 7, rfl, hy, by decide, by decide, fun r y1 r0 r1 => ⟨_, _, rfl, rfl, _, _, rfl, rfl, (by show (0 : Int) < 100; decide), by show 2 ≤ sizeLine; decide, fun p hp => ?_⟩⟩
      have e1 := Int.emod_nonneg (near + r) (b := 100) (by decide)
      have e2 := Int.emod_lt_of_pos (near + r) (b := 100) (by decide)
      exact q p _ (.num ((near + r) % 100)) ((b2.trans (Sb.upd a H2 _)).trans (.of (same_new hp _))) ((S2.put y1).same (same_new hp _)) (tr_num (SqT.of upd_same)) ⟨e1, by omega⟩ pw (Nat.zero_le _)
    | false =>
      have hl0 := hc rfl
      have lp : 0 < l.length := List.length_pos_iff.mpr hl0
      refine iteF ⟨_, rfl, rfl, _, rfl, ite2 (fun _ => ?_) (fun _ => ?_)⟩
      · refine ⟨_, rfl, _, rfl, _, rfl, b, _, rfl, .inl (SqL.of S2.nm), a, y0, s1, _, rfl, hy, ?_, ?_, fun r y1 r0 r1 => ?_⟩
        · rw [List.length_map]; omega
        · rw [List.length_map]; omega
        rw [List.length_map] at r1
        obtain ⟨x, hx, ex⟩ := at_strs r0 r1
        refine ⟨b, _, _, _, rfl, rfl, SqL.of (S2.put y1).nm, ex, by show 2 ≤ sizeLine; decide, fun p hp => ?_⟩
        exact q p _ (.nam x) ((b2.trans (Sb.upd a H2 _)).trans (.of (same_new hp _))) ((S2.put y1).same (same_new hp _)) (tr_nam (SqT.of upd_same)) hx pw (Nat.zero_le _)
      refine ⟨_, rfl, rfl, _, rfl, ite2 (fun _ => ?_) (fun _ => ?_)⟩
      · refine ⟨_, rfl, a, y0, s1, 100, rfl, hy, by decide, by decide, fun r y1 r0 r1 => ⟨by show 2 ≤ sizeLine; decide, fun p hp => ?_⟩⟩
        exact q p _ (.num r) ((b2.trans (Sb.upd a H2 _)).trans (.of (same_new hp _))) ((S2.put y1).same (same_new hp _)) (tr_num (SqT.of upd_same)) ⟨r0, by omega⟩ pw (Nat.zero_le _)
      refine ⟨by show 3 ≤ sizeLine; decide, fun sl hsl => ?_⟩
      have t3 := same_new hsl (.lst [V.str "+", V.str "-", V.str "*"])
      have S3 := S2.same t3
      have b3 := b2.trans (.of t3)
      have esl : upd H2 sl (.lst [V.str "+", V.str "-", V.str "*"]) sl = some (.lst [V.str "+", V.str "-", V.str "*"]) := upd_same
      generalize upd H2 sl (.lst [V.str "+", V.str "-", V.str "*"]) = H3 at t3 S3 b3 esl ⊢
      obtain ⟨x0, hx3⟩ := S3.st
      refine ⟨_, rfl, a, x0, s1, 3, rfl, hx3, by decide, by decide, fun r y1 r0 r1 => ?_⟩
      obtain ⟨g, hg⟩ := sign_at r0 r1
      have sa : sl ≠ a := ne_of esl hx3 (by intro z; cases z)
      refine ⟨sl, _, _, _, rfl, rfl, SqL.of (by rw [upd_ne sa]; exact esl), hg, ?_⟩
      have S4 := S3.put y1
      have b4 := b3.trans (Sb.upd a H3 (.lst [.int y1, .int s1]))
      generalize upd H3 a (.lst [.int y1, .int s1]) = H4 at S4 b4 ⊢
      refine ⟨fun c H' => H' = H4 ∧ (c = false → 0 < d), ?_, ?_⟩
      · refine ⟨_, rfl, _, _, rfl, rfl, _, rfl, ite2 (fun _ => ⟨rfl, fun z => by cases z⟩) (fun _ => ?_)⟩
        refine ⟨_, rfl, rfl, _, rfl, rfl, fun e => ?_⟩
        have e : ¬ V.int d = V.int 0 := of_decide_eq_false e
        have e : d ≠ 0 := fun z => e (by rw [z])
        omega
      rintro c H5 ⟨rfl, hc⟩
      obtain ⟨w0, hw⟩ := S4.st
      cases c with
      | true =>
        refine iteT ⟨_, rfl, _, rfl, _, rfl, _, rfl, b, _, rfl, .inl (SqL.of S4.nm), a, w0, s1, _, rfl, hw, ?_, ?_, fun r y2 r0 r1 => ?_⟩
        · rw [List.length_map]; omega
        · rw [List.length_map]; omega
        rw [List.length_map] at r1
        obtain ⟨x, hx, ex⟩ := at_strs r0 r1
        have S5 := S4.put y2
        have b5 := b4.trans (Sb.upd a H5 (.lst [.int y2, .int s1]))
        generalize upd H5 a (.lst [.int y2, .int s1]) = H6 at S5 b5 ⊢
        refine ⟨b, _, _, _, rfl, rfl, SqL.of S5.nm, ex, by show 2 ≤ sizeLine; decide, fun p1 hp1 => ?_⟩
        have S6 := S5.same (same_new hp1 (.tup [V.str "name", V.str x]))
        have b6 := b5.trans (.of (same_new hp1 (.tup [V.str "name", V.str x])))
        have i6 : Is K (upd H6 p1 (.tup [V.str "name", V.str x])) (trD (.nam x)) (.ref p1) := tr_nam (SqT.of upd_same)
        generalize upd H6 p1 (.tup [V.str "name", V.str x]) = H7 at S6 b6 i6 ⊢
        obtain ⟨v0, hv⟩ := S6.st
        refine ⟨_, rfl, a, v0, s1, 4, rfl, hv, by decide, by decide, fun m y3 m0 m1 => ⟨by show 2 ≤ sizeLine; decide, fun p2 hp2 => ?_⟩⟩
        have S7 := (S6.put y3).same (same_new hp2 (.tup [V.str "number", V.int m]))
        have b7 := (b6.trans (Sb.upd a H7 (.lst [.int y3, .int s1]))).trans (.of (same_new hp2 (.tup [V.str "number", V.int m])))
        have i7 := (tr_sb hv (Sb.upd a H7 (.lst [.int y3, .int s1])) i6).same (same_new hp2 (.tup [V.str "number", V.int m]))
        have j7 : Is K (upd (upd H7 a (.lst [.int y3, .int s1])) p2 (.tup [V.str "number", V.int m])) (trD (.num m)) (.ref p2) := tr_num (SqT.of upd_same)
        refine ⟨by show 3 ≤ sizeLine; decide, fun p hp => ?_⟩
        exact q p _ (.op g (.nam x) (.num m)) (b7.trans (.of (same_new hp _))) (S7.same (same_new hp _)) (tr_op (SqT.of upd_same) (i7.same (same_new hp _)) (j7.same (same_new hp _))) ⟨hx, m0, by omega⟩ pw2 (Nat.le_add_left 1 _)
      | false =>
        have hd := hc rfl
        have ed : (d - 1).toNat = d.toNat - 1 := by omega
        refine iteF ⟨_, rfl, _, rfl, _, rfl, _, rfl, _, _, rfl, rfl, a, b, s1, near, d - 1, l, rfl, S4, l8, by omega, by omega, fun p1 H6 t1 c1 S5 i1 f1 l1 e1 => ?_⟩
        have b5 := b4.trans c1
        refine ⟨_, rfl, _, rfl, _, rfl, _, rfl, _, rfl, _, rfl, _, _, rfl, rfl, a, b, s1, near, d - 1, l, rfl, S5, l8, by omega, by omega, fun p2 H7 t2 c2 S6 i2 f2 l2 e2 => ?_⟩
        have b6 := b5.trans c2
        obtain ⟨v0, hv⟩ := S5.st
        have i1' := tr_sb hv c2 i1
        refine ⟨by show 3 ≤ sizeLine; decide, fun p hp => ?_⟩
        have pe : 2 ^ (d.toNat + 1) = 2 ^ ((d - 1).toNat + 1) + 2 ^ ((d - 1).toNat + 1) := by
          have : d.toNat + 1 = ((d - 1).toNat + 1) + 1 := by omega
          rw [this, Nat.pow_succ]
          omega
        exact q p _ (.op g t1 t2) (b6.trans (.of (same_new hp _))) (S6.same (same_new hp _)) (tr_op (SqT.of upd_same) (i1'.same (same_new hp _)) (i2.same (same_new hp _))) ⟨f1, f2⟩ (by show lv t1 + lv t2 ≤ _; omega) (by show max (dp t1) (dp t2) + 1 ≤ _; omega)
end
end Nw

set_option Elab.async false
set_option linter.all false
set_option maxRecDepth 100000
set_option maxHeartbeats 4000000
namespace Nw
open PySem L2
/-! ### the worth of a tree -/
def val (vf : Str → Int) : Tr → Int
  | .num n => n
  | .nam x => vf x
  | .op .plus l r => val vf l + val vf r
  | .op .minus l r => val vf l - val vf r
  | .op .times l r => val vf l * val vf r
structure ValsOk (kvs : List (Key × V)) (l : List Str) (vf : Str → Int) : Prop where
  nd : (kvs.map (·.1)).Nodup
  flat : ∀ p ∈ kvs, flatV p.2 = true
  get : ∀ x ∈ l, valV kvs (.inr x) = some (.int (vf x)) ∧ (vf x).natAbs < 2 ^ 110
theorem pow_sum {x y : Nat} (hx : 0 < x) (hy : 0 < y) : 2 ^ x + 2 ^ y ≤ 2 ^ (x + y) := by
  rw [Nat.pow_add]
  have h1 : 2 ≤ 2 ^ x := by
    have := Nat.pow_le_pow_right (n := 2) (by decide) hx
    simpa using this
  have h2 : 2 ≤ 2 ^ y := by
    have := Nat.pow_le_pow_right (n := 2) (by decide) hy
    simpa using this
  generalize 2 ^ x = a at *
  generalize 2 ^ y = b at *
  have e1 := Nat.mul_le_mul_right b h1
  have e2 := Nat.mul_le_mul_left a h2
  omega
theorem val_lt {kvs : List (Key × V)} {l : List Str} {vf : Str → Int} (O : ValsOk kvs l vf) : ∀ {t : Tr}, Fits l t → (val vf t).natAbs < 2 ^ (110 * lv t)
  | .num n, h => by
    obtain ⟨h1, h2⟩ : 0 ≤ n ∧ n ≤ 99 := h
    show n.natAbs < 2 ^ 110
    exact Nat.lt_of_le_of_lt (show n.natAbs ≤ 99 by omega) (by decide)
  | .nam x, h => by
    exact (O.get x h).2
  | .op g a b, h => by
    obtain ⟨h1, h2⟩ : Fits l a ∧ Fits l b := h
    have i1 := val_lt O h1
    have i2 := val_lt O h2
    have p1 := lv_pos a
    have p2 := lv_pos b
    have ps := pow_sum (x := 110 * lv a) (y := 110 * lv b) (by omega) (by omega)
    show (val vf (.op g a b)).natAbs < 2 ^ (110 * (lv a + lv b))
    rw [Nat.mul_add]
    cases g with
    | plus =>
      show (val vf a + val vf b).natAbs < _
      omega
    | minus =>
      show (val vf a - val vf b).natAbs < _
      omega
    | times =>
      show (val vf a * val vf b).natAbs < _
      rw [Int.natAbs_mul, Nat.pow_add]
      exact Nat.mul_lt_mul'' i1 i2
def pickS : Sg → V → V → V → V
  | .plus, x, _, _ => x
  | .minus, _, y, _ => y
  | .times, _, _, z => z
theorem pick_val (vf : Str → Int) (g : Sg) (a b : Tr) : pickS g (.int (val vf a + val vf b)) (.int (val vf a - val vf b)) (.int (val vf a * val vf b)) = .int (val vf (.op g a b)) := by cases g <;> rfl
theorem merge3 (g : Sg) (x y z : V) : valV (mergeK [] [((Sum.inr "+" : Key), x), ((Sum.inr "-" : Key), y), ((Sum.inr "*" : Key), z)]) (Sum.inr (sgS g) : Key) = some (pickS g x y z) := by
  show valV (putK (putK (putK [] (Sum.inr "+" : Key) x) (Sum.inr "-" : Key) y) (Sum.inr "*" : Key) z) _ = _
  rw [valV_put, valV_put, valV_put]
  cases g with
  | plus => rw [if_neg (by decide +kernel), if_neg (by decide +kernel), if_pos (by decide +kernel)]; rfl
  | minus => rw [if_neg (by decide +kernel), if_pos (by decide +kernel)]; rfl
  | times => rw [if_pos (by decide +kernel)]; rfl
section
variable {P : Program} {w : World} {K : PySem.W.Frag} {mg : Str → Option Value} {base : Heap}
theorem hu1_of {A : Around} {k : Nat} (hr : Room k A) : A.units + 1 < cLine := by have := hr.un; omega
def spWorth (K : PySem.W.Frag) (n : Nat) : Sp := fun vs H Q _ => ∃ (v : V) (d : Addr) (t : Tr) (kvs : List (Key × V)) (l : List Str) (vf : Str → Int), vs = [v, .ref d] ∧ Is K H (trD t) v ∧ H d = some (.dK kvs) ∧ ValsOk kvs l vf ∧ Fits l t ∧ lv t ≤ 100 ∧ dp t < n ∧ ∀ H', Same H H' → Q (.int (val vf t)) H'
theorem scWorth : FnScope ["_law_one", "_law_values", "_law_here", "_law_there"] ["_law_one", "_law_values"] (defScope sWorth) := ⟨rfl, rfl, rfl, by decide +kernel, rfl, by decide +kernel, by decide +kernel⟩
theorem ok_worth {f : Addr} {fd : FuncData} (B : Bl mg) (F : Fun K "_law_worth" "_law_worth" sWorth f fd) (bW : Binds K fd ["_law_one", "_law_values"] []) (mW : mg "_law_worth" = some (.ref f)) : ∀ n : Nat, FnOk P w K mg base CX0 (n + 1) f fd ["_law_one", "_law_values"] (spWorth K n)
  | 0 => ⟨fun vs H Q E h => by obtain ⟨v, d, t, kvs, l, vf, _, _, _, _, _, _, h1, _⟩ := h; omega, fun _ _ _ _ _ _ _ _ _ _ _ _ _ h => by obtain ⟨v, d, t, kvs, l, vf, _, _, _, _, _, _, h1, _⟩ := h; omega⟩
  | n + 1 => by
    have GW := ok_worth B F bW mW n
    refine F.ok scWorth (fun vs H Q E h => ?_) (fun cdv A outer s H vs Q E hr h => ?_)
    · obtain ⟨v, d, t, kvs, l, vf, rfl, _⟩ := h
      rfl
    obtain ⟨v, d, t, kvs, l, vf, rfl, it, hd, O, ft, l100, hn, q⟩ := h
    have hu1 := hu1_of hr
    refine ⟨_, (@pss_cons _ _ _ _ _ (@ps_if _ _ _ _ _ _ _ _ (@pt_cmpR _ _ _ _ _ _ _ _ op_eq (@pe_ix _ _ _ _ _ _ (rIxT K) ix_tup (pv 0) pe_int (fun _ _ => rfl)) pe_str (nomark _)) (@pss_one _ _ _ (@ps_ret _ _ _ _ (@pe_ix _ _ _ _ _ _ (rIxT K) ix_tup (pv 0) pe_int (fun _ _ => rfl)))) pss_nil) (@pss_cons _ _ _ _ _ (@ps_if _ _ _ _ _ _ _ _ (@pt_cmpR _ _ _ _ _ _ _ _ op_eq (@pe_ix _ _ _ _ _ _ (rIxT K) ix_tup (pv 0) pe_int (fun _ _ => rfl)) pe_str (nomark _)) (@pss_one _ _ _ (@ps_ret _ _ _ _ (@pe_dget _ _ _ _ _ _ hu1 (pv 1) (@pe_ix _ _ _ _ _ _ (rIxT K) ix_tup (pv 0) pe_int (fun _ _ => rfl)) (fun _ _ => rfl)))) pss_nil) (@pss_cons _ _ _ _ _ (@ps_set _ _ 2 _ _ _ _ scWorth.nd rfl (Or.inl rfl) (pe_call GW hr (by rfl) mW F.kp bW .nil pass0 (@pa_cons _ _ _ _ _ (@pe_ix _ _ _ _ _ _ (rIxT K) ix_tup (pv 0) pe_int (fun _ _ => rfl)) (@pa_cons _ _ _ _ _ (pv 1) pa_nil (by rfl)) (by rfl))) rfl (Or.inl rfl)) (@pss_cons _ _ _ _ _ (@ps_set _ _ 3 _ _ _ _ scWorth.nd rfl (Or.inl rfl) (pe_call GW hr (by rfl) mW F.kp bW .nil pass0 (@pa_cons _ _ _ _ _ (@pe_ix _ _ _ _ _ _ (rIxT K) ix_tup (pv 0) pe_int (fun _ _ => rfl)) (@pa_cons _ _ _ _ _ (pv 1) pa_nil (by rfl)) (by rfl))) rfl (Or.inl rfl)) (@pss_one _ _ _ (@ps_ret _ _ _ _ (@pe_dget _ _ _ _ _ _ hu1 (pe_disp (pps_cons pe_str (@pe_op _ _ _ _ _ _ _ _ op_add (pv 2) (pv 3)) (pps_cons pe_str (@pe_op _ _ _ _ _ _ _ _ op_sub (pv 2) (pv 3)) (pps_cons pe_str (@pe_op _ _ _ _ _ _ _ _ op_mulB (pv 2) (pv 3)) pps_nil))) (by rfl) (by rfl) (List.cons_ne_nil _ _) (by decide)) (@pe_ix _ _ _ _ _ _ (rIxT K) ix_tup (pv 0) pe_int (fun _ _ => rfl)) (fun _ _ => rfl)))))))), ?_⟩
    cases t with
    | num m =>
      obtain ⟨p, rfl, ht⟩ := is_num it
      refine ⟨_, rfl, p, _, _, _, rfl, rfl, ht, atI_nat (j := 0) rfl, rfl, _, rfl, ite2 (fun _ => ?_) (fun c => absurd (decide_eq_true rfl) c)⟩
      exact ⟨_, rfl, p, _, _, _, rfl, rfl, ht, atI_nat (j := 1) rfl, q _ (Same.refl _)⟩
    | nam x =>
      obtain ⟨p, rfl, ht⟩ := is_nam it
      refine ⟨_, rfl, p, _, _, _, rfl, rfl, ht, atI_nat (j := 0) rfl, rfl, _, rfl, ite2 (fun c => absurd (of_decide_eq_true c) (by decide +kernel)) (fun _ => ?_)⟩
      refine ⟨_, rfl, p, _, _, _, rfl, rfl, ht, atI_nat (j := 0) rfl, rfl, _, rfl, ite2 (fun _ => ?_) (fun c => absurd (decide_eq_true rfl) c)⟩
      obtain ⟨g1, g2⟩ := O.get x ft
      exact ⟨_, rfl, _, rfl, p, _, _, _, rfl, rfl, ht, atI_nat (j := 1) rfl, d, _, rfl, g1 ▸ DGet.k (k := .inr x) hd, q _ (Same.refl _)⟩
    | op g a b =>
      obtain ⟨p, va, vb, rfl, ht, ia, ib⟩ := is_op it
      obtain ⟨fa, fb⟩ : Fits l a ∧ Fits l b := ft
      have hn : max (dp a) (dp b) + 1 < n + 1 := hn
      have l100 : lv a + lv b ≤ 100 := l100
      have n1 : ¬ V.str (sgS g) = V.str "number" := by cases g <;> decide +kernel
      have n2 : ¬ V.str (sgS g) = V.str "name" := by cases g <;> decide +kernel
      refine ⟨_, rfl, p, _, _, _, rfl, rfl, ht, atI_nat (j := 0) rfl, rfl, _, rfl, ite2 (fun c => absurd (of_decide_eq_true c) n1) (fun _ => ?_)⟩
      refine ⟨_, rfl, p, _, _, _, rfl, rfl, ht, atI_nat (j := 0) rfl, rfl, _, rfl, ite2 (fun c => absurd (of_decide_eq_true c) n2) (fun _ => ?_)⟩
      refine ⟨_, rfl, p, _, _, _, rfl, rfl, ht, atI_nat (j := 1) rfl, _, rfl, va, d, a, kvs, l, vf, rfl, ia, hd, O, fa, by omega, by omega, fun H1 s1 => ?_⟩
      refine ⟨_, rfl, p, _, _, _, rfl, rfl, s1.tup ht, atI_nat (j := 2) rfl, _, rfl, vb, d, b, kvs, l, vf, rfl, ib.same s1, s1 _ _ hd, O, fb, by omega, by omega, fun H2 s2 => ?_⟩
      have ht := s2.tup (s1.tup ht)
      have q : ∀ H', Same H2 H' → Q (.int (val vf (.op g a b))) H' := fun H' s' => q H' (s1.trans (s2.trans s'))
      clear s1 ia ib hd
      revert ht q
      generalize H2 = H
      intro ht q
      refine fun dd hdd => ⟨_, rfl, _, rfl, _, _, rfl, rfl, _, rfl, _, rfl, _, _, rfl, rfl, _, rfl, _, rfl, _, _, rfl, rfl, ⟨110 * lv a, 110 * lv b, by omega, by omega, val_lt O fa, val_lt O fb⟩, upd_same, [(.inr "+", .int (val vf a + val vf b)), (.inr "-", .int (val vf a - val vf b)), (.inr "*", .int (val vf a * val vf b))], rfl, by show 3 ≤ 15; decide, ?_⟩
      have sd : Same H (upd (upd H dd (.dK [])) dd (.dK (mergeK [] [(.inr "+", .int (val vf a + val vf b)), (.inr "-", .int (val vf a - val vf b)), (.inr "*", .int (val vf a * val vf b))]))) := same_put (same_new hdd _) hdd _
      refine ⟨_, rfl, p, _, _, _, rfl, rfl, sd.tup ht, atI_nat (j := 0) rfl, dd, _, rfl, merge3 g _ _ _ ▸ DGet.k (k := .inr (sgS g)) upd_same, ?_⟩
      rw [pick_val]
      exact q _ sd
end
end Nw

set_option Elab.async false
set_option linter.all false
set_option maxRecDepth 100000
set_option maxHeartbeats 4000000
namespace Nw
open PySem L2
/-! ### the classes -/
inductive Kd where
  | num | nam | op (g : Sg)
def kd : Tr → Kd
  | .num _ => .num
  | .nam _ => .nam
  | .op g _ _ => .op g
def ckOf (CN CM CP CI CX : Addr) : Kd → Addr
  | .num => CN
  | .nam => CM
  | .op .plus => CP
  | .op .minus => CI
  | .op .times => CX
def numF (v : V) : List (Str × V) := putF "number" v []
def namF (v : V) : List (Str × V) := putF "name" v []
def twoF (a b : V) : List (Str × V) := putF "other" b (putF "one" a [])
theorem num_at (v : V) : (numF v).lookup ("number" : Str) = some v := by unfold numF; rw [lookup_putF, if_pos rfl]
theorem nam_at (v : V) : (namF v).lookup ("name" : Str) = some v := by unfold namF; rw [lookup_putF, if_pos rfl]
theorem two_one (a b : V) : (twoF a b).lookup ("one" : Str) = some a := by unfold twoF; rw [lookup_putF, if_neg (by decide +kernel), lookup_putF, if_pos rfl]
theorem two_oth (a b : V) : (twoF a b).lookup ("other" : Str) = some b := by unfold twoF; rw [lookup_putF, if_pos rfl]
theorem num_w (v : V) : (numF v).lookup ("worth" : Str) = none := by unfold numF; rw [lookup_putF, if_neg (by decide +kernel)]; rfl
theorem nam_w (v : V) : (namF v).lookup ("worth" : Str) = none := by unfold namF; rw [lookup_putF, if_neg (by decide +kernel)]; rfl
theorem two_w (a b : V) : (twoF a b).lookup ("worth" : Str) = none := by unfold twoF; rw [lookup_putF, if_neg (by decide +kernel), lookup_putF, if_neg (by decide +kernel)]; rfl
structure ClsA (K : PySem.W.Frag) (CK : Kd → Addr) : Prop where
  cl : ∀ k, Cls K (CK k)
  num : NoAttr K (CK .num) "number"
  nam : NoAttr K (CK .nam) "name"
  one : ∀ g, NoAttr K (CK (.op g)) "one"
  oth : ∀ g, NoAttr K (CK (.op g)) "other"
/-- the object made of a tree -/
def Obj (CK : Kd → Addr) (H : Hp) : Tr → V → Prop
  | .num n, v => ∃ p dx, v = .ref p ∧ H p = some (.ins (CK .num) dx (numF (.int n)))
  | .nam x, v => ∃ p dx, v = .ref p ∧ H p = some (.ins (CK .nam) dx (namF (.str x)))
  | .op g l r, v => ∃ p dx a b, v = .ref p ∧ H p = some (.ins (CK (.op g)) dx (twoF a b)) ∧ Obj CK H l a ∧ Obj CK H r b
theorem Obj.same {CK : Kd → Addr} {H H' : Hp} (s : Same H H') : ∀ {t : Tr} {v : V}, Obj CK H t v → Obj CK H' t v
  | .num n, v, h => by
    obtain ⟨p, dx, e, h⟩ := h
    exact ⟨p, dx, e, s _ _ h⟩
  | .nam n, v, h => by
    obtain ⟨p, dx, e, h⟩ := h
    exact ⟨p, dx, e, s _ _ h⟩
  | .op g l r, v, h => by
    obtain ⟨p, dx, a, b, e, h, h1, h2⟩ := h
    exact ⟨p, dx, a, b, e, s _ _ h, h1.same s, h2.same s⟩
theorem Obj.at_ {CK : Kd → Addr} {H : Hp} : ∀ {t : Tr} {v : V}, Obj CK H t v → ∃ p dx fs, v = .ref p ∧ H p = some (.ins (CK (kd t)) dx fs) ∧ fs.lookup ("worth" : Str) = none
  | .num n, v, h => by
    obtain ⟨p, dx, e, h⟩ := h
    exact ⟨p, dx, _, e, h, num_w _⟩
  | .nam n, v, h => by
    obtain ⟨p, dx, e, h⟩ := h
    exact ⟨p, dx, _, e, h, nam_w _⟩
  | .op g l r, v, h => by
    obtain ⟨p, dx, a, b, e, h, _⟩ := h
    exact ⟨p, dx, _, e, h, two_w _ _⟩
section
variable {P : Program} {w : World} {K : PySem.W.Frag} {mg : Str → Option Value} {base : Heap} {CK : Kd → Addr}
def spW (CK : Kd → Addr) (n : Nat) (k : Kd) : Sp := fun vs H Q _ => ∃ (v : V) (d : Addr) (t : Tr) (kvs : List (Key × V)) (l : List Str) (vf : Str → Int), vs = [v, .ref d] ∧ kd t = k ∧ Obj CK H t v ∧ H d = some (.dK kvs) ∧ ValsOk kvs l vf ∧ Fits l t ∧ lv t ≤ 100 ∧ dp t < n ∧ Q (.int (val vf t)) H
theorem scNumW : FnScope ["self", "values"] ["self", "values"] (defScope sNumW) := ⟨rfl, rfl, rfl, by decide +kernel, rfl, by decide +kernel, by decide +kernel⟩
theorem ok_numW {f : Addr} {fd : FuncData} (c : ClsA K CK) (F : Fun K "worth" "Number.worth" sNumW f fd) (n : Nat) : FnOk P w K mg base CX0 1 f fd ["self", "values"] (spW CK n .num) := by
  refine F.ok scNumW (fun vs H Q E h => ?_) (fun cdv A outer s H vs Q E hr h => ?_)
  · obtain ⟨v, d, t, kvs, l, vf, rfl, _⟩ := h
    rfl
  obtain ⟨v, d, t, kvs, l, vf, rfl, kt, ob, hd, O, ft, l100, hn, q⟩ := h
  refine ⟨_, (@pss_one _ _ _ (@ps_ret _ _ _ _ (@pe_fld _ _ _ _ _ (pv 0) rfl))), ?_⟩
  cases t with
  | num m =>
    obtain ⟨p, dx, rfl, hp⟩ := ob
    exact ⟨_, rfl, p, _, dx, _, _, rfl, hp, c.cl _, c.num, num_at _, q⟩
  | _ => cases kt
theorem scNamW : FnScope ["self", "values"] ["self", "values"] (defScope sNamW) := ⟨rfl, rfl, rfl, by decide +kernel, rfl, by decide +kernel, by decide +kernel⟩
theorem ok_namW {f : Addr} {fd : FuncData} (c : ClsA K CK) (F : Fun K "worth" "Named.worth" sNamW f fd) (n : Nat) : FnOk P w K mg base CX0 1 f fd ["self", "values"] (spW CK n .nam) := by
  refine F.ok scNamW (fun vs H Q E h => ?_) (fun cdv A outer s H vs Q E hr h => ?_)
  · obtain ⟨v, d, t, kvs, l, vf, rfl, _⟩ := h
    rfl
  obtain ⟨v, d, t, kvs, l, vf, rfl, kt, ob, hd, O, ft, l100, hn, q⟩ := h
  have hu1 := hu1_of hr
  refine ⟨_, (@pss_one _ _ _ (@ps_ret _ _ _ _ (@pe_dget _ _ _ _ _ _ hu1 (pv 1) (@pe_fld _ _ _ _ _ (pv 0) rfl) (fun _ _ => rfl)))), ?_⟩
  cases t with
  | nam x =>
    obtain ⟨p, dx, rfl, hp⟩ := ob
    obtain ⟨g1, g2⟩ := O.get x ft
    exact ⟨_, rfl, _, rfl, p, _, dx, _, _, rfl, hp, c.cl _, c.nam, nam_at _, d, _, rfl, g1 ▸ DGet.k (k := .inr x) hd, q⟩
  | _ => cases kt
theorem scPluW : FnScope ["self", "values"] ["self", "values"] (defScope sPluW) := ⟨rfl, rfl, rfl, by decide +kernel, rfl, by decide +kernel, by decide +kernel⟩
theorem scMinW : FnScope ["self", "values"] ["self", "values"] (defScope sMinW) := ⟨rfl, rfl, rfl, by decide +kernel, rfl, by decide +kernel, by decide +kernel⟩
theorem scTimW : FnScope ["self", "values"] ["self", "values"] (defScope sTimW) := ⟨rfl, rfl, rfl, by decide +kernel, rfl, by decide +kernel, by decide +kernel⟩
theorem spW_none (k : Kd) : ∀ vs H Q E, ¬ spW CK 0 k vs H Q E := fun vs H Q E h => by
  obtain ⟨v, d, t, kvs, l, vf, _, _, _, _, _, _, _, h1, _⟩ := h
  omega
theorem ok_pluW {f : Addr} {fd : FuncData} (c : ClsA K CK) (F : Fun K "worth" "Plus.worth" sPluW f fd) (n : Nat) (W : ∀ k, MOk P w K mg base (n + 1) (CK k) "worth" (spW CK n k)) : FnOk P w K mg base CX0 (n + 2) f fd ["self", "values"] (spW CK (n + 1) (.op .plus)) := by
  refine F.ok scPluW (fun vs H Q E h => ?_) (fun cdv A outer s H vs Q E hr h => ?_)
  · obtain ⟨v, d, t, kvs, l, vf, rfl, _⟩ := h
    rfl
  obtain ⟨v, d, t, kvs, l, vf, rfl, kt, ob, hd, O, ft, l100, hn, q⟩ := h
  refine ⟨_, (@pss_one _ _ _ (@ps_ret _ _ _ _ (@pe_op _ _ _ _ _ _ _ _ op_add (pe_methP (@pe_fld _ _ _ _ _ (pv 0) rfl) hr (@pa_cons _ _ _ _ _ (pv 1) pa_nil (by rfl))) (pe_methP (@pe_fld _ _ _ _ _ (pv 0) rfl) hr (@pa_cons _ _ _ _ _ (pv 1) pa_nil (by rfl)))))), ?_⟩
  cases t with
  | op g a b =>
    cases kt
    obtain ⟨p, dx, va, vb, rfl, hp, oa, ob⟩ := ob
    obtain ⟨fa, fb⟩ : Fits l a ∧ Fits l b := ft
    have hn : max (dp a) (dp b) + 1 < n + 1 := hn
    have l100 : lv a + lv b ≤ 100 := l100
    obtain ⟨pa, dxa, fsa, rfl, ha, la⟩ := oa.at_
    obtain ⟨pb, dxb, fsb, rfl, hb, lb⟩ := ob.at_
    refine ⟨_, rfl, p, _, dx, _, _, rfl, hp, c.cl _, c.one _, two_one _ _, pa, _, dxa, fsa, _, rfl, ha, la, W _, _, rfl, _, d, a, kvs, l, vf, rfl, rfl, oa, hd, O, fa, by omega, by omega, ?_⟩
    refine ⟨_, rfl, p, _, dx, _, _, rfl, hp, c.cl _, c.oth _, two_oth _ _, pb, _, dxb, fsb, _, rfl, hb, lb, W _, _, rfl, _, d, b, kvs, l, vf, rfl, rfl, ob, hd, O, fb, by omega, by omega, ?_⟩
    exact ⟨_, _, rfl, rfl, q⟩
  | _ => cases kt
theorem ok_minW {f : Addr} {fd : FuncData} (c : ClsA K CK) (F : Fun K "worth" "Minus.worth" sMinW f fd) (n : Nat) (W : ∀ k, MOk P w K mg base (n + 1) (CK k) "worth" (spW CK n k)) : FnOk P w K mg base CX0 (n + 2) f fd ["self", "values"] (spW CK (n + 1) (.op .minus)) := by
  refine F.ok scMinW (fun vs H Q E h => ?_) (fun cdv A outer s H vs Q E hr h => ?_)
  · obtain ⟨v, d, t, kvs, l, vf, rfl, _⟩ := h
    rfl
  obtain ⟨v, d, t, kvs, l, vf, rfl, kt, ob, hd, O, ft, l100, hn, q⟩ := h
  refine ⟨_, (@pss_one _ _ _ (@ps_ret _ _ _ _ (@pe_op _ _ _ _ _ _ _ _ op_sub (pe_methP (@pe_fld _ _ _ _ _ (pv 0) rfl) hr (@pa_cons _ _ _ _ _ (pv 1) pa_nil (by rfl))) (pe_methP (@pe_fld _ _ _ _ _ (pv 0) rfl) hr (@pa_cons _ _ _ _ _ (pv 1) pa_nil (by rfl)))))), ?_⟩
  cases t with
  | op g a b =>
    cases kt
    obtain ⟨p, dx, va, vb, rfl, hp, oa, ob⟩ := ob
    obtain ⟨fa, fb⟩ : Fits l a ∧ Fits l b := ft
    have hn : max (dp a) (dp b) + 1 < n + 1 := hn
    have l100 : lv a + lv b ≤ 100 := l100
    obtain ⟨pa, dxa, fsa, rfl, ha, la⟩ := oa.at_
    obtain ⟨pb, dxb, fsb, rfl, hb, lb⟩ := ob.at_
    refine ⟨_, rfl, p, _, dx, _, _, rfl, hp, c.cl _, c.one _, two_one _ _, pa, _, dxa, fsa, _, rfl, ha, la, W _, _, rfl, _, d, a, kvs, l, vf, rfl, rfl, oa, hd, O, fa, by omega, by omega, ?_⟩
    refine ⟨_, rfl, p, _, dx, _, _, rfl, hp, c.cl _, c.oth _, two_oth _ _, pb, _, dxb, fsb, _, rfl, hb, lb, W _, _, rfl, _, d, b, kvs, l, vf, rfl, rfl, ob, hd, O, fb, by omega, by omega, ?_⟩
    exact ⟨_, _, rfl, rfl, q⟩
  | _ => cases kt
theorem ok_timW {f : Addr} {fd : FuncData} (c : ClsA K CK) (F : Fun K "worth" "Times.worth" sTimW f fd) (n : Nat) (W : ∀ k, MOk P w K mg base (n + 1) (CK k) "worth" (spW CK n k)) : FnOk P w K mg base CX0 (n + 2) f fd ["self", "values"] (spW CK (n + 1) (.op .times)) := by
  refine F.ok scTimW (fun vs H Q E h => ?_) (fun cdv A outer s H vs Q E hr h => ?_)
  · obtain ⟨v, d, t, kvs, l, vf, rfl, _⟩ := h
    rfl
  obtain ⟨v, d, t, kvs, l, vf, rfl, kt, ob, hd, O, ft, l100, hn, q⟩ := h
  refine ⟨_, (@pss_one _ _ _ (@ps_ret _ _ _ _ (@pe_op _ _ _ _ _ _ _ _ op_mulB (pe_methP (@pe_fld _ _ _ _ _ (pv 0) rfl) hr (@pa_cons _ _ _ _ _ (pv 1) pa_nil (by rfl))) (pe_methP (@pe_fld _ _ _ _ _ (pv 0) rfl) hr (@pa_cons _ _ _ _ _ (pv 1) pa_nil (by rfl)))))), ?_⟩
  cases t with
  | op g a b =>
    cases kt
    obtain ⟨p, dx, va, vb, rfl, hp, oa, ob⟩ := ob
    obtain ⟨fa, fb⟩ : Fits l a ∧ Fits l b := ft
    have hn : max (dp a) (dp b) + 1 < n + 1 := hn
    have l100 : lv a + lv b ≤ 100 := l100
    obtain ⟨pa, dxa, fsa, rfl, ha, la⟩ := oa.at_
    obtain ⟨pb, dxb, fsb, rfl, hb, lb⟩ := ob.at_
    refine ⟨_, rfl, p, _, dx, _, _, rfl, hp, c.cl _, c.one _, two_one _ _, pa, _, dxa, fsa, _, rfl, ha, la, W _, _, rfl, _, d, a, kvs, l, vf, rfl, rfl, oa, hd, O, fa, by omega, by omega, ?_⟩
    refine ⟨_, rfl, p, _, dx, _, _, rfl, hp, c.cl _, c.oth _, two_oth _ _, pb, _, dxb, fsb, _, rfl, hb, lb, W _, _, rfl, _, d, b, kvs, l, vf, rfl, rfl, ob, hd, O, fb, by omega, by omega, ?_⟩
    exact ⟨_, _, rfl, rfl, ⟨110 * lv a, 110 * lv b, by omega, by omega, val_lt O fa, val_lt O fb⟩, q⟩
  | _ => cases kt
end
end Nw

set_option Elab.async false
set_option linter.all false
set_option maxRecDepth 100000
set_option maxHeartbeats 4000000
namespace Nw
open PySem L2
section
variable {P : Program} {w : World} {K : PySem.W.Frag} {mg : Str → Option Value} {base : Heap} {CK : Kd → Addr}
/-! ### making -/
def spNumI (C : Addr) : Sp := fun vs H Q _ => ∃ (x dx : Addr) (v : V), vs = [.ref x, v] ∧ H x = some (.ins C dx []) ∧ Q .non (upd H x (.ins C dx (numF v)))
theorem scNumI : FnScope ["self", "number"] ["self", "number"] (defScope sNumI) := ⟨rfl, rfl, rfl, by decide +kernel, rfl, by decide +kernel, by decide +kernel⟩
theorem ok_numI {f : Addr} {fd : FuncData} (c : ClsA K CK) (F : Fun K "__init__" "Number.__init__" sNumI f fd) : FnOk P w K mg base CX0 1 f fd ["self", "number"] (spNumI (CK .num)) := by
  refine F.ok scNumI (fun vs H Q E h => ?_) (fun cdv A outer s H vs Q E hr h => ?_)
  · obtain ⟨x, dx, v, rfl, _⟩ := h
    rfl
  obtain ⟨x, dx, v, rfl, hx, k⟩ := h
  refine ⟨_, (@pss_one _ _ _ (@ps_fld _ _ _ _ _ _ _ _ (pv 0) (pv 1) rfl)), ?_⟩
  exact ⟨_, rfl, _, rfl, x, _, dx, _, rfl, hx, c.cl _, c.num, (by show 0 < 1000; decide), k⟩
def spNamI (C : Addr) : Sp := fun vs H Q _ => ∃ (x dx : Addr) (v : V), vs = [.ref x, v] ∧ H x = some (.ins C dx []) ∧ Q .non (upd H x (.ins C dx (namF v)))
theorem scNamI : FnScope ["self", "name"] ["self", "name"] (defScope sNamI) := ⟨rfl, rfl, rfl, by decide +kernel, rfl, by decide +kernel, by decide +kernel⟩
theorem ok_namI {f : Addr} {fd : FuncData} (c : ClsA K CK) (F : Fun K "__init__" "Named.__init__" sNamI f fd) : FnOk P w K mg base CX0 1 f fd ["self", "name"] (spNamI (CK .nam)) := by
  refine F.ok scNamI (fun vs H Q E h => ?_) (fun cdv A outer s H vs Q E hr h => ?_)
  · obtain ⟨x, dx, v, rfl, _⟩ := h
    rfl
  obtain ⟨x, dx, v, rfl, hx, k⟩ := h
  refine ⟨_, (@pss_one _ _ _ (@ps_fld _ _ _ _ _ _ _ _ (pv 0) (pv 1) rfl)), ?_⟩
  exact ⟨_, rfl, _, rfl, x, _, dx, _, rfl, hx, c.cl _, c.nam, (by show 0 < 1000; decide), k⟩
def spTwoI (C : Addr) : Sp := fun vs H Q _ => ∃ (x dx : Addr) (a b : V), vs = [.ref x, a, b] ∧ H x = some (.ins C dx []) ∧ ∀ H', H' x = some (.ins C dx (twoF a b)) → (∀ b, b ≠ x → H' b = H b) → Q .non H'
theorem scTwoI : FnScope ["self", "one", "other"] ["self", "one", "other"] (defScope sTwoI) := ⟨rfl, rfl, rfl, by decide +kernel, rfl, by decide +kernel, by decide +kernel⟩
theorem ok_twoI {f : Addr} {fd : FuncData} (c : ClsA K CK) (F : Fun K "__init__" "Twofold.__init__" sTwoI f fd) (g : Sg) : FnOk P w K mg base CX0 1 f fd ["self", "one", "other"] (spTwoI (CK (.op g))) := by
  refine F.ok scTwoI (fun vs H Q E h => ?_) (fun cdv A outer s H vs Q E hr h => ?_)
  · obtain ⟨x, dx, a, b, rfl, _⟩ := h
    rfl
  obtain ⟨x, dx, a, b, rfl, hx, k⟩ := h
  refine ⟨_, (@pss_cons _ _ _ _ _ (@ps_fld _ _ _ _ _ _ _ _ (pv 0) (pv 1) rfl) (@pss_one _ _ _ (@ps_fld _ _ _ _ _ _ _ _ (pv 0) (pv 2) rfl))), ?_⟩
  refine ⟨_, rfl, _, rfl, x, _, dx, _, rfl, hx, c.cl _, c.one g, (by show 0 < 1000; decide), ?_⟩
  refine ⟨_, rfl, _, rfl, x, _, dx, _, rfl, upd_same, c.cl _, c.oth g, Nat.lt_of_le_of_lt (length_putF _ _ _) (by show 1 < 1000; decide), ?_⟩
  exact k _ upd_same fun b hb => by rw [upd_ne hb, upd_ne hb]
/-! ### a sum by hand -/
structure Maker (K : PySem.W.Frag) (mg : Str → Option Value) (CK : Kd → Addr) (fN fM fT : Addr) (dN dM dT : FuncData) : Prop where
  cls : ClsA K CK
  mkN : Mk K (CK .num) fN
  mkM : Mk K (CK .nam) fM
  mkT : ∀ g, Mk K (CK (.op g)) fT
  gN : mg "Number" = some (.ref (CK .num))
  gM : mg "Named" = some (.ref (CK .nam))
  gP : mg "Plus" = some (.ref (CK (.op .plus)))
  gI : mg "Minus" = some (.ref (CK (.op .minus)))
  gX : mg "Times" = some (.ref (CK (.op .times)))
  FN : Fun K "__init__" "Number.__init__" sNumI fN dN
  FM : Fun K "__init__" "Named.__init__" sNamI fM dM
  FT : Fun K "__init__" "Twofold.__init__" sTwoI fT dT
  bN : Binds K dN ["self", "number"] []
  bM : Binds K dM ["self", "name"] []
  bT : Binds K dT ["self", "one", "other"] []
def spHand (K : PySem.W.Frag) (CK : Kd → Addr) (n : Nat) : Sp := fun vs H Q _ => ∃ (v : V) (t : Tr), vs = [v] ∧ Is K H (trD t) v ∧ dp t < n ∧ ∀ (p : Addr) (H' : Hp), Same H H' → Obj CK H' t (.ref p) → Q (.ref p) H'
theorem scHand : FnScope ["_law_one", "_law_here", "_law_there"] ["_law_one"] (defScope sHand) := ⟨rfl, rfl, rfl, by decide +kernel, rfl, by decide +kernel, by decide +kernel⟩
theorem same_made {H : Hp} {x dx : Addr} (hx : H x = none) (hd : H dx = none) (n : dx ≠ x) (o o' : HO) : Same H (upd (upd H dx o) x o') := by
  intro b u e
  rw [upd_ne (ne_of_none e hx), upd_ne (ne_of_none e hd)]
  exact e
theorem ok_hand {f fN fM fT : Addr} {fd dN dM dT : FuncData} (T : Maker K mg CK fN fM fT dN dM dT) (F : Fun K "_law_sum_of" "_law_sum_of" sHand f fd) (bH : Binds K fd ["_law_one"] []) (mH : mg "_law_sum_of" = some (.ref f)) :
    ∀ n : Nat, FnOk P w K mg base CX0 (n + 3) f fd ["_law_one"] (spHand K CK n)
  | 0 => fn_none fun vs H Q E h => by obtain ⟨v, t, _, _, h1, _⟩ := h; omega
  | n + 1 => by
    have GH := ok_hand T F bH mH n
    have GN : FnOk P w K mg base CX0 1 fN dN ["self", "number"] (spNumI (CK .num)) := ok_numI T.cls T.FN
    have GM : FnOk P w K mg base CX0 1 fM dM ["self", "name"] (spNamI (CK .nam)) := ok_namI T.cls T.FM
    have GT : ∀ g, FnOk P w K mg base CX0 1 fT dT ["self", "one", "other"] (spTwoI (CK (.op g))) := ok_twoI T.cls T.FT
    refine F.ok scHand (fun vs H Q E h => ?_) (fun cdv A outer s H vs Q E hr h => ?_)
    · obtain ⟨v, t, rfl, _⟩ := h
      rfl
    obtain ⟨v, t, rfl, it, hn, q⟩ := h
    have hr2 := hr.mono (show 1 + 1 ≤ n + 3 by omega)
    refine ⟨_, (@pss_cons _ _ _ _ _ (@ps_if _ _ _ _ _ _ _ _ (@pt_cmpR _ _ _ _ _ _ _ _ op_eq (@pe_ix _ _ _ _ _ _ (rIxT K) ix_tup (pv 0) pe_int (fun _ _ => rfl)) pe_str (nomark _)) (@pss_one _ _ _ (@ps_ret _ _ _ _ (pe_make T.mkN GN hr2 rfl T.gN T.bN .nil pass0 (@pa_cons _ _ _ _ _ (@pe_ix _ _ _ _ _ _ (rIxT K) ix_tup (pv 0) pe_int (fun _ _ => rfl)) pa_nil (by rfl))))) pss_nil) (@pss_cons _ _ _ _ _ (@ps_if _ _ _ _ _ _ _ _ (@pt_cmpR _ _ _ _ _ _ _ _ op_eq (@pe_ix _ _ _ _ _ _ (rIxT K) ix_tup (pv 0) pe_int (fun _ _ => rfl)) pe_str (nomark _)) (@pss_one _ _ _ (@ps_ret _ _ _ _ (pe_make T.mkM GM hr2 rfl T.gM T.bM .nil pass0 (@pa_cons _ _ _ _ _ (@pe_ix _ _ _ _ _ _ (rIxT K) ix_tup (pv 0) pe_int (fun _ _ => rfl)) pa_nil (by rfl))))) pss_nil) (@pss_cons _ _ _ _ _ (@ps_set _ _ 1 _ _ _ _ scHand.nd rfl (Or.inl rfl) (pe_call GH hr (by rfl) mH F.kp bH .nil pass0 (@pa_cons _ _ _ _ _ (@pe_ix _ _ _ _ _ _ (rIxT K) ix_tup (pv 0) pe_int (fun _ _ => rfl)) pa_nil (by rfl))) rfl (Or.inl rfl)) (@pss_cons _ _ _ _ _ (@ps_set _ _ 2 _ _ _ _ scHand.nd rfl (Or.inl rfl) (pe_call GH hr (by rfl) mH F.kp bH .nil pass0 (@pa_cons _ _ _ _ _ (@pe_ix _ _ _ _ _ _ (rIxT K) ix_tup (pv 0) pe_int (fun _ _ => rfl)) pa_nil (by rfl))) rfl (Or.inl rfl)) (@pss_cons _ _ _ _ _ (@ps_if _ _ _ _ _ _ _ _ (@pt_cmpR _ _ _ _ _ _ _ _ op_eq (@pe_ix _ _ _ _ _ _ (rIxT K) ix_tup (pv 0) pe_int (fun _ _ => rfl)) pe_str (nomark _)) (@pss_one _ _ _ (@ps_ret _ _ _ _ (pe_make (T.mkT .plus) (GT .plus) hr2 rfl T.gP T.bT .nil pass0 (@pa_cons _ _ _ _ _ (pv 1) (@pa_cons _ _ _ _ _ (pv 2) pa_nil (by rfl)) (by rfl))))) pss_nil) (@pss_cons _ _ _ _ _ (@ps_if _ _ _ _ _ _ _ _ (@pt_cmpR _ _ _ _ _ _ _ _ op_eq (@pe_ix _ _ _ _ _ _ (rIxT K) ix_tup (pv 0) pe_int (fun _ _ => rfl)) pe_str (nomark _)) (@pss_one _ _ _ (@ps_ret _ _ _ _ (pe_make (T.mkT .minus) (GT .minus) hr2 rfl T.gI T.bT .nil pass0 (@pa_cons _ _ _ _ _ (pv 1) (@pa_cons _ _ _ _ _ (pv 2) pa_nil (by rfl)) (by rfl))))) pss_nil) (@pss_one _ _ _ (@ps_ret _ _ _ _ (pe_make (T.mkT .times) (GT .times) hr2 rfl T.gX T.bT .nil pass0 (@pa_cons _ _ _ _ _ (pv 1) (@pa_cons _ _ _ _ _ (pv 2) pa_nil (by rfl)) (by rfl))))))))))), ?_⟩
    cases t with
    | num m =>
      obtain ⟨p, rfl, ht⟩ := is_num it
      refine ⟨_, rfl, p, _, _, _, rfl, rfl, ht, atI_nat (j := 0) rfl, rfl, _, rfl, ite2 (fun _ => ?_) (fun c => absurd (decide_eq_true rfl) c)⟩
      refine ⟨_, rfl, p, _, _, _, rfl, rfl, ht, atI_nat (j := 1) rfl, fun x dx hx hd hxd => ?_⟩
      refine ⟨x, dx, _, rfl, upd_same, rfl, q x _ ?_ ⟨x, dx, rfl, upd_same⟩⟩
      intro b u e
      rw [upd_ne (ne_of_none e hx)]
      exact same_made hx hd hxd _ _ b u e
    | nam m =>
      obtain ⟨p, rfl, ht⟩ := is_nam it
      refine ⟨_, rfl, p, _, _, _, rfl, rfl, ht, atI_nat (j := 0) rfl, rfl, _, rfl, ite2 (fun c => absurd (of_decide_eq_true c) (by decide +kernel)) (fun _ => ?_)⟩
      refine ⟨_, rfl, p, _, _, _, rfl, rfl, ht, atI_nat (j := 0) rfl, rfl, _, rfl, ite2 (fun _ => ?_) (fun c => absurd (decide_eq_true rfl) c)⟩
      refine ⟨_, rfl, p, _, _, _, rfl, rfl, ht, atI_nat (j := 1) rfl, fun x dx hx hd hxd => ?_⟩
      refine ⟨x, dx, _, rfl, upd_same, rfl, q x _ ?_ ⟨x, dx, rfl, upd_same⟩⟩
      intro b u e
      rw [upd_ne (ne_of_none e hx)]
      exact same_made hx hd hxd _ _ b u e
    | op g a b =>
      obtain ⟨p, va, vb, rfl, ht, ia, ib⟩ := is_op it
      have hn : max (dp a) (dp b) + 1 < n + 1 := hn
      have n1 : ¬ V.str (sgS g) = V.str "number" := by cases g <;> decide +kernel
      have n2 : ¬ V.str (sgS g) = V.str "name" := by cases g <;> decide +kernel
      refine ⟨_, rfl, p, _, _, _, rfl, rfl, ht, atI_nat (j := 0) rfl, rfl, _, rfl, ite2 (fun c => absurd (of_decide_eq_true c) n1) (fun _ => ?_)⟩
      refine ⟨_, rfl, p, _, _, _, rfl, rfl, ht, atI_nat (j := 0) rfl, rfl, _, rfl, ite2 (fun c => absurd (of_decide_eq_true c) n2) (fun _ => ?_)⟩
      refine ⟨_, rfl, p, _, _, _, rfl, rfl, ht, atI_nat (j := 1) rfl, va, a, rfl, ia, by omega, fun p1 H1 s1 o1 => ?_⟩
      refine ⟨_, rfl, p, _, _, _, rfl, rfl, s1.tup ht, atI_nat (j := 2) rfl, vb, b, rfl, ib.same s1, by omega, fun p2 H2 s2 o2 => ?_⟩
      have ht2 := s2.tup (s1.tup ht)
      have fin : ∀ (x dx : Addr), H2 x = none → H2 dx = none → dx ≠ x → spTwoI (CK (.op g)) [.ref x, .ref p1, .ref p2] (upd (upd H2 dx (.own x)) x (.ins (CK (.op g)) dx [])) (fun v H3 => v = .non ∧ Q (.ref x) H3) E0 := by
        intro x dx hx hd hxd
        refine ⟨x, dx, _, _, rfl, upd_same, fun H3 h3 h4 => ⟨rfl, ?_⟩⟩
        have s3 : Same H2 H3 := by
          intro b' u e
          rw [h4 b' (ne_of_none e hx)]
          exact same_made hx hd hxd _ _ b' u e
        exact q x H3 (s1.trans (s2.trans s3)) ⟨x, dx, _, _, rfl, h3, o1.same (s2.trans s3), o2.same s3⟩
      cases g with
      | plus =>
        refine ⟨_, rfl, p, _, _, _, rfl, rfl, ht2, atI_nat (j := 0) rfl, rfl, _, rfl, ite2 (fun _ => ?_) (fun c => absurd (decide_eq_true rfl) c)⟩
        exact ⟨_, rfl, _, rfl, fin⟩
      | minus =>
        refine ⟨_, rfl, p, _, _, _, rfl, rfl, ht2, atI_nat (j := 0) rfl, rfl, _, rfl, ite2 (fun c => absurd (of_decide_eq_true c) (by decide +kernel)) (fun _ => ?_)⟩
        refine ⟨_, rfl, p, _, _, _, rfl, rfl, ht2, atI_nat (j := 0) rfl, rfl, _, rfl, ite2 (fun _ => ?_) (fun c => absurd (decide_eq_true rfl) c)⟩
        exact ⟨_, rfl, _, rfl, fin⟩
      | times =>
        refine ⟨_, rfl, p, _, _, _, rfl, rfl, ht2, atI_nat (j := 0) rfl, rfl, _, rfl, ite2 (fun c => absurd (of_decide_eq_true c) (by decide +kernel)) (fun _ => ?_)⟩
        refine ⟨_, rfl, p, _, _, _, rfl, rfl, ht2, atI_nat (j := 0) rfl, rfl, _, rfl, ite2 (fun c => absurd (of_decide_eq_true c) (by decide +kernel)) (fun _ => ?_)⟩
        exact ⟨_, rfl, _, rfl, fin⟩
end
end Nw

set_option Elab.async false
set_option linter.all false
set_option maxRecDepth 100000
set_option maxHeartbeats 4000000
namespace Nw
open PySem L2
/-! ### changes -/
inductive Kc where
  | cha | put | any
inductive Ch where
  | cha (n : Str) | put (n : Str) (t : Tr) | any (n : Str) (t u : Tr)
def kc : Ch → Kc
  | .cha _ => .cha
  | .put _ _ => .put
  | .any _ _ _ => .any
def chN : Ch → Str
  | .cha n => n
  | .put n _ => n
  | .any n _ _ => n
def ccOf (CC CU CA : Addr) : Kc → Addr
  | .cha => CC
  | .put => CU
  | .any => CA
def putFd (n o : V) : List (Str × V) := putF "one" o (namF n)
def anyFd (n a b : V) : List (Str × V) := putF "other" b (putF "one" a (namF n))
theorem nam_c (v : V) : (namF v).lookup ("choices" : Str) = none := by unfold namF; rw [lookup_putF, if_neg (by decide +kernel)]; rfl
theorem putd_one (n o : V) : (putFd n o).lookup ("one" : Str) = some o := by unfold putFd; rw [lookup_putF, if_pos rfl]
theorem putd_nam (n o : V) : (putFd n o).lookup ("name" : Str) = some n := by unfold putFd; rw [lookup_putF, if_neg (by decide +kernel)]; exact nam_at n
theorem putd_c (n o : V) : (putFd n o).lookup ("choices" : Str) = none := by unfold putFd; rw [lookup_putF, if_neg (by decide +kernel)]; exact nam_c n
theorem anyd_one (n a b : V) : (anyFd n a b).lookup ("one" : Str) = some a := by unfold anyFd; rw [lookup_putF, if_neg (by decide +kernel), lookup_putF, if_pos rfl]
theorem anyd_oth (n a b : V) : (anyFd n a b).lookup ("other" : Str) = some b := by unfold anyFd; rw [lookup_putF, if_pos rfl]
theorem anyd_nam (n a b : V) : (anyFd n a b).lookup ("name" : Str) = some n := by unfold anyFd; rw [lookup_putF, if_neg (by decide +kernel), lookup_putF, if_neg (by decide +kernel)]; exact nam_at n
theorem anyd_c (n a b : V) : (anyFd n a b).lookup ("choices" : Str) = none := by unfold anyFd; rw [lookup_putF, if_neg (by decide +kernel), lookup_putF, if_neg (by decide +kernel)]; exact nam_c n
structure ClsC (K : PySem.W.Frag) (CC : Kc → Addr) : Prop where
  cl : ∀ k, Cls K (CC k)
  nm : ∀ k, NoAttr K (CC k) "name"
  p1 : NoAttr K (CC .put) "one"
  a1 : NoAttr K (CC .any) "one"
  a2 : NoAttr K (CC .any) "other"
def ObjC (CK : Kd → Addr) (CC : Kc → Addr) (H : Hp) : Ch → V → Prop
  | .cha n, v => ∃ p dx, v = .ref p ∧ H p = some (.ins (CC .cha) dx (namF (.str n)))
  | .put n t, v => ∃ p dx o, v = .ref p ∧ H p = some (.ins (CC .put) dx (putFd (.str n) o)) ∧ Obj CK H t o
  | .any n t u, v => ∃ p dx a b, v = .ref p ∧ H p = some (.ins (CC .any) dx (anyFd (.str n) a b)) ∧ Obj CK H t a ∧ Obj CK H u b
theorem ObjC.same {CK : Kd → Addr} {CC : Kc → Addr} {H H' : Hp} (s : Same H H') : ∀ {c : Ch} {v : V}, ObjC CK CC H c v → ObjC CK CC H' c v
  | .cha n, v, h => by obtain ⟨p, dx, e, h⟩ := h; exact ⟨p, dx, e, s _ _ h⟩
  | .put n t, v, h => by obtain ⟨p, dx, o, e, h, h1⟩ := h; exact ⟨p, dx, o, e, s _ _ h, h1.same s⟩
  | .any n t u, v, h => by obtain ⟨p, dx, a, b, e, h, h1, h2⟩ := h; exact ⟨p, dx, a, b, e, s _ _ h, h1.same s, h2.same s⟩
theorem ObjC.at_ {CK : Kd → Addr} {CC : Kc → Addr} {H : Hp} : ∀ {c : Ch} {v : V}, ObjC CK CC H c v → ∃ p dx fs, v = .ref p ∧ H p = some (.ins (CC (kc c)) dx fs) ∧ fs.lookup ("choices" : Str) = none ∧ fs.lookup ("name" : Str) = some (.str (chN c))
  | .cha n, v, h => by obtain ⟨p, dx, e, h⟩ := h; exact ⟨p, dx, _, e, h, nam_c _, nam_at _⟩
  | .put n t, v, h => by obtain ⟨p, dx, o, e, h, h1⟩ := h; exact ⟨p, dx, _, e, h, putd_c _ _, putd_nam _ _⟩
  | .any n t u, v, h => by obtain ⟨p, dx, a, b, e, h, h1, h2⟩ := h; exact ⟨p, dx, _, e, h, anyd_c _ _ _, anyd_nam _ _ _⟩
def FitsC (l : List Str) (n : Nat) : Ch → Prop
  | .cha _ => True
  | .put _ t => Fits l t ∧ lv t ≤ 100 ∧ dp t < n
  | .any _ t u => (Fits l t ∧ lv t ≤ 100 ∧ dp t < n) ∧ Fits l u ∧ lv u ≤ 100 ∧ dp u < n
/-- the values that a change tells from lo to hi -/
def chV (vf : Str → Int) (lo hi : Int) : Ch → List V
  | .cha _ => []
  | .put _ t => if lo ≤ val vf t ∧ val vf t ≤ hi then [.int (val vf t)] else []
  | .any _ t u => upTo (if val vf t > lo then val vf t else lo) ((if val vf u < hi then val vf u else hi) + 1 - (if val vf t > lo then val vf t else lo)).toNat
section
variable {P : Program} {w : World} {K : PySem.W.Frag} {mg : Str → Option Value} {base : Heap} {CK : Kd → Addr} {CC : Kc → Addr}
/-! ### making -/
def spChaI (C : Addr) : Sp := fun vs H Q _ => ∃ (x dx : Addr) (v : V), vs = [.ref x, v] ∧ H x = some (.ins C dx []) ∧ Q .non (upd H x (.ins C dx (namF v)))
theorem scChaI : FnScope ["self", "name"] ["self", "name"] (defScope sChaI) := ⟨rfl, rfl, rfl, by decide +kernel, rfl, by decide +kernel, by decide +kernel⟩
theorem ok_chaI {f : Addr} {fd : FuncData} (c : ClsC K CC) (F : Fun K "__init__" "Change.__init__" sChaI f fd) (k : Kc) : FnOk P w K mg base CX0 1 f fd ["self", "name"] (spChaI (CC k)) := by
  refine F.ok scChaI (fun vs H Q E h => ?_) (fun cdv A outer s H vs Q E hr h => ?_)
  · obtain ⟨x, dx, v, rfl, _⟩ := h
    rfl
  obtain ⟨x, dx, v, rfl, hx, q⟩ := h
  refine ⟨_, (@pss_one _ _ _ (@ps_fld _ _ _ _ _ _ _ _ (pv 0) (pv 1) rfl)), ?_⟩
  exact ⟨_, rfl, _, rfl, x, _, dx, _, rfl, hx, c.cl _, c.nm _, (by show 0 < 1000; decide), q⟩
def spPutI (C : Addr) : Sp := fun vs H Q _ => ∃ (x dx : Addr) (n o : V), vs = [.ref x, n, o] ∧ H x = some (.ins C dx []) ∧ ∀ H', H' x = some (.ins C dx (putFd n o)) → (∀ b, b ≠ x → H' b = H b) → Q .non H'
theorem scPutI : FnScope ["self", "name", "one"] ["self", "name", "one"] (defScope sPutI) := ⟨rfl, rfl, rfl, by decide +kernel, rfl, by decide +kernel, by decide +kernel⟩
theorem ok_putI {f fC : Addr} {fd fdC : FuncData} (c : ClsC K CC) (F : Fun K "__init__" "Put.__init__" sPutI f fd) (FC : Fun K "__init__" "Change.__init__" sChaI fC fdC) (bC : Binds K fdC ["self", "name"] []) (gC : mg "Change" = some (.ref (CC .cha))) (M : CMeth K (CC .cha) "__init__" fC) : FnOk P w K mg base CX0 2 f fd ["self", "name", "one"] (spPutI (CC .put)) := by
  have GC : FnOk P w K mg base CX0 1 fC fdC ["self", "name"] (spChaI (CC .put)) := ok_chaI c FC .put
  refine F.ok scPutI (fun vs H Q E h => ?_) (fun cdv A outer s H vs Q E hr h => ?_)
  · obtain ⟨x, dx, n, o, rfl, _⟩ := h
    rfl
  obtain ⟨x, dx, n, o, rfl, hx, q⟩ := h
  refine ⟨_, (@pss_cons _ _ _ _ _ (@ps_expr _ _ _ _ (pe_callC rfl gC M GC hr bC .nil pass0 (@pa_cons _ _ _ _ _ (pv 0) (@pa_cons _ _ _ _ _ (pv 1) pa_nil (by rfl)) (by rfl))) (by rfl)) (@pss_one _ _ _ (@ps_fld _ _ _ _ _ _ _ _ (pv 0) (pv 2) rfl))), ?_⟩
  refine ⟨_, rfl, _, rfl, x, dx, n, rfl, hx, ?_⟩
  refine ⟨_, rfl, _, rfl, x, _, dx, _, rfl, upd_same, c.cl _, c.p1, Nat.lt_of_le_of_lt (length_putF _ _ _) (by show 1 < 1000; decide), ?_⟩
  exact q _ upd_same fun b hb => by rw [upd_ne hb, upd_ne hb]
def spAnyI (C : Addr) : Sp := fun vs H Q _ => ∃ (x dx : Addr) (n o u : V), vs = [.ref x, n, o, u] ∧ H x = some (.ins C dx []) ∧ ∀ H', H' x = some (.ins C dx (anyFd n o u)) → (∀ b, b ≠ x → H' b = H b) → Q .non H'
theorem scAnyI : FnScope ["self", "name", "one", "other"] ["self", "name", "one", "other"] (defScope sAnyI) := ⟨rfl, rfl, rfl, by decide +kernel, rfl, by decide +kernel, by decide +kernel⟩
theorem ok_anyI {f fC : Addr} {fd fdC : FuncData} (c : ClsC K CC) (F : Fun K "__init__" "Any.__init__" sAnyI f fd) (FC : Fun K "__init__" "Change.__init__" sChaI fC fdC) (bC : Binds K fdC ["self", "name"] []) (gC : mg "Change" = some (.ref (CC .cha))) (M : CMeth K (CC .cha) "__init__" fC) : FnOk P w K mg base CX0 2 f fd ["self", "name", "one", "other"] (spAnyI (CC .any)) := by
  have GC : FnOk P w K mg base CX0 1 fC fdC ["self", "name"] (spChaI (CC .any)) := ok_chaI c FC .any
  refine F.ok scAnyI (fun vs H Q E h => ?_) (fun cdv A outer s H vs Q E hr h => ?_)
  · obtain ⟨x, dx, n, o, u, rfl, _⟩ := h
    rfl
  obtain ⟨x, dx, n, o, u, rfl, hx, q⟩ := h
  refine ⟨_, (@pss_cons _ _ _ _ _ (@ps_expr _ _ _ _ (pe_callC rfl gC M GC hr bC .nil pass0 (@pa_cons _ _ _ _ _ (pv 0) (@pa_cons _ _ _ _ _ (pv 1) pa_nil (by rfl)) (by rfl))) (by rfl)) (@pss_cons _ _ _ _ _ (@ps_fld _ _ _ _ _ _ _ _ (pv 0) (pv 2) rfl) (@pss_one _ _ _ (@ps_fld _ _ _ _ _ _ _ _ (pv 0) (pv 3) rfl)))), ?_⟩
  refine ⟨_, rfl, _, rfl, x, dx, n, rfl, hx, ?_⟩
  refine ⟨_, rfl, _, rfl, x, _, dx, _, rfl, upd_same, c.cl _, c.a1, Nat.lt_of_le_of_lt (length_putF _ _ _) (by show 1 < 1000; decide), ?_⟩
  refine ⟨_, rfl, _, rfl, x, _, dx, _, rfl, upd_same, c.cl _, c.a2, Nat.lt_of_le_of_lt (length_putF _ _ _) (Nat.lt_of_le_of_lt (Nat.succ_le_succ (length_putF _ _ _)) (by show 2 < 1000; decide)), ?_⟩
  exact q _ upd_same fun b hb => by rw [upd_ne hb, upd_ne hb, upd_ne hb]
/-! ### choices -/
def spC (CK : Kd → Addr) (CC : Kc → Addr) (n : Nat) (k : Kc) : Sp := fun vs H Q _ => ∃ (v : V) (d : Addr) (lo hi : Int) (c : Ch) (kvs : List (Key × V)) (l : List Str) (vf : Str → Int), vs = [v, .ref d, .int lo, .int hi] ∧ kc c = k ∧ ObjC CK CC H c v ∧ H d = some (.dK kvs) ∧ ValsOk kvs l vf ∧ FitsC l n c ∧ hi - lo ≤ 500 ∧ ∀ p, H p = none → Q (.ref p) (upd H p (.lst (chV vf lo hi c)))
theorem scChaC : FnScope ["self", "values", "low", "high"] ["self", "values", "low", "high"] (defScope sChaC) := ⟨rfl, rfl, rfl, by decide +kernel, rfl, by decide +kernel, by decide +kernel⟩
theorem ok_chaC {f : Addr} {fd : FuncData} (F : Fun K "choices" "Change.choices" sChaC f fd) (n : Nat) : FnOk P w K mg base CX0 1 f fd ["self", "values", "low", "high"] (spC CK CC n .cha) := by
  refine F.ok scChaC (fun vs H Q E h => ?_) (fun cdv A outer s H vs Q E hr h => ?_)
  · obtain ⟨v, d, lo, hi, c, kvs, l, vf, rfl, _⟩ := h
    rfl
  obtain ⟨v, d, lo, hi, c, kvs, l, vf, rfl, kt, ob, hd, O, ft, hw, q⟩ := h
  refine ⟨_, (@pss_one _ _ _ (@ps_ret _ _ _ _ (@pe_lst _ _ _ _ pa_nil))), ?_⟩
  cases c with
  | cha m => exact ⟨Nat.zero_le _, fun p hp => q p hp⟩
  | _ => cases kt
theorem scPutC : FnScope ["self", "values", "low", "high", "worth"] ["self", "values", "low", "high"] (defScope sPutC) := ⟨rfl, rfl, rfl, by decide +kernel, rfl, by decide +kernel, by decide +kernel⟩
theorem ok_putC {f : Addr} {fd : FuncData} (c : ClsC K CC) (F : Fun K "choices" "Put.choices" sPutC f fd) (n : Nat) (W : ∀ k, MOk P w K mg base (n + 1) (CK k) "worth" (spW CK n k)) : FnOk P w K mg base CX0 (n + 2) f fd ["self", "values", "low", "high"] (spC CK CC n .put) := by
  refine F.ok scPutC (fun vs H Q E h => ?_) (fun cdv A outer s H vs Q E hr h => ?_)
  · obtain ⟨v, d, lo, hi, c, kvs, l, vf, rfl, _⟩ := h
    rfl
  obtain ⟨v, d, lo, hi, cg, kvs, l, vf, rfl, kt, ob, hd, O, ft, hw, q⟩ := h
  refine ⟨_, (@pss_cons _ _ _ _ _ (@ps_set _ _ 4 _ _ _ _ scPutC.nd rfl (Or.inl rfl) (pe_methP (@pe_fld _ _ _ _ _ (pv 0) rfl) hr (@pa_cons _ _ _ _ _ (pv 1) pa_nil (by rfl))) rfl (Or.inl rfl)) (@pss_cons _ _ _ _ _ (@ps_if _ _ _ _ _ _ _ _ ((@pw_or _ _ _ _ _ _ _ (@pt_cmpR _ _ _ _ _ _ _ _ op_lt (pv 4) (pv 2) (nomark _)) (pw_or1 (@pt_cmpR _ _ _ _ _ _ _ _ op_gt (pv 4) (pv 3) (nomark _))))).pt (@pss_one _ _ _ (@ps_ret _ _ _ _ (@pe_lst _ _ _ _ pa_nil))) pss_nil) (@pss_one _ _ _ (@ps_ret _ _ _ _ (@pe_lst _ _ _ _ (@pa_cons _ _ _ _ _ (pv 4) pa_nil (by rfl))))))), ?_⟩
  cases cg with
  | put m t =>
    obtain ⟨p, dx, o, rfl, hp, oo⟩ := ob
    obtain ⟨f1, f2, f3⟩ : Fits l t ∧ lv t ≤ 100 ∧ dp t < n := ft
    obtain ⟨pa, dxa, fsa, rfl, ha, la⟩ := oo.at_
    have q : ∀ p, H p = none → Q (.ref p) (upd H p (.lst (if lo ≤ val vf t ∧ val vf t ≤ hi then [.int (val vf t)] else []))) := q
    refine ⟨_, rfl, p, _, dx, _, _, rfl, hp, c.cl _, c.p1, putd_one _ _, pa, _, dxa, fsa, _, rfl, ha, la, W _, _, rfl, _, d, t, kvs, l, vf, rfl, rfl, oo, hd, O, f1, f2, f3, ?_⟩
    refine ⟨_, rfl, _, rfl, _, _, rfl, rfl, _, rfl, ite2 (fun c1 => ?_) (fun c1 => ?_)⟩
    · have c1 : val vf t < lo := of_decide_eq_true c1
      rw [if_neg (by omega)] at q
      exact ⟨Nat.zero_le _, q⟩
    have c1 : ¬ val vf t < lo := of_decide_eq_false (Bool.eq_false_iff.mpr c1)
    refine ⟨_, rfl, _, rfl, _, _, rfl, rfl, _, rfl, ite2 (fun c2 => ?_) (fun c2 => ?_)⟩
    · have c2 : val vf t > hi := of_decide_eq_true c2
      rw [if_neg (by omega)] at q
      exact ⟨Nat.zero_le _, q⟩
    · have c2 : ¬ val vf t > hi := of_decide_eq_false (Bool.eq_false_iff.mpr c2)
      rw [if_pos (by omega)] at q
      exact ⟨_, rfl, by show 1 ≤ sizeLine; decide, q⟩
  | _ => cases kt
theorem scAnyC : FnScope ["self", "values", "low", "high", "least", "most"] ["self", "values", "low", "high"] (defScope sAnyC) := ⟨rfl, rfl, rfl, by decide +kernel, rfl, by decide +kernel, by decide +kernel⟩
theorem ok_anyC {f : Addr} {fd : FuncData} (B : Bl mg) (c : ClsC K CC) (F : Fun K "choices" "Any.choices" sAnyC f fd) (n : Nat) (W : ∀ k, MOk P w K mg base (n + 1) (CK k) "worth" (spW CK n k)) : FnOk P w K mg base CX0 (n + 2) f fd ["self", "values", "low", "high"] (spC CK CC n .any) := by
  refine F.ok scAnyC (fun vs H Q E h => ?_) (fun cdv A outer s H vs Q E hr h => ?_)
  · obtain ⟨v, d, lo, hi, c, kvs, l, vf, rfl, _⟩ := h
    rfl
  obtain ⟨v, d, lo, hi, cg, kvs, l, vf, rfl, kt, ob, hd, O, ft, hw, q⟩ := h
  refine ⟨_, (@pss_cons _ _ _ _ _ (@ps_set _ _ 4 _ _ _ _ scAnyC.nd rfl (Or.inl rfl) (pe_callB (call_max2 rfl) (by rfl) B.max PyProof.Rows.boot_max (@pa_cons _ _ _ _ _ (pv 2) (@pa_cons _ _ _ _ _ (pe_methP (@pe_fld _ _ _ _ _ (pv 0) rfl) hr (@pa_cons _ _ _ _ _ (pv 1) pa_nil (by rfl))) pa_nil (by rfl)) (by rfl))) rfl (Or.inl rfl)) (@pss_cons _ _ _ _ _ (@ps_set _ _ 5 _ _ _ _ scAnyC.nd rfl (Or.inl rfl) (pe_callB (call_min2 rfl) (by rfl) B.min PyProof.Rows.boot_min (@pa_cons _ _ _ _ _ (pv 3) (@pa_cons _ _ _ _ _ (pe_methP (@pe_fld _ _ _ _ _ (pv 0) rfl) hr (@pa_cons _ _ _ _ _ (pv 1) pa_nil (by rfl))) pa_nil (by rfl)) (by rfl))) rfl (Or.inl rfl)) (@pss_one _ _ _ (@ps_ret _ _ _ _ (pe_listRange rfl B.list rfl B.range rfl (@pa_cons _ _ _ _ _ (pv 4) (@pa_cons _ _ _ _ _ (@pe_op _ _ _ _ _ _ _ _ op_add (pv 5) pe_int) pa_nil (by rfl)) (by rfl))))))), ?_⟩
  cases cg with
  | any m t u =>
    obtain ⟨p, dx, o, o', rfl, hp, oo, ou⟩ := ob
    obtain ⟨⟨f1, f2, f3⟩, g1, g2, g3⟩ : (Fits l t ∧ lv t ≤ 100 ∧ dp t < n) ∧ Fits l u ∧ lv u ≤ 100 ∧ dp u < n := ft
    obtain ⟨pa, dxa, fsa, rfl, ha, la⟩ := oo.at_
    obtain ⟨pb, dxb, fsb, rfl, hb, lb⟩ := ou.at_
    refine ⟨_, rfl, _, rfl, p, _, dx, _, _, rfl, hp, c.cl _, c.a1, anyd_one _ _ _, pa, _, dxa, fsa, _, rfl, ha, la, W _, _, rfl, _, d, t, kvs, l, vf, rfl, rfl, oo, hd, O, f1, f2, f3, _, _, rfl, ?_⟩
    refine ⟨_, rfl, _, rfl, p, _, dx, _, _, rfl, hp, c.cl _, c.a2, anyd_oth _ _ _, pb, _, dxb, fsb, _, rfl, hb, lb, W _, _, rfl, _, d, u, kvs, l, vf, rfl, rfl, ou, hd, O, g1, g2, g3, _, _, rfl, ?_⟩
    refine ⟨_, rfl, _, rfl, _, _, rfl, rfl, _, _, rfl, ?_, fun z hz => q z hz⟩
    split <;> split <;> omega
  | _ => cases kt
/-! ### what is right -/
def spWhole : Sp := fun vs H Q _ => ∃ i : Int, vs = [.int i] ∧ Q (.bl true) H
theorem scWhole : FnScope ["_law_found"] ["_law_found"] (defScope sWhole) := ⟨rfl, rfl, rfl, by decide +kernel, rfl, by decide +kernel, by decide +kernel⟩
theorem ok_whole {f : Addr} {fd : FuncData} (B : Bl mg) (F : Fun K "_law_whole" "_law_whole" sWhole f fd) : FnOk P w K mg base CX0 1 f fd ["_law_found"] spWhole := by
  refine F.ok scWhole (fun vs H Q E h => ?_) (fun cdv A outer s H vs Q E hr h => ?_)
  · obtain ⟨i, rfl, _⟩ := h
    rfl
  obtain ⟨i, rfl, k⟩ := h
  refine ⟨_, (@pss_one _ _ _ (@ps_ret _ _ _ _ (@pe_and _ _ _ _ _ _ _ (pe_callB call_isinst (by rfl) B.isinstance PyProof.Rows.boot_isinstance (@pa_cons _ _ _ _ _ (pv 0) (@pa_cons _ _ _ _ _ (pe_bltn (v := V.ty "int") (by rfl) B.int PyProof.Rows.boot_int (by rfl)) pa_nil (by rfl)) (by rfl))) (@pe_one _ _ _ _ _ (@pe_not _ _ _ _ (pe_callB call_isinst (by rfl) B.isinstance PyProof.Rows.boot_isinstance (@pa_cons _ _ _ _ _ (pv 0) (@pa_cons _ _ _ _ _ (pe_bltn (v := V.ty "bool") (by rfl) B.bool PyProof.Rows.boot_bool (by rfl)) pa_nil (by rfl)) (by rfl)))))))), ?_⟩
  refine ⟨_, rfl, _, _, _, _, rfl, TyOf.int i, rfl, _, rfl, ?_⟩
  rw [if_pos rfl]
  exact ⟨_, rfl, _, _, _, false, rfl, TyOf.int i, rfl, _, rfl, k⟩
def spSame : Sp := fun vs H Q _ => ∃ (a b : Addr) (ns : List Int), vs = [.ref a, .ref b] ∧ H a = some (.lst (ns.map V.int)) ∧ H b = some (.lst (ns.map V.int)) ∧ ns.length ≤ 900 ∧ ∀ H', Same H H' → Q (.bl true) H'
theorem scSame : FnScope ["_law_found", "_law_due"] ["_law_found", "_law_due"] (defScope sSame) := ⟨rfl, rfl, rfl, by decide +kernel, rfl, by decide +kernel, by decide +kernel⟩
theorem nd_scSame1 : (["_law_found", "_law_due", "_law_k"] : List Str).Nodup := by decide +kernel
theorem ok_same {f fW : Addr} {fd fdW : FuncData} (B : Bl mg) (F : Fun K "_law_same" "_law_same" sSame f fd) (FW : Fun K "_law_whole" "_law_whole" sWhole fW fdW) (bW : Binds K fdW ["_law_found"] []) (mW : mg "_law_whole" = some (.ref fW)) : FnOk P w K mg base CX0 2 f fd ["_law_found", "_law_due"] spSame := by
  have GW : FnOk P w K mg base CX0 1 fW fdW ["_law_found"] spWhole := ok_whole B FW
  refine F.ok scSame (fun vs H Q E h => ?_) (fun cdv A outer s H vs Q E hr h => ?_)
  · obtain ⟨a, b, ns, rfl, _⟩ := h
    rfl
  obtain ⟨a, b, ns, rfl, ha, hb, hl, q⟩ := h
  have hu := hu60 hr
  refine ⟨_, (@pss_cons _ _ _ _ _ (@ps_if _ _ _ _ _ _ _ _ ((@pw_or _ _ _ _ _ _ _ (@pt_not _ _ _ _ (pt_val (pe_callB call_isinst (by rfl) B.isinstance PyProof.Rows.boot_isinstance (@pa_cons _ _ _ _ _ (pv 0) (@pa_cons _ _ _ _ _ (pe_bltn (v := V.ty "list") (by rfl) B.list PyProof.Rows.boot_list (by rfl)) pa_nil (by rfl)) (by rfl))))) (pw_or1 (@pt_cmpR _ _ _ _ _ _ _ _ op_ne (pe_callB call_len_seq (by rfl) B.len PySem.boot_len (@pa_cons _ _ _ _ _ (pv 0) pa_nil (by rfl))) (pe_callB call_len_seq (by rfl) B.len PySem.boot_len (@pa_cons _ _ _ _ _ (pv 1) pa_nil (by rfl))) (nomark _))))).pt (@pss_one _ _ _ (@ps_ret _ _ _ _ pe_bl)) pss_nil) (@pss_one _ _ _ (@ps_ret _ _ _ _ (@pe_cmpR _ _ _ _ _ _ _ _ (@op_eqD _ hu) (pe_comp (NX := ["_law_found", "_law_due"]) (N := ["_law_found", "_law_due", "_law_k"]) (ms := [true, true, false]) (ks := [2]) (out := defScope sSame) (by exact ⟨rfl, by decide +kernel, by decide +kernel, by decide +kernel, by decide +kernel, by decide +kernel⟩) rfl rfl rfl (pi_range1 rfl B.range (@pa_cons _ _ _ _ _ (pe_callB call_len_seq (by rfl) B.len PySem.boot_len (@pa_cons _ _ _ _ _ (pv 1) pa_nil (by rfl))) pa_nil (by rfl))) (@sets_name 2) (by decide) (fun C ex s H => (pg_name (i := 2) nd_scSame1 rfl (Or.inl rfl))) (fun C ex s H => (@pts_one _ _ _ ((@pw_or _ _ _ _ _ _ _ (@pt_not _ _ _ _ (pt_val (pe_call GW hr (by rfl) mW FW.kp bW .nil pass0 (@pa_cons _ _ _ _ _ (@pe_ix _ _ _ _ _ _ (rIxL K) ix_list (pv 0) (pv 2) (fun _ _ => rfl)) pa_nil (by rfl))))) (pw_or1 (@pt_cmpR _ _ _ _ _ _ _ _ op_ne (@pe_ix _ _ _ _ _ _ (rIxL K) ix_list (pv 0) (pv 2) (fun _ _ => rfl)) (@pe_ix _ _ _ _ _ _ (rIxL K) ix_list (pv 1) (pv 2) (fun _ _ => rfl)) (nomark _))))).pt)) (fun C ex s H => (pv 2))) (@pe_lst _ _ _ _ pa_nil) (nomark _))))), ?_⟩
  refine ⟨_, rfl, _, _, _, _, rfl, TyOf.lst ha, rfl, _, rfl, ?_⟩
  refine iteF ⟨_, rfl, a, _, rfl, .inl (SqL.of ha), _, rfl, b, _, rfl, .inl (SqL.of hb), rfl, _, rfl, iteNS rfl ?_⟩
  refine ⟨_, rfl, b, _, rfl, .inl (SqL.of hb), _, rfl, by omega, ?_, ?_⟩
  · rw [List.length_map]; omega
  refine comp_range (n := (((ns.map V.int).length : Nat) : Int).toNat) (fun i ys H' => ys = [] ∧ H' = H) ⟨rfl, rfl⟩ (fun i ys H' hi ⟨e1, _⟩ => by rw [e1]; exact small1000 (by decide)) ?_ ?_
  · rintro i ys H' hi ⟨rfl, rfl⟩
    have hi : i < ns.length := by rw [List.length_map] at hi; omega
    have hat : atI (ns.map V.int) (0 + (i : Int)) = some (.int ns[i]) := by
      rw [Int.zero_add]
      exact atI_nat (by rw [List.getElem?_map, List.getElem?_eq_getElem hi]; rfl)
    refine ⟨_, rfl, _, rfl, a, _, _, _, rfl, rfl, SqL.of ha, hat, _, rfl, _, rfl, ?_⟩
    exact iteF ⟨_, rfl, _, rfl, a, _, _, _, rfl, rfl, SqL.of ha, hat, _, rfl, _, rfl, b, _, _, _, rfl, rfl, SqL.of hb, hat, rfl, _, rfl, iteNS rfl ⟨rfl, rfl⟩⟩
  · rintro ys H' ⟨rfl, rfl⟩ D hD
    refine ⟨Nat.zero_le _, fun z hz => ⟨.lst [], .lst [], ?_, ?_, rfl, rfl, by decide, ?_⟩⟩
    · rw [Is]
      exact ⟨D, _, rfl, SqL.of ((same_new hz _) _ _ upd_same), .nil⟩
    · rw [Is]
      exact ⟨z, _, rfl, SqL.of upd_same, .nil⟩
    · rw [dEq_refl]
      exact q _ ((same_new hD _).trans (same_new hz _))
end
end Nw

set_option Elab.async false
set_option linter.all false
set_option maxRecDepth 100000
set_option maxHeartbeats 4000000
namespace Nw
open PySem L2
theorem upTo_ints (i : Int) (n : Nat) : L2.upTo i n = ((List.range n).map fun k : Nat => i + (k : Int)).map V.int := by unfold L2.upTo; rw [List.map_map]; rfl
theorem chV_ints {vf : Str → Int} {lo hi : Int} (h : hi - lo ≤ 500) : ∀ c : Ch, ∃ ns : List Int, chV vf lo hi c = ns.map V.int ∧ ns.length ≤ 600
  | .cha _ => ⟨[], rfl, by decide⟩
  | .put _ t => by
    show ∃ ns : List Int, (if lo ≤ val vf t ∧ val vf t ≤ hi then [V.int (val vf t)] else []) = ns.map V.int ∧ ns.length ≤ 600
    split
    · exact ⟨[val vf t], rfl, by show 1 ≤ 600; decide⟩
    · exact ⟨[], rfl, by decide⟩
  | .any _ t u => by
    refine ⟨_, upTo_ints (if val vf t > lo then val vf t else lo) ((if val vf u < hi then val vf u else hi) + 1 - (if val vf t > lo then val vf t else lo)).toNat, ?_⟩
    rw [List.length_map, List.length_range]
    split <;> split <;> omega
/-- the classes' facts that isinstance asks for -/
structure InsC (K : PySem.W.Frag) (CC : Kc → Addr) : Prop where
  hc : ∀ k, PySem.W.findIn K (.ref (CC k)) "__class__" = some (some (.builtin "object.__class__"))
  hn : PySem.W.specialIn K (.builtin "object.__class__") "__get__" = some (some (.builtin "getset_descriptor.__get__"))
  ht : PySem.W.takesIn K (.builtin "object.__class__") = some true
  hm : ∀ k, PySem.W.mroIn K (CC k) (.type "object") = some true
  hk : ∀ k, PySem.W.kitOne K (.ref (CC k)) (.ref (CC .cha)) = some true
section
variable {P : Program} {w : World} {K : PySem.W.Frag} {mg : Str → Option Value} {base : Heap} {CK : Kd → Addr} {CC : Kc → Addr}
def spRight (CK : Kd → Addr) (CC : Kc → Addr) : Sp := fun vs H Q _ => ∃ (v : V) (d b : Addr) (lo hi : Int) (c : Ch) (kvs : List (Key × V)) (l : List Str) (vf : Str → Int), vs = [v, .str (chN c), .ref d, .int lo, .int hi, .ref b] ∧ ObjC CK CC H c v ∧ H d = some (.dK kvs) ∧ ValsOk kvs l vf ∧ FitsC l 8 c ∧ hi - lo ≤ 500 ∧ H b = some (.lst (chV vf lo hi c)) ∧ ∀ H', Same H H' → Q (.bl true) H'
theorem scRight : FnScope ["_law_change", "_law_name", "_law_values", "_law_low", "_law_high", "_law_due", "_law_held", "_law_found"] ["_law_change", "_law_name", "_law_values", "_law_low", "_law_high", "_law_due"] (defScope sRight) := ⟨rfl, rfl, rfl, by decide +kernel, rfl, by decide +kernel, by decide +kernel⟩
theorem ok_right {f fS fW : Addr} {fd fdS fdW : FuncData} (B : Bl mg) (c : ClsC K CC) (N : InsC K CC) (F : Fun K "_law_right" "_law_right" sRight f fd) (FS : Fun K "_law_same" "_law_same" sSame fS fdS) (bS : Binds K fdS ["_law_found", "_law_due"] []) (mS : mg "_law_same" = some (.ref fS))
    (FW : Fun K "_law_whole" "_law_whole" sWhole fW fdW) (bW : Binds K fdW ["_law_found"] []) (mW : mg "_law_whole" = some (.ref fW)) (gC : mg "Change" = some (.ref (CC .cha))) (MC : ∀ k, MOk P w K mg base 10 (CC k) "choices" (spC CK CC 8 k)) : FnOk P w K mg base CX0 12 f fd ["_law_change", "_law_name", "_law_values", "_law_low", "_law_high", "_law_due"] (spRight CK CC) := by
  have GS : FnOk P w K mg base CX0 2 fS fdS ["_law_found", "_law_due"] spSame := ok_same B FS FW bW mW
  refine F.ok scRight (fun vs H Q E h => ?_) (fun cdv A outer s H vs Q E hr h => ?_)
  · obtain ⟨v, d, b, lo, hi, cg, kvs, l, vf, rfl, _⟩ := h
    rfl
  obtain ⟨v, d, b, lo, hi, cg, kvs, l, vf, rfl, ob, hd, O, ft, hw, hb, q⟩ := h
  have hr2 : Room 2 _ := hr.mono (by decide)
  have hr10 : Room 10 _ := hr.mono (by decide)
  have hu := hu60 hr
  have hu0 := hr.units0
  obtain ⟨ns, en, ln⟩ := chV_ints (vf := vf) hw cg
  refine ⟨_, (@pss_cons _ _ _ _ _ (@ps_set _ _ 6 _ _ _ _ scRight.nd rfl (Or.inl rfl) (pe_callTy call_dict_copy (by rfl) B.dict PyProof.Rows.boot_dict (@pa_cons _ _ _ _ _ (pv 2) pa_nil (by rfl))) rfl (Or.inl rfl)) (@pss_cons _ _ _ _ _ (@ps_set _ _ 7 _ _ _ _ scRight.nd rfl (Or.inl rfl) (pe_methP (pv 0) hr10 (@pa_cons _ _ _ _ _ (pv 2) (@pa_cons _ _ _ _ _ (pv 3) (@pa_cons _ _ _ _ _ (pv 4) pa_nil (by rfl)) (by rfl)) (by rfl))) rfl (Or.inl rfl)) (@pss_cons _ _ _ _ _ (@ps_if _ _ _ _ _ _ _ _ ((@pw_or _ _ _ _ _ _ _ (@pt_not _ _ _ _ (pt_val (pe_callB call_isinstC (by rfl) B.isinstance PyProof.Rows.boot_isinstance (@pa_cons _ _ _ _ _ (pv 0) (@pa_cons _ _ _ _ _ (pe_glob (v := V.ref (CC .cha)) (by rfl) gC rfl) pa_nil (by rfl)) (by rfl))))) (@pw_or _ _ _ _ _ _ _ (@pt_cmpR _ _ _ _ _ _ _ _ op_ne (@pe_fld _ _ _ _ _ (pv 0) rfl) (pv 1) (nomark _)) (pw_or1 (@pt_not _ _ _ _ (pt_val (pe_call GS hr2 (by rfl) mS FS.kp bS .nil pass0 (@pa_cons _ _ _ _ _ (pv 7) (@pa_cons _ _ _ _ _ (pv 5) pa_nil (by rfl)) (by rfl))))))))).pt (@pss_one _ _ _ (@ps_ret _ _ _ _ pe_bl)) pss_nil) (@pss_cons _ _ _ _ _ (@ps_expr _ _ _ _ (pe_bm PySem.F.plainAttrs_list PySem.F.slot_list_append PySem.F.type_list_append mt_append (pv 7) (@pa_cons _ _ _ _ _ (pv 3) pa_nil (by rfl))) (by rfl)) (@pss_one _ _ _ (@ps_ret _ _ _ _ (@pe_and _ _ _ _ _ _ _ (pe_call GS hr2 (by rfl) mS FS.kp bS .nil pass0 (@pa_cons _ _ _ _ _ (pe_methP (pv 0) hr10 (@pa_cons _ _ _ _ _ (pv 2) (@pa_cons _ _ _ _ _ (pv 3) (@pa_cons _ _ _ _ _ (pv 4) pa_nil (by rfl)) (by rfl)) (by rfl))) (@pa_cons _ _ _ _ _ (pv 5) pa_nil (by rfl)) (by rfl))) (@pe_one _ _ _ _ _ (@pe_cmpR _ _ _ _ _ _ _ _ (@op_eqDict _ hu0) (pv 2) (pv 6) (nomark _)))))))))), ?_⟩
  refine ⟨_, rfl, d, kvs, rfl, Rd.of hd, fun ph hph => ?_⟩
  have s1 := same_new hph (.dK kvs)
  have eh : upd H ph (.dK kvs) ph = some (.dK kvs) := upd_same
  generalize upd H ph (.dK kvs) = H1 at s1 eh ⊢
  obtain ⟨p, dx, fs, rfl, at1, lc, lnm⟩ := (ob.same s1).at_
  refine ⟨_, rfl, p, _, dx, fs, _, rfl, at1, lc, MC _, _, rfl, _, rfl, _, rfl, _, d, lo, hi, cg, kvs, l, vf, rfl, rfl, ob.same s1, s1 _ _ hd, O, ft, hw, fun pf hpf => ?_⟩
  have s2 := same_new hpf (.lst (chV vf lo hi cg))
  have ef : upd H1 pf (.lst (chV vf lo hi cg)) pf = some (.lst (chV vf lo hi cg)) := upd_same
  have nf : H pf = none := s1.free hpf
  generalize upd H1 pf (.lst (chV vf lo hi cg)) = H2 at s2 ef ⊢
  have t2 := s1.trans s2
  refine ⟨_, rfl, _, CC .cha, .ref (CC (kc cg)), true, rfl, TyOf.ins (s2 _ _ at1) (c.cl _) (N.hc _) N.hn N.ht (N.hm _), N.hk _, _, rfl, ?_⟩
  refine iteF ⟨_, rfl, p, _, dx, _, _, rfl, s2 _ _ at1, c.cl _, c.nm _, lnm, _, rfl, rfl, _, rfl, iteNS rfl ?_⟩
  refine ⟨_, rfl, _, rfl, pf, b, ns, rfl, by rw [ef, en], by rw [t2 _ _ hb, en], by omega, fun H3 s3 => ⟨_, rfl, iteF ?_⟩⟩
  have e3 := s3 _ _ ef
  refine ⟨_, rfl, .inl ⟨rfl, _, SqL.of e3⟩, _, rfl, pf, _, _, rfl, rfl, e3, by rw [en, List.length_map]; exact small1000 (by omega), ?_⟩
  have s4 : Same H (upd H3 pf (.lst (chV vf lo hi cg ++ [.int lo]))) := same_put (t2.trans s3) nf _
  have pp : p ≠ pf := ne_of (s3 _ _ (s2 _ _ at1)) e3 (by intro z; cases z)
  have at4 : upd H3 pf (.lst (chV vf lo hi cg ++ [.int lo])) p = some (.ins (CC (kc cg)) dx fs) := by rw [upd_ne pp]; exact s3 _ _ (s2 _ _ at1)
  have eh4 : upd H3 pf (.lst (chV vf lo hi cg ++ [.int lo])) ph = some (.dK kvs) := by rw [upd_ne (ne_of (s3 _ _ (s2 _ _ eh)) e3 (by intro z; cases z))]; exact s3 _ _ (s2 _ _ eh)
  have d4 := s4 _ _ hd
  have b4 := s4 _ _ hb
  have o4 := ob.same s4
  generalize upd H3 pf (.lst (chV vf lo hi cg ++ [.int lo])) = H4 at s4 at4 eh4 d4 b4 o4 ⊢
  refine ⟨_, rfl, p, _, dx, fs, _, rfl, at4, lc, MC _, _, rfl, _, rfl, _, rfl, _, d, lo, hi, cg, kvs, l, vf, rfl, rfl, o4, d4, O, ft, hw, fun pg hpg => ?_⟩
  have s5 := same_new hpg (.lst (chV vf lo hi cg))
  have eg : upd H4 pg (.lst (chV vf lo hi cg)) pg = some (.lst (chV vf lo hi cg)) := upd_same
  generalize upd H4 pg (.lst (chV vf lo hi cg)) = H5 at s5 eg ⊢
  refine ⟨_, rfl, pg, b, ns, rfl, by rw [eg, en], by rw [s5 _ _ b4, en], by omega, fun H6 s6 => ⟨_, rfl, iteT ?_⟩⟩
  have s56 := s5.trans s6
  refine ⟨_, rfl, _, rfl, d, ph, kvs, rfl, rfl, s56 _ _ d4, s56 _ _ eh4, O.nd, O.flat, ?_⟩
  exact q _ (s4.trans s56)
end
end Nw

set_option Elab.async false
set_option linter.all false
set_option maxRecDepth 100000
set_option maxHeartbeats 4000000
namespace Nw
open PySem L2
/-! ### the values -/
theorem keys_put {κ : Type} [DecidableEq κ] {kvs : List (κ × V)} (k : κ) (v : V) (hn : (kvs.map (·.1)).Nodup) : ((putK kvs k v).map (·.1)).Nodup := by
  by_cases h : valV kvs k = none
  · exact nd_putK v hn h
  · unfold putK
    have a : (kvs.any fun kv => decide (kv.1 = k)) = true := by
      rw [valV_any]
      cases e : valV kvs k with
      | none => exact absurd e h
      | some _ => rfl
    rw [if_pos a, List.map_map]
    have : ((fun kv : κ × V => kv.1) ∘ fun kv => if kv.1 = k then (kv.1, v) else kv) = fun kv => kv.1 := by
      funext kv
      show (if kv.1 = k then (kv.1, v) else kv).1 = kv.1
      split <;> rfl
    rw [this]
    exact hn
theorem mem_put {κ : Type} [DecidableEq κ] {kvs : List (κ × V)} {k : κ} {v : V} {p : κ × V} (h : p ∈ putK kvs k v) : p ∈ kvs ∨ p.2 = v := by
  unfold putK at h
  split at h
  · obtain ⟨q, hq, e⟩ := List.mem_map.mp h
    split at e
    · rw [← e]; exact .inr rfl
    · rw [← e]; exact .inl hq
  · rcases List.mem_append.mp h with z | z
    · exact .inl z
    · rw [List.mem_singleton.mp z]; exact .inr rfl
theorem putK_length {κ : Type} [DecidableEq κ] (kvs : List (κ × V)) (k : κ) (v : V) : (putK kvs k v).length ≤ kvs.length + 1 := by
  unfold putK
  split
  · rw [List.length_map]; omega
  · rw [List.length_append]; exact Nat.le_refl _
theorem valV_memP {κ : Type} [DecidableEq κ] : ∀ {kvs : List (κ × V)} {k : κ} {v : V}, valV kvs k = some v → (k, v) ∈ kvs
  | [], k, v, h => by rw [valV_nil] at h; cases h
  | p :: r, k, v, h => by
    by_cases e : p.1 = k
    · rw [valV_pos e] at h
      cases h
      rw [← e]
      exact List.mem_cons_self
    · rw [valV_neg e] at h
      exact List.mem_cons_of_mem _ (valV_memP h)
def vfOf (kvs : List (Key × V)) (x : Str) : Int := match valV kvs (.inr x) with
  | some (.int i) => i
  | _ => 0
structure Fil (l : List Str) (kvs : List (Key × V)) (n : Nat) : Prop where
  nd : (kvs.map (·.1)).Nodup
  nums : ∀ p ∈ kvs, ∃ i : Int, p.2 = .int i ∧ i.natAbs < 2 ^ 110
  got : ∀ x ∈ l, ∃ v, valV kvs (.inr x) = some v
  len : kvs.length ≤ n
theorem Fil.put {l : List Str} {kvs : List (Key × V)} {n : Nat} (F : Fil l kvs n) (x : Str) {i : Int} (h : i.natAbs < 2 ^ 110) : Fil (l ++ [x]) (putK kvs (.inr x) (.int i)) (n + 1) := by
  refine ⟨keys_put _ _ F.nd, fun p hp => ?_, fun y hy => ?_, Nat.le_trans (putK_length _ _ _) (Nat.succ_le_succ F.len)⟩
  · rcases mem_put hp with z | z
    · exact F.nums p z
    · exact ⟨i, z, h⟩
  · rw [valV_put]
    by_cases e : (Sum.inr y : Key) = .inr x
    · exact ⟨_, if_pos e⟩
    · rw [if_neg e]
      rcases List.mem_append.mp hy with z | z
      · exact F.got y z
      · exact absurd (by rw [List.mem_singleton.mp z]) e
theorem Fil.again {l : List Str} {kvs : List (Key × V)} {n : Nat} (F : Fil l kvs n) (x : Str) {i : Int} (h : i.natAbs < 2 ^ 110) : Fil l (putK kvs (.inr x) (.int i)) (n + 1) :=
  ⟨(F.put x h).nd, (F.put x h).nums, fun y hy => (F.put x h).got y (List.mem_append_left _ hy), (F.put x h).len⟩
theorem Fil.ok {l : List Str} {kvs : List (Key × V)} {n : Nat} (F : Fil l kvs n) : ValsOk kvs l (vfOf kvs) := by
  refine ⟨F.nd, fun p hp => ?_, fun x hx => ?_⟩
  · obtain ⟨i, e, _⟩ := F.nums p hp
    rw [e]
    rfl
  · obtain ⟨v, hv⟩ := F.got x hx
    obtain ⟨m, em, hm⟩ := F.nums _ (valV_memP hv)
    have em : v = .int m := em
    subst em
    have ev : vfOf kvs x = m := by
      unfold vfOf
      rw [hv]
    rw [ev]
    exact ⟨hv, hm⟩
theorem same_sb {H H' : Hp} {p : Addr} (hp : H p = none) (o : HO) (sb : Sb p (upd H p o) H') : Same H H' := fun b u e => sb b u (ne_of_none e hp) (by rw [upd_ne (ne_of_none e hp)]; exact e)
theorem same_made2 {H H3 : Hp} {x dx : Addr} {o o' : HO} (hx : H x = none) (hd : H dx = none) (n : dx ≠ x) (h4 : ∀ b, b ≠ x → H3 b = upd (upd H dx o) x o' b) : Same H H3 := by
  intro b u e
  rw [h4 b (ne_of_none e hx)]
  exact same_made hx hd n _ _ b u e
theorem low_at (a b c d : Int) {k : Int} (k0 : 0 ≤ k) (k1 : k < 4) : ∃ lo : Int, atI [V.int a, V.int b, V.int c, V.int d] k = some (.int lo) := by
  have : k = 0 ∨ k = 1 ∨ k = 2 ∨ k = 3 := by omega
  rcases this with rfl | rfl | rfl | rfl
  · exact ⟨a, atI_nat (j := 0) rfl⟩
  · exact ⟨b, atI_nat (j := 1) rfl⟩
  · exact ⟨c, atI_nat (j := 2) rfl⟩
  · exact ⟨d, atI_nat (j := 3) rfl⟩
theorem at_last {l : List Str} (h : l ≠ []) : ∃ x, atI (l.map V.str) (-1) = some (.str x) := by
  have hl : 0 < l.length := List.length_pos_iff.mpr h
  refine ⟨l[l.length - 1], ?_⟩
  unfold atI
  have e : ixN (l.map V.str).length (-1) = some (l.length - 1) := by
    rw [List.length_map]
    unfold ixN
    rw [if_neg (by decide), if_pos (by omega)]
    congr 1
    omega
  rw [e]
  show (l.map V.str)[l.length - 1]? = _
  rw [List.getElem?_map, List.getElem?_eq_getElem (by omega)]
  rfl
/-- how many of lo, lo + 1, .. (j of them) lie from w to u -/
def cnt (lo w u j : Int) : Nat := ((if u + 1 < lo + j then u + 1 else lo + j) - (if w > lo then w else lo)).toNat
theorem cnt_0 (lo w u : Int) : cnt lo w u 0 = 0 := by
  unfold cnt
  split <;> split <;> omega
theorem cnt_le (lo w u j : Int) : cnt lo w u j ≤ j.toNat := by
  unfold cnt
  split <;> split <;> omega
theorem cnt_in {lo w u : Int} {j : Nat} (h1 : w ≤ lo + (j : Int)) (h2 : lo + (j : Int) ≤ u) : L2.upTo (if w > lo then w else lo) (cnt lo w u ((j + 1 : Nat) : Int)) = L2.upTo (if w > lo then w else lo) (cnt lo w u (j : Int)) ++ [.int (lo + (j : Int))] := by
  have e : cnt lo w u ((j + 1 : Nat) : Int) = cnt lo w u (j : Int) + 1 := by
    unfold cnt
    split <;> split <;> split <;> omega
  have e2 : (if w > lo then w else lo) + ((cnt lo w u (j : Int) : Nat) : Int) = lo + (j : Int) := by
    unfold cnt
    split <;> split <;> omega
  rw [e, upTo_succ, e2]
theorem cnt_out {lo w u : Int} {j : Nat} (h : ¬ (w ≤ lo + (j : Int) ∧ lo + (j : Int) ≤ u)) : cnt lo w u ((j + 1 : Nat) : Int) = cnt lo w u (j : Int) := by
  unfold cnt
  split <;> split <;> split <;> omega
section
variable {P : Program} {w : World} {K : PySem.W.Frag} {mg : Str → Option Value} {base : Heap}
def spLaw (K : PySem.W.Frag) : Sp := fun vs H Q _ => ∃ (a : Addr) (ns : List Int), vs = [.ref a] ∧ SqL K H a (ns.map V.int) ∧ ns.length ≤ 63 ∧ ∀ H', Q (.bl true) H'
theorem scLaw : FnScope ["_law_script", "_law_names_here", "_law_near", "_law_k", "_law_state", "_law_great", "_law_at_here", "_law_wide", "_law_values", "_law_name", "_law_one", "_law_other", "_law_worth_here", "_law_last", "_law_low", "_law_high", "_law_due"] ["_law_script"] (defScope sLaw) := ⟨rfl, rfl, rfl, by decide +kernel, rfl, by decide +kernel, by decide +kernel⟩
structure Txt (K : PySem.W.Frag) (mg : Str → Option Value) (CK : Kd → Addr) (CC : Kc → Addr) (fNI fMI fTI fCI fUI fAI fNW fMW fPW fIW fXW fCC fUC fAC fAt fBe fDr fNa fSu fWo fHa fWh fSa fRi : Addr) (dNI dMI dTI dCI dUI dAI dNW dMW dPW dIW dXW dCC dUC dAC dAt dBe dDr dNa dSu dWo dHa dWh dSa dRi : FuncData) : Prop where
  bl : Bl mg
  mkr : Maker K mg CK fNI fMI fTI dNI dMI dTI
  cc : ClsC K CC
  ins : InsC K CC
  mkC : Mk K (CC .cha) fCI
  mkU : Mk K (CC .put) fUI
  mkA : Mk K (CC .any) fAI
  gC : mg "Change" = some (.ref (CC .cha))
  gU : mg "Put" = some (.ref (CC .put))
  gA : mg "Any" = some (.ref (CC .any))
  cm : CMeth K (CC .cha) "__init__" fCI
  FCI : Fun K "__init__" "Change.__init__" sChaI fCI dCI
  bCI : Binds K dCI ["self", "name"] []
  FUI : Fun K "__init__" "Put.__init__" sPutI fUI dUI
  bUI : Binds K dUI ["self", "name", "one"] []
  FAI : Fun K "__init__" "Any.__init__" sAnyI fAI dAI
  bAI : Binds K dAI ["self", "name", "one", "other"] []
  FNW : Fun K "worth" "Number.worth" sNumW fNW dNW
  bNW : Binds K dNW ["self", "values"] []
  mNW : Meth K (CK .num) "worth" fNW
  FMW : Fun K "worth" "Named.worth" sNamW fMW dMW
  bMW : Binds K dMW ["self", "values"] []
  mMW : Meth K (CK .nam) "worth" fMW
  FPW : Fun K "worth" "Plus.worth" sPluW fPW dPW
  bPW : Binds K dPW ["self", "values"] []
  mPW : Meth K (CK (.op .plus)) "worth" fPW
  FIW : Fun K "worth" "Minus.worth" sMinW fIW dIW
  bIW : Binds K dIW ["self", "values"] []
  mIW : Meth K (CK (.op .minus)) "worth" fIW
  FXW : Fun K "worth" "Times.worth" sTimW fXW dXW
  bXW : Binds K dXW ["self", "values"] []
  mXW : Meth K (CK (.op .times)) "worth" fXW
  FCC : Fun K "choices" "Change.choices" sChaC fCC dCC
  bCC : Binds K dCC ["self", "values", "low", "high"] []
  mCC : Meth K (CC .cha) "choices" fCC
  FUC : Fun K "choices" "Put.choices" sPutC fUC dUC
  bUC : Binds K dUC ["self", "values", "low", "high"] []
  mUC : Meth K (CC .put) "choices" fUC
  FAC : Fun K "choices" "Any.choices" sAnyC fAC dAC
  bAC : Binds K dAC ["self", "values", "low", "high"] []
  mAC : Meth K (CC .any) "choices" fAC
  gAt : mg "_law_at" = some (.ref fAt)
  FAt : Fun K "_law_at" "_law_at" sAt fAt dAt
  bAt : Binds K dAt ["_law_script", "_law_k"] []
  gBe : mg "_law_begin" = some (.ref fBe)
  FBe : Fun K "_law_begin" "_law_begin" sBegin fBe dBe
  bBe : Binds K dBe ["_law_cell"] []
  gDr : mg "_law_draw" = some (.ref fDr)
  FDr : Fun K "_law_draw" "_law_draw" sDraw fDr dDr
  bDr : Binds K dDr ["_law_state", "_law_many"] []
  gNa : mg "_law_names" = some (.ref fNa)
  FNa : Fun K "_law_names" "_law_names" sNames fNa dNa
  bNa : Binds K dNa ["_law_cell", "_law_many"] []
  gSu : mg "_law_sum" = some (.ref fSu)
  FSu : Fun K "_law_sum" "_law_sum" sSum fSu dSu
  bSu : Binds K dSu ["_law_state", "_law_names_here", "_law_near", "_law_depth"] []
  gWo : mg "_law_worth" = some (.ref fWo)
  FWo : Fun K "_law_worth" "_law_worth" sWorth fWo dWo
  bWo : Binds K dWo ["_law_one", "_law_values"] []
  gHa : mg "_law_sum_of" = some (.ref fHa)
  FHa : Fun K "_law_sum_of" "_law_sum_of" sHand fHa dHa
  bHa : Binds K dHa ["_law_one"] []
  gWh : mg "_law_whole" = some (.ref fWh)
  FWh : Fun K "_law_whole" "_law_whole" sWhole fWh dWh
  bWh : Binds K dWh ["_law_found"] []
  gSa : mg "_law_same" = some (.ref fSa)
  FSa : Fun K "_law_same" "_law_same" sSame fSa dSa
  bSa : Binds K dSa ["_law_found", "_law_due"] []
  gRi : mg "_law_right" = some (.ref fRi)
  FRi : Fun K "_law_right" "_law_right" sRight fRi dRi
  bRi : Binds K dRi ["_law_change", "_law_name", "_law_values", "_law_low", "_law_high", "_law_due"] []
theorem nd_scLaw1 : (["_law_script", "_law_names_here", "_law_near", "_law_k", "_law_state", "_law_great", "_law_at_here", "_law_wide", "_law_values", "_law_name", "_law_one", "_law_other", "_law_worth_here", "_law_last", "_law_low", "_law_high", "_law_due", "_law_number"] : List Str).Nodup := by decide +kernel
theorem nd_scLaw2 : (["_law_script", "_law_names_here", "_law_near", "_law_k", "_law_state", "_law_great", "_law_at_here", "_law_wide", "_law_values", "_law_name", "_law_one", "_law_other", "_law_worth_here", "_law_last", "_law_low", "_law_high", "_law_due", "_law_number"] : List Str).Nodup := by decide +kernel
variable {CK : Kd → Addr} {CC : Kc → Addr} {fNI fMI fTI fCI fUI fAI fNW fMW fPW fIW fXW fCC fUC fAC fAt fBe fDr fNa fSu fWo fHa fWh fSa fRi : Addr} {dNI dMI dTI dCI dUI dAI dNW dMW dPW dIW dXW dCC dUC dAC dAt dBe dDr dNa dSu dWo dHa dWh dSa dRi : FuncData}
theorem worths (T : Txt K mg CK CC fNI fMI fTI fCI fUI fAI fNW fMW fPW fIW fXW fCC fUC fAC fAt fBe fDr fNa fSu fWo fHa fWh fSa fRi dNI dMI dTI dCI dUI dAI dNW dMW dPW dIW dXW dCC dUC dAC dAt dBe dDr dNa dSu dWo dHa dWh dSa dRi) :
    ∀ (n : Nat) (k : Kd), MOk P w K mg base (n + 1) (CK k) "worth" (spW CK n k)
  | n, .num => ⟨T.mkr.cls.cl _, _, _, _, T.mNW, (ok_numW T.mkr.cls T.FNW n).mono (Nat.le_add_left 1 n), T.bNW⟩
  | n, .nam => ⟨T.mkr.cls.cl _, _, _, _, T.mMW, (ok_namW T.mkr.cls T.FMW n).mono (Nat.le_add_left 1 n), T.bMW⟩
  | 0, .op .plus => ⟨T.mkr.cls.cl _, _, _, _, T.mPW, fn_none (spW_none _), T.bPW⟩
  | 0, .op .minus => ⟨T.mkr.cls.cl _, _, _, _, T.mIW, fn_none (spW_none _), T.bIW⟩
  | 0, .op .times => ⟨T.mkr.cls.cl _, _, _, _, T.mXW, fn_none (spW_none _), T.bXW⟩
  | n + 1, .op .plus => ⟨T.mkr.cls.cl _, _, _, _, T.mPW, ok_pluW T.mkr.cls T.FPW n (worths T n), T.bPW⟩
  | n + 1, .op .minus => ⟨T.mkr.cls.cl _, _, _, _, T.mIW, ok_minW T.mkr.cls T.FIW n (worths T n), T.bIW⟩
  | n + 1, .op .times => ⟨T.mkr.cls.cl _, _, _, _, T.mXW, ok_timW T.mkr.cls T.FXW n (worths T n), T.bXW⟩
theorem choices (T : Txt K mg CK CC fNI fMI fTI fCI fUI fAI fNW fMW fPW fIW fXW fCC fUC fAC fAt fBe fDr fNa fSu fWo fHa fWh fSa fRi dNI dMI dTI dCI dUI dAI dNW dMW dPW dIW dXW dCC dUC dAC dAt dBe dDr dNa dSu dWo dHa dWh dSa dRi) : ∀ k : Kc, MOk P w K mg base 10 (CC k) "choices" (spC CK CC 8 k)
  | .cha => ⟨T.cc.cl _, _, _, _, T.mCC, (ok_chaC T.FCC 8).mono (by decide), T.bCC⟩
  | .put => ⟨T.cc.cl _, _, _, _, T.mUC, ok_putC T.cc T.FUC 8 (worths T 8), T.bUC⟩
  | .any => ⟨T.cc.cl _, _, _, _, T.mAC, ok_anyC T.bl T.cc T.FAC 8 (worths T 8), T.bAC⟩
theorem ok_law {f : Addr} {fd : FuncData} (T : Txt K mg CK CC fNI fMI fTI fCI fUI fAI fNW fMW fPW fIW fXW fCC fUC fAC fAt fBe fDr fNa fSu fWo fHa fWh fSa fRi dNI dMI dTI dCI dUI dAI dNW dMW dPW dIW dXW dCC dUC dAC dAt dBe dDr dNa dSu dWo dHa dWh dSa dRi) (F : Fun K "law" "law" sLaw f fd) : FnOk P w K mg base CX0 13 f fd ["_law_script"] (spLaw K) := by
  have B := T.bl
  have GAt : FnOk P w K mg base CX0 1 fAt dAt ["_law_script", "_law_k"] (spAt K) := ok_at B T.FAt
  have GBe : FnOk P w K mg base CX0 1 fBe dBe ["_law_cell"] spBegin := ok_begin T.FBe
  have GDr : FnOk P w K mg base CX0 1 fDr dDr ["_law_state", "_law_many"] spDraw := ok_draw T.FDr
  have GNa : FnOk P w K mg base CX0 2 fNa dNa ["_law_cell", "_law_many"] spNames := ok_names B T.FNa T.FBe T.bBe T.gBe T.FDr T.bDr T.gDr
  have GSu : FnOk P w K mg base CX0 5 fSu dSu ["_law_state", "_law_names_here", "_law_near", "_law_depth"] (spSum K 3) := ok_sum B T.FSu T.bSu T.gSu T.FDr T.bDr T.gDr 3
  have GWo : FnOk P w K mg base CX0 9 fWo dWo ["_law_one", "_law_values"] (spWorth K 8) := ok_worth B T.FWo T.bWo T.gWo 8
  have GHa : FnOk P w K mg base CX0 11 fHa dHa ["_law_one"] (spHand K CK 8) := ok_hand T.mkr T.FHa T.bHa T.gHa 8
  have GRi : FnOk P w K mg base CX0 12 fRi dRi ["_law_change", "_law_name", "_law_values", "_law_low", "_law_high", "_law_due"] (spRight CK CC) := ok_right B T.cc T.ins T.FRi T.FSa T.bSa T.gSa T.FWh T.bWh T.gWh T.gC (choices T)
  have GCI : FnOk P w K mg base CX0 1 fCI dCI ["self", "name"] (spChaI (CC .cha)) := ok_chaI T.cc T.FCI .cha
  have GUI : FnOk P w K mg base CX0 2 fUI dUI ["self", "name", "one"] (spPutI (CC .put)) := ok_putI T.cc T.FUI T.FCI T.bCI T.gC T.cm
  have GAI : FnOk P w K mg base CX0 2 fAI dAI ["self", "name", "one", "other"] (spAnyI (CC .any)) := ok_anyI T.cc T.FAI T.FCI T.bCI T.gC T.cm
  refine F.ok scLaw (fun vs H Q E h => ?_) (fun cdv A outer s H vs Q E hr h => ?_)
  · obtain ⟨a, ns, rfl, _⟩ := h
    rfl
  obtain ⟨a, ns, rfl, hS, h63, q⟩ := h
  have hr1 : Room 1 _ := hr.mono (by decide)
  have hr2 : Room 2 _ := hr.mono (by decide)
  have hr3 : Room 3 _ := hr.mono (by decide)
  have hr5 : Room 5 _ := hr.mono (by decide)
  have hr9 : Room 9 _ := hr.mono (by decide)
  have hr11 : Room 11 _ := hr.mono (by decide)
  have hu := hu60 hr
  have hu1 := hu1_of hr
  refine ⟨_, (@pss_cons _ _ _ _ _ (@ps_set _ _ 1 _ _ _ _ scLaw.nd rfl (Or.inl rfl) (pe_call GNa hr2 (by rfl) T.gNa T.FNa.kp T.bNa .nil pass0 (@pa_cons _ _ _ _ _ (pe_call GAt hr1 (by rfl) T.gAt T.FAt.kp T.bAt .nil pass0 (@pa_cons _ _ _ _ _ (pv 0) (@pa_cons _ _ _ _ _ pe_int pa_nil (by rfl)) (by rfl))) (@pa_cons _ _ _ _ _ (@pe_op _ _ _ _ _ _ _ _ op_add pe_int (@pe_op _ _ _ _ _ _ _ _ op_mod (pe_call GAt hr1 (by rfl) T.gAt T.FAt.kp T.bAt .nil pass0 (@pa_cons _ _ _ _ _ (pv 0) (@pa_cons _ _ _ _ _ pe_int pa_nil (by rfl)) (by rfl))) pe_int)) pa_nil (by rfl)) (by rfl))) rfl (Or.inl rfl)) (@pss_cons _ _ _ _ _ (@ps_set _ _ 2 _ _ _ _ scLaw.nd rfl (Or.inl rfl) (@pe_op _ _ _ _ _ _ _ _ op_mod (@pe_op _ _ _ _ _ _ _ _ op_fdiv (pe_call GAt hr1 (by rfl) T.gAt T.FAt.kp T.bAt .nil pass0 (@pa_cons _ _ _ _ _ (pv 0) (@pa_cons _ _ _ _ _ pe_int pa_nil (by rfl)) (by rfl))) pe_int) pe_int) rfl (Or.inl rfl)) (@pss_cons _ _ _ _ _ (@ps_for _ _ _ _ _ _ _ _ PassesOwn.never rfl (pi_range3 rfl B.range (@pa_cons _ _ _ _ _ pe_int (@pa_cons _ _ _ _ _ (pe_callB (call_max2 rfl) (by rfl) B.max PyProof.Rows.boot_max (@pa_cons _ _ _ _ _ pe_int (@pa_cons _ _ _ _ _ (pe_callB (call_min2 rfl) (by rfl) B.min PyProof.Rows.boot_min (@pa_cons _ _ _ _ _ (pe_callB call_len_seq (by rfl) B.len PySem.boot_len (@pa_cons _ _ _ _ _ (pv 0) pa_nil (by rfl))) (@pa_cons _ _ _ _ _ pe_int pa_nil (by rfl)) (by rfl))) pa_nil (by rfl)) (by rfl))) (@pa_cons _ _ _ _ _ pe_int pa_nil (by rfl)) (by rfl)) (by rfl))) (pg_name (i := 3) scLaw.nd rfl (Or.inl rfl)) (@pss_cons _ _ _ _ _ (@ps_set _ _ 4 _ _ _ _ scLaw.nd rfl (Or.inl rfl) (pe_call GBe hr1 (by rfl) T.gBe T.FBe.kp T.bBe .nil pass0 (@pa_cons _ _ _ _ _ (pe_call GAt hr1 (by rfl) T.gAt T.FAt.kp T.bAt .nil pass0 (@pa_cons _ _ _ _ _ (pv 0) (@pa_cons _ _ _ _ _ (@pe_op _ _ _ _ _ _ _ _ op_add (pv 3) pe_int) pa_nil (by rfl)) (by rfl))) pa_nil (by rfl))) rfl (Or.inl rfl)) (@pss_cons _ _ _ _ _ (@ps_set _ _ 5 _ _ _ _ scLaw.nd rfl (Or.inl rfl) (@pe_cmpR _ _ _ _ _ _ _ _ op_eq (pe_call GDr hr1 (by rfl) T.gDr T.FDr.kp T.bDr .nil pass0 (@pa_cons _ _ _ _ _ (pv 4) (@pa_cons _ _ _ _ _ pe_int pa_nil (by rfl)) (by rfl))) pe_int (nomark _)) rfl (Or.inl rfl)) (@pss_cons _ _ _ _ _ (@ps_set _ _ 6 _ _ _ _ scLaw.nd rfl (Or.inl rfl) (pe_call GDr hr1 (by rfl) T.gDr T.FDr.kp T.bDr .nil pass0 (@pa_cons _ _ _ _ _ (pv 4) (@pa_cons _ _ _ _ _ pe_int pa_nil (by rfl)) (by rfl))) rfl (Or.inl rfl)) (@pss_cons _ _ _ _ _ (@ps_set _ _ 7 _ _ _ _ scLaw.nd rfl (Or.inl rfl) (pe_call GDr hr1 (by rfl) T.gDr T.FDr.kp T.bDr .nil pass0 (@pa_cons _ _ _ _ _ (pv 4) (@pa_cons _ _ _ _ _ pe_int pa_nil (by rfl)) (by rfl))) rfl (Or.inl rfl)) (@pss_cons _ _ _ _ _ (@ps_set _ _ 8 _ _ _ _ scLaw.nd rfl (Or.inl rfl) pe_dnewK rfl (Or.inl rfl)) (@pss_cons _ _ _ _ _ (@ps_for _ _ _ _ _ _ _ _ PassesOwn.never rfl (@pi_list _ _ _ _ (pv 1)) (pg_name (i := 9) scLaw.nd rfl (Or.inl rfl)) (@pss_cons _ _ _ _ _ (@ps_dput _ _ _ _ _ _ _ _ _ hu1 (pv 8) (pv 9) (@pe_op _ _ _ _ _ _ _ _ op_sub (@pe_op _ _ _ _ _ _ _ _ op_add (pv 2) (pe_call GDr hr1 (by rfl) T.gDr T.FDr.kp T.bDr .nil pass0 (@pa_cons _ _ _ _ _ (pv 4) (@pa_cons _ _ _ _ _ pe_int pa_nil (by rfl)) (by rfl)))) pe_int) rfl) (@pss_one _ _ _ (@ps_if _ _ _ _ _ _ _ _ (@pt_truth _ _ _ (pv 5) (fun _ => rfl)) (@pss_one _ _ _ (@ps_dput _ _ _ _ _ _ _ _ _ hu1 (pv 8) (pv 9) (@pe_op _ _ _ _ _ _ _ _ op_sub (pe_call GDr hr1 (by rfl) T.gDr T.FDr.kp T.bDr .nil pass0 (@pa_cons _ _ _ _ _ (pv 4) (@pa_cons _ _ _ _ _ pe_int pa_nil (by rfl)) (by rfl))) pe_int) rfl)) pss_nil))) (by intro _; rfl)) (@pss_cons _ _ _ _ _ (@ps_set _ _ 10 _ _ _ _ scLaw.nd rfl (Or.inl rfl) (pe_call GSu hr5 (by rfl) T.gSu T.FSu.kp T.bSu .nil pass0 (@pa_cons _ _ _ _ _ (pe_call GBe hr1 (by rfl) T.gBe T.FBe.kp T.bBe .nil pass0 (@pa_cons _ _ _ _ _ (pe_call GAt hr1 (by rfl) T.gAt T.FAt.kp T.bAt .nil pass0 (@pa_cons _ _ _ _ _ (pv 0) (@pa_cons _ _ _ _ _ (pv 3) pa_nil (by rfl)) (by rfl))) pa_nil (by rfl))) (@pa_cons _ _ _ _ _ (pv 1) (@pa_cons _ _ _ _ _ (pv 2) (@pa_cons _ _ _ _ _ pe_int pa_nil (by rfl)) (by rfl)) (by rfl)) (by rfl))) rfl (Or.inl rfl)) (@pss_cons _ _ _ _ _ (@ps_set _ _ 11 _ _ _ _ scLaw.nd rfl (Or.inl rfl) (pe_call GSu hr5 (by rfl) T.gSu T.FSu.kp T.bSu .nil pass0 (@pa_cons _ _ _ _ _ (pe_call GBe hr1 (by rfl) T.gBe T.FBe.kp T.bBe .nil pass0 (@pa_cons _ _ _ _ _ (pe_call GAt hr1 (by rfl) T.gAt T.FAt.kp T.bAt .nil pass0 (@pa_cons _ _ _ _ _ (pv 0) (@pa_cons _ _ _ _ _ (@pe_op _ _ _ _ _ _ _ _ op_add (pv 3) pe_int) pa_nil (by rfl)) (by rfl))) pa_nil (by rfl))) (@pa_cons _ _ _ _ _ (pv 1) (@pa_cons _ _ _ _ _ (@pe_op _ _ _ _ _ _ _ _ op_add (pv 2) pe_int) (@pa_cons _ _ _ _ _ pe_int pa_nil (by rfl)) (by rfl)) (by rfl)) (by rfl))) rfl (Or.inl rfl)) (@pss_cons _ _ _ _ _ (@ps_set _ _ 12 _ _ _ _ scLaw.nd rfl (Or.inr rfl) (pe_call GWo hr9 (by rfl) T.gWo T.FWo.kp T.bWo .nil pass0 (@pa_cons _ _ _ _ _ (pv 10) (@pa_cons _ _ _ _ _ (pv 8) pa_nil (by rfl)) (by rfl))) rfl (Or.inl rfl)) (@pss_cons _ _ _ _ _ (@ps_set _ _ 13 _ _ _ _ scLaw.nd rfl (Or.inr rfl) (pe_call GWo hr9 (by rfl) T.gWo T.FWo.kp T.bWo .nil pass0 (@pa_cons _ _ _ _ _ (pv 11) (@pa_cons _ _ _ _ _ (pv 8) pa_nil (by rfl)) (by rfl))) rfl (Or.inl rfl)) (@pss_cons _ _ _ _ _ (@ps_set _ _ 14 _ _ _ _ scLaw.nd rfl (Or.inl rfl) (@pe_ix _ _ _ _ _ _ (rIxL K) ix_list (@pe_lst _ _ _ _ (@pa_cons _ _ _ _ _ (pv 2) (@pa_cons _ _ _ _ _ (@pe_op _ _ _ _ _ _ _ _ op_sub (pv 12) pe_int) (@pa_cons _ _ _ _ _ (@pe_op _ _ _ _ _ _ _ _ op_sub (pv 12) pe_int) (@pa_cons _ _ _ _ _ (@pe_op _ _ _ _ _ _ _ _ op_sub (pv 13) pe_int) pa_nil (by rfl)) (by rfl)) (by rfl)) (by rfl))) (pv 6) (fun _ _ => rfl)) rfl (Or.inl rfl)) (@pss_cons _ _ _ _ _ (@ps_set _ _ 15 _ _ _ _ scLaw.nd rfl (Or.inl rfl) (@pe_op _ _ _ _ _ _ _ _ op_add (pv 14) (pv 7)) rfl (Or.inl rfl)) (@pss_cons _ _ _ _ _ (ps_comp (NX := ["_law_script", "_law_names_here", "_law_near", "_law_k", "_law_state", "_law_great", "_law_at_here", "_law_wide", "_law_values", "_law_name", "_law_one", "_law_other", "_law_worth_here", "_law_last", "_law_low", "_law_high", "_law_due"]) (N := ["_law_script", "_law_names_here", "_law_near", "_law_k", "_law_state", "_law_great", "_law_at_here", "_law_wide", "_law_values", "_law_name", "_law_one", "_law_other", "_law_worth_here", "_law_last", "_law_low", "_law_high", "_law_due", "_law_number"]) (ms := [true, true, true, true, true, true, true, true, true, true, true, true, true, true, true, true, true, false]) (ks := [17]) (out := defScope sLaw) (by exact ⟨rfl, by decide +kernel, by decide +kernel, by decide +kernel, by decide +kernel, by decide +kernel⟩) rfl rfl rfl (i := 16) scLaw.nd rfl (Or.inl rfl) (pi_rangeB rfl B.range (@pa_cons _ _ _ _ _ (pv 14) (@pa_cons _ _ _ _ _ (@pe_op _ _ _ _ _ _ _ _ op_add (pv 15) pe_int) pa_nil (by rfl)) (by rfl))) (@sets_name 17) (by decide) (fun C ex s H => (pg_name (i := 17) nd_scLaw1 rfl (Or.inl rfl))) (fun C ex s H => (@pts_one _ _ _ (@pt_cmpR _ _ _ _ _ _ _ _ op_eq (pv 17) (pv 12) (nomark _)))) (fun C ex s H => (pv 17)) (by with_unfolding_all rfl)) (@pss_cons _ _ _ _ _ (@ps_if _ _ _ _ _ _ _ _ (@pt_not _ _ _ _ (pt_val (pe_call GRi hr (by rfl) T.gRi T.FRi.kp T.bRi .nil pass0 (@pa_cons _ _ _ _ _ (pe_make T.mkU GUI hr3 rfl T.gU T.bUI .nil pass0 (@pa_cons _ _ _ _ _ (@pe_ix _ _ _ _ _ _ (rIxL K) ix_list (pv 1) pe_int (fun _ _ => rfl)) (@pa_cons _ _ _ _ _ (pe_call GHa hr11 (by rfl) T.gHa T.FHa.kp T.bHa .nil pass0 (@pa_cons _ _ _ _ _ (pv 10) pa_nil (by rfl))) pa_nil (by rfl)) (by rfl))) (@pa_cons _ _ _ _ _ (@pe_ix _ _ _ _ _ _ (rIxL K) ix_list (pv 1) pe_int (fun _ _ => rfl)) (@pa_cons _ _ _ _ _ (pv 8) (@pa_cons _ _ _ _ _ (pv 14) (@pa_cons _ _ _ _ _ (pv 15) (@pa_cons _ _ _ _ _ (pv 16) pa_nil (by rfl)) (by rfl)) (by rfl)) (by rfl)) (by rfl)) (by rfl))))) (@pss_one _ _ _ (@ps_ret _ _ _ _ pe_bl)) pss_nil) (@pss_cons _ _ _ _ _ (ps_comp (NX := ["_law_script", "_law_names_here", "_law_near", "_law_k", "_law_state", "_law_great", "_law_at_here", "_law_wide", "_law_values", "_law_name", "_law_one", "_law_other", "_law_worth_here", "_law_last", "_law_low", "_law_high", "_law_due"]) (N := ["_law_script", "_law_names_here", "_law_near", "_law_k", "_law_state", "_law_great", "_law_at_here", "_law_wide", "_law_values", "_law_name", "_law_one", "_law_other", "_law_worth_here", "_law_last", "_law_low", "_law_high", "_law_due", "_law_number"]) (ms := [true, true, true, true, true, true, true, true, true, true, true, true, true, true, true, true, true, false]) (ks := [17]) (out := defScope sLaw) (by exact ⟨rfl, by decide +kernel, by decide +kernel, by decide +kernel, by decide +kernel, by decide +kernel⟩) rfl rfl rfl (i := 16) scLaw.nd rfl (Or.inl rfl) (pi_rangeB rfl B.range (@pa_cons _ _ _ _ _ (pv 14) (@pa_cons _ _ _ _ _ (@pe_op _ _ _ _ _ _ _ _ op_add (pv 15) pe_int) pa_nil (by rfl)) (by rfl))) (@sets_name 17) (by decide) (fun C ex s H => (pg_name (i := 17) nd_scLaw2 rfl (Or.inl rfl))) (fun C ex s H => (@pts_one _ _ _ (pt_chain op_le op_le (pv 12) (pv 17) (pv 13)))) (fun C ex s H => (pv 17)) (by with_unfolding_all rfl)) (@pss_cons _ _ _ _ _ (@ps_if _ _ _ _ _ _ _ _ (@pt_not _ _ _ _ (pt_val (pe_call GRi hr (by rfl) T.gRi T.FRi.kp T.bRi .nil pass0 (@pa_cons _ _ _ _ _ (pe_make T.mkA GAI hr3 rfl T.gA T.bAI .nil pass0 (@pa_cons _ _ _ _ _ (@pe_ix _ _ _ _ _ _ (rIxL K) ix_list (pv 1) (@pe_un _ _ _ _ _ _ un_neg pe_int) (fun _ _ => rfl)) (@pa_cons _ _ _ _ _ (pe_call GHa hr11 (by rfl) T.gHa T.FHa.kp T.bHa .nil pass0 (@pa_cons _ _ _ _ _ (pv 10) pa_nil (by rfl))) (@pa_cons _ _ _ _ _ (pe_call GHa hr11 (by rfl) T.gHa T.FHa.kp T.bHa .nil pass0 (@pa_cons _ _ _ _ _ (pv 11) pa_nil (by rfl))) pa_nil (by rfl)) (by rfl)) (by rfl))) (@pa_cons _ _ _ _ _ (@pe_ix _ _ _ _ _ _ (rIxL K) ix_list (pv 1) (@pe_un _ _ _ _ _ _ un_neg pe_int) (fun _ _ => rfl)) (@pa_cons _ _ _ _ _ (pv 8) (@pa_cons _ _ _ _ _ (pv 14) (@pa_cons _ _ _ _ _ (pv 15) (@pa_cons _ _ _ _ _ (pv 16) pa_nil (by rfl)) (by rfl)) (by rfl)) (by rfl)) (by rfl)) (by rfl))))) (@pss_one _ _ _ (@ps_ret _ _ _ _ pe_bl)) pss_nil) (@pss_one _ _ _ (@ps_if _ _ _ _ _ _ _ _ (@pt_not _ _ _ _ (pt_val (pe_call GRi hr (by rfl) T.gRi T.FRi.kp T.bRi .nil pass0 (@pa_cons _ _ _ _ _ (pe_make T.mkC GCI hr2 rfl T.gC T.bCI .nil pass0 (@pa_cons _ _ _ _ _ (@pe_ix _ _ _ _ _ _ (rIxL K) ix_list (pv 1) pe_int (fun _ _ => rfl)) pa_nil (by rfl))) (@pa_cons _ _ _ _ _ (@pe_ix _ _ _ _ _ _ (rIxL K) ix_list (pv 1) pe_int (fun _ _ => rfl)) (@pa_cons _ _ _ _ _ (pv 8) (@pa_cons _ _ _ _ _ (pv 14) (@pa_cons _ _ _ _ _ (pv 15) (@pa_cons _ _ _ _ _ (@pe_lst _ _ _ _ pa_nil) pa_nil (by rfl)) (by rfl)) (by rfl)) (by rfl)) (by rfl)) (by rfl))))) (@pss_one _ _ _ (@ps_ret _ _ _ _ pe_bl)) pss_nil)))))))))))))))))) (by intro _; rfl)) (@pss_one _ _ _ (@ps_ret _ _ _ _ pe_bl))))), ?_⟩
  refine ⟨_, rfl, a, ns, 0, rfl, hS, h63, by decide, by decide, fun c0 H1 s1 => ?_⟩
  refine ⟨_, rfl, a, ns, 1, rfl, s1.seq hS, h63, by decide, by decide, fun c1 H2 s2 => ?_⟩
  have m1 := Int.emod_nonneg c1 (b := 3) (by decide)
  have m2 := Int.emod_lt_of_pos c1 (b := 3) (by decide)
  refine ⟨_, _, rfl, rfl, (by show (0 : Int) < 3; decide), _, _, rfl, rfl, c0, 1 + c1 % 3, rfl, by omega, by omega, fun pn H3 l s3 _ e3 l3 nd nam => ?_⟩
  have t3 := s1.trans (s2.trans s3)
  refine ⟨_, rfl, a, ns, 1, rfl, t3.seq hS, h63, by decide, by decide, fun c2 H4 s4 => ⟨_, _, rfl, rfl, ⟨by decide, by decide⟩, _, _, rfl, rfl, (by show (0 : Int) < 90; decide), ?_⟩⟩
  have t4 := t3.trans s4
  have e4 := s4 _ _ e3
  have n1 := Int.emod_nonneg (c2 / 3) (b := 90) (by decide)
  have n2 := Int.emod_lt_of_pos (c2 / 3) (b := 90) (by decide)
  obtain ⟨near, hnear⟩ : ∃ near : Int, c2 / 3 % 90 = near := ⟨_, rfl⟩
  rw [hnear] at n1 n2
  have lne : l ≠ [] := by intro z; rw [z] at l3; simp at l3; omega
  have l8 : l.length ≤ 8 := by omega
  have hb : ∀ x : Int, 0 ≤ (if (if (47 : Int) < x then 47 else x) > 5 then (if (47 : Int) < x then 47 else x) else 5) ∧ (if (if (47 : Int) < x then 47 else x) > 5 then (if (47 : Int) < x then 47 else x) else 5) ≤ 47 := fun x => by split <;> split <;> omega
  refine ⟨_, rfl, a, _, rfl, .inl (t4.seq hS), _, _, rfl, _, _, rfl, _, _, _, rfl, ⟨by decide, by decide, (hb _).1, Int.lt_of_le_of_lt (hb _).2 (by decide), by decide, by decide⟩, ?_⟩
  refine for_steps (fun i σ H6 => ∃ v3 v4 v5 v6 v7 v8 v9 v10 v11 v12 v13 v14 v15 v16 : Option V, σ = [some (.ref a), some (.ref pn), some (.int near), v3, v4, v5, v6, v7, v8, v9, v10, v11, v12, v13, v14, v15, v16] ∧ Same H4 H6) ⟨none, none, none, none, none, none, none, none, none, none, none, none, none, none, by rw [← hnear]; rfl, Same.refl _⟩ ?_ ?_
  · rintro i σ H6 hi ⟨v3, v4, v5, v6, v7, v8, v9, v10, v11, v12, v13, v14, v15, v16, rfl, s6⟩
    have hi4 : i ≤ 15 := by
      have q := (hb (((ns.map V.int).length : Nat) : Int)).2
      generalize (if (if (47 : Int) < (((ns.map V.int).length : Nat) : Int) then 47 else (((ns.map V.int).length : Nat) : Int)) > 5 then (if (47 : Int) < (((ns.map V.int).length : Nat) : Int) then 47 else (((ns.map V.int).length : Nat) : Int)) else 5) = bb at hi q
      unfold Builtin.Range.rangeSize at hi
      rw [if_pos (by decide)] at hi
      split at hi <;> omega
    have t6 := t4.trans s6
    have e6 := s6 _ _ e4
    refine ⟨_, rfl, _, rfl, _, _, rfl, rfl, a, ns, _, rfl, t6.seq hS, h63, by omega, by omega, fun cs H7 s7 => ⟨cs, rfl, fun ps hps => ?_⟩⟩
    refine ⟨_, rfl, ps, _, _, 4, rfl, upd_same, by decide, by decide, fun g z1 g0 g1 => ⟨rfl, ?_⟩⟩
    rw [upd_upd]
    refine ⟨_, rfl, ps, _, _, 4, rfl, upd_same, by decide, by decide, fun ah z2 a0 a1 => ?_⟩
    rw [upd_upd]
    refine ⟨_, rfl, ps, _, _, 6, rfl, upd_same, by decide, by decide, fun wd z3 w0 w1 => ?_⟩
    rw [upd_upd]
    refine fun pv hpv => ?_
    have pvs : pv ≠ ps := fun z => by rw [z, upd_same] at hpv; cases hpv
    have n7 : H7 pv = none := by rw [upd_ne pvs] at hpv; exact hpv
    have s8 : Same H7 (upd (upd H7 ps (.lst [.int z3, .int (cs % 2)])) pv (.dK [])) := same_put (same_new hps _) n7 _
    have p8 : upd (upd H7 ps (.lst [.int z3, .int (cs % 2)])) pv (.dK []) ps = some (.lst [.int z3, .int (cs % 2)]) := by rw [upd_ne (Ne.symm pvs), upd_same]
    have d8 : upd (upd H7 ps (.lst [.int z3, .int (cs % 2)])) pv (.dK []) pv = some (.dK []) := upd_same
    generalize upd (upd H7 ps (.lst [.int z3, .int (cs % 2)])) pv (.dK []) = H8 at s8 p8 d8 ⊢
    have e7 := s7 _ _ e6
    generalize decide (V.int g = V.int 0) = great
    refine ⟨_, rfl, pn, rfl, ⟨_, SqL.of (s8 _ _ e7)⟩, for_list (xs := l.map V.str) (fun j σ H9 => ∃ (v9 : Option V) (kvs : List (Key × V)) (z : Int), σ = [some (.ref a), some (.ref pn), some (.int near), some (.int (2 + (i : Int) * 3)), some (.ref ps), some (.bl great), some (.int ah), some (.int wd), some (.ref pv), v9, v10, v11, v12, v13, v14, v15, v16] ∧ Same H7 H9 ∧ H9 ps = some (.lst [.int z, .int (cs % 2)]) ∧ H9 pv = some (.dK kvs) ∧ Fil (l.take j) kvs (2 * j)) ⟨v9, [], z3, rfl, s8, p8, d8, ⟨by simp, by simp, by simp, Nat.le_refl _⟩⟩ (fun j σ H9 _ ⟨_, _, _, _, e, _⟩ => SqL.of (e _ _ e7)) ?_ ?_⟩
    · rintro j x σ H9 hx ⟨v9, kvs, z, rfl, s9, p9, d9, F9⟩
      have hj : j < l.length := by have := (List.getElem?_eq_some_iff.mp hx).1; rw [List.length_map] at this; exact this
      rw [List.getElem?_map, List.getElem?_eq_getElem hj] at hx
      cases hx
      refine ⟨_, rfl, _, rfl, ps, z, _, 9, rfl, p9, by decide, by decide, fun r z4 r0 r1 => ⟨_, _, rfl, rfl, _, _, rfl, rfl, _, rfl, _, rfl, pv, _, rfl, DPut.k (k := .inr l[j]) (by rw [upd_ne pvs]; exact d9) (small1000 (by have := F9.len; omega)), ?_⟩⟩
      have s10 : Same H7 (upd (upd H9 ps (.lst [.int z4, .int (cs % 2)])) pv (.dK (putK kvs (.inr l[j]) (.int (near + r - 2))))) := same_put (same_put s9 hps _) n7 _
      have p10 : upd (upd H9 ps (.lst [.int z4, .int (cs % 2)])) pv (.dK (putK kvs (.inr l[j]) (.int (near + r - 2)))) ps = some (.lst [.int z4, .int (cs % 2)]) := by rw [upd_ne (Ne.symm pvs), upd_same]
      have d10 : upd (upd H9 ps (.lst [.int z4, .int (cs % 2)])) pv (.dK (putK kvs (.inr l[j]) (.int (near + r - 2)))) pv = some (.dK (putK kvs (.inr l[j]) (.int (near + r - 2)))) := upd_same
      have F10 : Fil (l.take (j + 1)) (putK kvs (.inr l[j]) (.int (near + r - 2))) (2 * j + 1) := by
        rw [List.take_add_one, List.getElem?_eq_getElem hj]
        exact F9.put l[j] (Nat.lt_of_lt_of_le (show (near + r - 2).natAbs < 1000 by omega) (by decide))
      generalize upd (upd H9 ps (.lst [.int z4, .int (cs % 2)])) pv (.dK (putK kvs (.inr l[j]) (.int (near + r - 2)))) = H10 at s10 p10 d10 ⊢
      generalize putK kvs (.inr l[j]) (.int (near + r - 2)) = kvs1 at d10 F10
      refine ⟨_, rfl, _, rfl, ite2 (fun _ => ?_) (fun _ => ?_)⟩
      · refine ⟨_, rfl, ps, z4, _, 2000001, rfl, p10, by decide, by decide, fun r' z5 r0' r1' => ⟨_, _, rfl, rfl, _, rfl, _, rfl, pv, _, rfl, DPut.k (k := .inr l[j]) (by rw [upd_ne pvs]; exact d10) (small1000 (by have := F10.len; omega)), ?_⟩⟩
        exact ⟨_, _, z5, rfl, same_put (same_put s10 hps _) n7 _, by rw [upd_ne (Ne.symm pvs), upd_same], upd_same, F10.again l[j] (Nat.lt_of_lt_of_le (show (r' - 1000000).natAbs < 2000000 by omega) (by decide))⟩
      · exact ⟨_, _, z4, rfl, s10, p10, d10, F10.nd, F10.nums, F10.got, Nat.le_succ_of_le F10.len⟩
    rintro σ H9 ⟨v9, kvs, z, rfl, s9, p9, d9, F9⟩
    rw [List.length_map, List.take_of_length_le (Nat.le_refl _)] at F9
    have O := F9.ok
    generalize vfOf kvs = vf at O
    have e9 := s9 _ _ e7
    have t9 := t6.trans (s7.trans s9)
    -- the two sums
    refine ⟨_, rfl, _, rfl, a, ns, _, rfl, t9.seq hS, h63, by omega, by omega, fun cA HA sA => ⟨cA, rfl, fun p1 hp1 => ?_⟩⟩
    have eA := sA _ _ e9
    refine ⟨_, rfl, _, rfl, p1, pn, cA % 2, near, 2, l, rfl, ⟨⟨_, upd_same⟩, (same_new hp1 _) _ _ eA⟩, l8, by decide, by decide, fun pt HB t sbB _ itB ftB lvB dpB => ?_⟩
    have sB := same_sb hp1 _ sbB
    have tB := sA.trans sB
    refine ⟨_, rfl, _, rfl, _, _, rfl, rfl, a, ns, _, rfl, (t9.trans tB).seq hS, h63, by omega, by omega, fun cC HC sC => ⟨cC, rfl, fun p2 hp2 => ?_⟩⟩
    have eC := (tB.trans sC) _ _ e9
    refine ⟨_, rfl, _, rfl, _, _, rfl, rfl, p2, pn, cC % 2, near + 3, 2, l, rfl, ⟨⟨_, upd_same⟩, (same_new hp2 _) _ _ eC⟩, l8, by decide, by decide, fun pu HD u sbD _ itD ftD lvD dpD => ?_⟩
    have sD := same_sb hp2 _ sbD
    have tD := tB.trans (sC.trans sD)
    have itt := itB.same (sC.trans sD)
    have lv1 : lv t ≤ 100 := Nat.le_trans lvB (by decide)
    have lv2 : lv u ≤ 100 := Nat.le_trans lvD (by decide)
    have dp1 : dp t < 8 := Nat.lt_of_le_of_lt dpB (by decide)
    have dp2 : dp u < 8 := Nat.lt_of_le_of_lt dpD (by decide)
    refine ⟨_, rfl, _, rfl, .ref pt, pv, t, kvs, l, vf, rfl, itt, tD _ _ d9, O, ftB, lv1, dp1, fun HE sE => ?_⟩
    refine ⟨_, rfl, _, rfl, .ref pu, pv, u, kvs, l, vf, rfl, itD.same sE, sE _ _ (tD _ _ d9), O, ftD, lv2, dp2, fun HF sF => ?_⟩
    have tF := tD.trans (sE.trans sF)
    have dF := tF _ _ d9
    have nF := tF _ _ e9
    have itF := itt.same (sE.trans sF)
    have iuF := itD.same (sE.trans sF)
    -- from low to high
    refine ⟨_, rfl, _, rfl, _, _, rfl, rfl, _, rfl, _, _, rfl, rfl, _, rfl, _, _, rfl, rfl, by show 4 ≤ sizeLine; decide, fun pq hpq => ?_⟩
    obtain ⟨lo, hlo⟩ := low_at near (val vf t - 2) (val vf t - 6) (val vf u - 3) a0 a1
    refine ⟨_, rfl, pq, _, _, _, rfl, rfl, SqL.of upd_same, hlo, ?_⟩
    have sG := same_new hpq (.lst [V.int near, V.int (val vf t - 2), V.int (val vf t - 6), V.int (val vf u - 3)])
    generalize upd HF pq (.lst [V.int near, V.int (val vf t - 2), V.int (val vf t - 6), V.int (val vf u - 3)]) = HG at sG ⊢
    refine ⟨_, rfl, _, rfl, _, _, rfl, rfl, ?_⟩
    obtain ⟨x0, _, ex0⟩ := at_strs (l := l) (r := 0) (by decide) (by omega)
    obtain ⟨xl, exl⟩ := at_last lne
    -- what a Put tells
    refine ⟨_, rfl, _, rfl, _, _, rfl, rfl, _, _, rfl, comp_range (lo := lo) (n := (lo + wd + 1 - lo).toNat) (fun j ys H' => ys = (if lo ≤ val vf t ∧ val vf t < lo + (j : Int) then [V.int (val vf t)] else []) ∧ H' = HG) ⟨by rw [if_neg (by omega)], rfl⟩ (fun j ys H' hj ⟨e, _⟩ => by rw [e]; exact small1000 (by split <;> simp)) ?_ ?_⟩
    · rintro j ys H' hj ⟨rfl, rfl⟩
      refine ⟨_, rfl, _, rfl, rfl, _, rfl, ite2 (fun c => ⟨_, rfl, ?_, rfl⟩) (fun c => ⟨?_, rfl⟩)⟩
      · have c : V.int (lo + (j : Int)) = V.int (val vf t) := of_decide_eq_true c
        have c := V.int.inj c
        rw [if_neg (by omega), if_pos (by omega), c]
        rfl
      · have c : ¬ V.int (lo + (j : Int)) = V.int (val vf t) := of_decide_eq_false (Bool.eq_false_iff.mpr c)
        have c : lo + (j : Int) ≠ val vf t := fun z => c (by rw [z])
        by_cases hh : lo ≤ val vf t ∧ val vf t < lo + (j : Int)
        · rw [if_pos hh, if_pos (by omega)]
        · rw [if_neg hh, if_neg (by omega)]
    rintro ys HG' ⟨rfl, rfl⟩ pd hpd
    have ed : (if lo ≤ val vf t ∧ val vf t < lo + (((lo + wd + 1 - lo).toNat : Nat) : Int) then [V.int (val vf t)] else []) = chV vf lo (lo + wd) (.put x0 t) := by
      show _ = if lo ≤ val vf t ∧ val vf t ≤ lo + wd then [V.int (val vf t)] else []
      by_cases hh : lo ≤ val vf t ∧ val vf t ≤ lo + wd
      · rw [if_pos hh, if_pos (by omega)]
      · rw [if_neg hh, if_neg (by omega)]
    rw [ed]
    have sH := same_new hpd (.lst (chV vf lo (lo + wd) (.put x0 t)))
    have eH : upd HG' pd (.lst (chV vf lo (lo + wd) (.put x0 t))) pd = some (.lst (chV vf lo (lo + wd) (.put x0 t))) := upd_same
    generalize upd HG' pd (.lst (chV vf lo (lo + wd) (.put x0 t))) = HH at sH eH ⊢
    have tH := sG.trans sH
    refine ⟨_, rfl, pn, _, _, _, rfl, rfl, SqL.of (tH _ _ nF), ex0, _, rfl, .ref pt, t, rfl, itF.same tH, dp1, fun po HI sI oI => ?_⟩
    refine fun x dx hx hdx hxd => ⟨x, dx, _, _, rfl, upd_same, fun HJ h3 h4 => ⟨rfl, ?_⟩⟩
    have sJ := same_made2 hx hdx hxd h4
    have tJ := tH.trans (sI.trans sJ)
    refine ⟨_, rfl, pn, _, _, _, rfl, rfl, SqL.of (tJ _ _ nF), ex0, _, rfl, _, rfl, _, rfl, _, rfl, .ref x, pv, pd, lo, lo + wd, .put x0 t, kvs, l, vf, rfl, ⟨x, dx, _, rfl, h3, oI.same sJ⟩, tJ _ _ dF, O, ⟨ftB, lv1, dp1⟩, by omega, (sI.trans sJ) _ _ eH, fun HK sK => ⟨_, rfl, iteF ?_⟩⟩
    have tK := tJ.trans sK
    clear h3 h4 sJ tJ oI eH sH tH
    -- what an Any tells
    refine ⟨_, rfl, _, rfl, _, _, rfl, rfl, _, _, rfl, comp_range (lo := lo) (n := (lo + wd + 1 - lo).toNat) (fun j ys H' => ys = L2.upTo (if val vf t > lo then val vf t else lo) (cnt lo (val vf t) (val vf u) (j : Int)) ∧ H' = HK) ⟨by rw [show cnt lo (val vf t) (val vf u) ((0 : Nat) : Int) = 0 from cnt_0 _ _ _]; rfl, rfl⟩ (fun j ys H' hj ⟨e, _⟩ => by rw [e, upTo_len]; exact small1000 (by have := cnt_le lo (val vf t) (val vf u) (j : Int); omega)) ?_ ?_⟩
    · rintro j ys H' hj ⟨rfl, rfl⟩
      refine ⟨_, rfl, _, rfl, _, _, rfl, rfl, _, rfl, ite2 (fun c1 => ⟨_, rfl, _, _, rfl, rfl, _, rfl, ite2 (fun c2 => ⟨_, rfl, ?_, rfl⟩) (fun c2 => ⟨?_, rfl⟩)⟩) (fun c1 => ⟨_, rfl, iteF ⟨?_, rfl⟩⟩)⟩
      · have c1 : val vf t ≤ lo + (j : Int) := of_decide_eq_true c1
        have c2 : lo + (j : Int) ≤ val vf u := of_decide_eq_true c2
        exact (cnt_in c1 c2).symm
      · have c2 : ¬ lo + (j : Int) ≤ val vf u := of_decide_eq_false (Bool.eq_false_iff.mpr c2)
        rw [cnt_out (fun h => c2 h.2)]
      · have c1 : ¬ val vf t ≤ lo + (j : Int) := of_decide_eq_false (Bool.eq_false_iff.mpr c1)
        rw [cnt_out (fun h => c1 h.1)]
    rintro ys HK' ⟨rfl, rfl⟩ pe hpe
    have ee : L2.upTo (if val vf t > lo then val vf t else lo) (cnt lo (val vf t) (val vf u) (((lo + wd + 1 - lo).toNat : Nat) : Int)) = chV vf lo (lo + wd) (.any xl t u) := by
      show _ = L2.upTo (if val vf t > lo then val vf t else lo) ((if val vf u < lo + wd then val vf u else lo + wd) + 1 - (if val vf t > lo then val vf t else lo)).toNat
      congr 1
      unfold cnt
      split <;> split <;> split <;> omega
    rw [ee]
    have sL := same_new hpe (.lst (chV vf lo (lo + wd) (.any xl t u)))
    have eL : upd HK' pe (.lst (chV vf lo (lo + wd) (.any xl t u))) pe = some (.lst (chV vf lo (lo + wd) (.any xl t u))) := upd_same
    generalize upd HK' pe (.lst (chV vf lo (lo + wd) (.any xl t u))) = HL at sL eL ⊢
    have tL := tK.trans sL
    refine ⟨_, rfl, 1, rfl, pn, _, _, _, rfl, rfl, SqL.of (tL _ _ nF), exl, _, rfl, .ref pt, t, rfl, itF.same tL, dp1, fun po' HM sM oM => ?_⟩
    refine ⟨_, rfl, .ref pu, u, rfl, (iuF.same tL).same sM, dp2, fun po2 HN sN oN => ?_⟩
    refine fun x dx hx hdx hxd => ⟨x, dx, _, _, _, rfl, upd_same, fun HO' h3 h4 => ⟨rfl, ?_⟩⟩
    have sO := same_made2 hx hdx hxd h4
    have tO := tL.trans (sM.trans (sN.trans sO))
    refine ⟨_, rfl, 1, rfl, pn, _, _, _, rfl, rfl, SqL.of (tO _ _ nF), exl, _, rfl, _, rfl, _, rfl, _, rfl, .ref x, pv, pe, lo, lo + wd, .any xl t u, kvs, l, vf, rfl, ⟨x, dx, _, _, rfl, h3, (oM.same sN).same sO, oN.same sO⟩, tO _ _ dF, O, ⟨⟨ftB, lv1, dp1⟩, ftD, lv2, dp2⟩, by omega, (sM.trans (sN.trans sO)) _ _ eL, fun HP sP => ⟨_, rfl, iteF ?_⟩⟩
    have tP := tO.trans sP
    -- a Change itself
    refine ⟨_, rfl, pn, _, _, _, rfl, rfl, SqL.of (tP _ _ nF), ex0, fun x dx hx hdx hxd => ⟨x, dx, _, rfl, upd_same, rfl, ?_⟩⟩
    have sQ : Same HP (upd (upd (upd HP dx (.own x)) x (.ins (CC .cha) dx [])) x (.ins (CC .cha) dx (namF (.str x0)))) := fun b u e => by
      rw [upd_ne (ne_of_none e hx)]
      exact same_made hx hdx hxd _ _ b u e
    have eQ : upd (upd (upd HP dx (.own x)) x (.ins (CC .cha) dx [])) x (.ins (CC .cha) dx (namF (.str x0))) x = some (.ins (CC .cha) dx (namF (.str x0))) := upd_same
    generalize upd (upd (upd HP dx (.own x)) x (.ins (CC .cha) dx [])) x (.ins (CC .cha) dx (namF (.str x0))) = HQ at sQ eQ ⊢
    have tQ := tP.trans sQ
    refine ⟨_, rfl, pn, _, _, _, rfl, rfl, SqL.of (tQ _ _ nF), ex0, _, rfl, _, rfl, _, rfl, Nat.zero_le _, fun pz hpz => ?_⟩
    have sR := same_new hpz (.lst [])
    refine ⟨.ref x, pv, pz, lo, lo + wd, .cha x0, kvs, l, vf, rfl, ⟨x, dx, rfl, sR _ _ eQ⟩, (tQ.trans sR) _ _ dF, O, trivial, by omega, upd_same, fun HS sS => ⟨_, rfl, iteF ?_⟩⟩
    exact ⟨_, _, _, _, _, _, _, _, _, _, _, _, _, _, rfl, s6.trans (s7.trans (s9.trans (tF.trans (tQ.trans (sR.trans sS)))))⟩
  · rintro σ H6 ⟨v3, v4, v5, v6, v7, v8, v9, v10, v11, v12, v13, v14, v15, v16, rfl, s6⟩
    exact q _
end
end Nw

set_option Elab.async false
set_option linter.all false
set_option maxRecDepth 100000
set_option maxHeartbeats 4000000
namespace Nw
open PySem L2
theorem kit_of {K : PySem.W.Frag} {C S : Addr} (h1 : PySem.W.mroIn K C (.ref S) = some true) (h2 : PySem.W.mroIn K S (.type "object") = some true) (h3 : PySem.W.typeIn K (.ref S) = some (.type "type")) : PySem.W.kitOne K (.ref C) (.ref S) = some true := by
  have h4 : (PySem.W.clsIn K S).isSome = true := by
    unfold PySem.W.mroIn at h2
    cases e : PySem.W.clsIn K S with
    | none => rw [e] at h2; cases h2
    | some _ => rfl
  unfold PySem.W.kitOne
  split
  · rfl
  · show (if ((PySem.W.clsIn K S).isSome && PySem.W.typeIn K (.ref S) == some (.type "type")) = true then PySem.W.subIn K (.ref C) (.ref S) else none) = some true
    rw [if_pos (by rw [h4, h3]; rfl)]
    exact h1
theorem kit_self {K : PySem.W.Frag} {C : Addr} : PySem.W.kitOne K (.ref C) (.ref C) = some true := by
  unfold PySem.W.kitOne
  rw [if_pos (beq_self_eq_true _)]
theorem all_mk {l : PySem.W.OpenLaw} {w : World} {K : PySem.W.Frag} {h : Heap} {mg : Str → Option Value} {fa CN CM CP CI CX CC CU CA fNI fMI fTI fCI fUI fAI fNW fMW fPW fIW fXW fCC fUC fAC fAt fBe fDr fNa fSu fWo fHa fWh fSa fRi fL : Addr} {odNI anNI odMI anMI odTI anTI odCI anCI odUI anUI odAI anAI odNW anNW odMW anMW odPW anPW odIW anIW odXW anXW odCC anCC odUC anUC odAC anAC odAt anAt odBe anBe odDr anDr odNa anNa odSu anSu odWo anWo odHa anHa odWh anWh odSa anSa odRi anRi odL anL : Option Addr} {slNI slMI slTI slCI slUI slAI slNW slMW slPW slIW slXW slCC slUC slAC slAt slBe slDr slNa slSu slWo slHa slWh slSa slRi slL : Array (Option Value)} {ocNI kVNI dcNI pmNI cdNI ctNI ocMI kVMI dcMI pmMI cdMI ctMI ocTI kVTI dcTI pmTI cdTI ctTI ocCI kVCI dcCI pmCI cdCI ctCI ocUI kVUI dcUI pmUI cdUI ctUI ocAI kVAI dcAI pmAI cdAI ctAI ocNW kVNW dcNW pmNW cdNW ctNW ocMW kVMW dcMW pmMW cdMW ctMW ocPW kVPW dcPW pmPW cdPW ctPW ocIW kVIW dcIW pmIW cdIW ctIW ocXW kVXW dcXW pmXW cdXW ctXW ocCC kVCC dcCC pmCC cdCC ctCC ocUC kVUC dcUC pmUC cdUC ctUC ocAC kVAC dcAC pmAC cdAC ctAC ocAt kVAt dcAt pmAt cdAt ctAt ocBe kVBe dcBe pmBe cdBe ctBe ocDr kVDr dcDr pmDr cdDr ctDr ocNa kVNa dcNa pmNa cdNa ctNa ocSu kVSu dcSu pmSu cdSu ctSu ocWo kVWo dcWo pmWo cdWo ctWo ocHa kVHa dcHa pmHa cdHa ctHa ocWh kVWh dcWh pmWh cdWh ctWh ocSa kVSa dcSa pmSa cdSa ctSa ocRi kVRi dcRi pmRi cdRi ctRi ocL kVL dcL pmL cdL ctL : Value} (X : K.In h) (G : h.Ns mainGlobals mg) (hfa : mg "law" = some (.ref fa))
    (aN : PySem.W.nsIn K mainGlobals "Number" = some (some (.ref CN)))
    (pgN : PySem.W.plainGet K CN Str.empty = true)
    (hdN : PySem.W.hasDictIn K CN = true)
    (poN : PySem.W.plainOver K CN = true)
    (saN : PySem.W.findIn K (.ref CN) "__setattr__" = some (some (.builtin "object.__setattr__")))
    (mkN : PySem.W.makesIn K CN = true)
    (kcN : PySem.W.keepIn K (.ref CN) = true)
    (nN_number : PySem.W.findIn K (.ref CN) "number" = some none)
    (aM : PySem.W.nsIn K mainGlobals "Named" = some (some (.ref CM)))
    (pgM : PySem.W.plainGet K CM Str.empty = true)
    (hdM : PySem.W.hasDictIn K CM = true)
    (poM : PySem.W.plainOver K CM = true)
    (saM : PySem.W.findIn K (.ref CM) "__setattr__" = some (some (.builtin "object.__setattr__")))
    (mkM : PySem.W.makesIn K CM = true)
    (kcM : PySem.W.keepIn K (.ref CM) = true)
    (nM_name : PySem.W.findIn K (.ref CM) "name" = some none)
    (aP : PySem.W.nsIn K mainGlobals "Plus" = some (some (.ref CP)))
    (pgP : PySem.W.plainGet K CP Str.empty = true)
    (hdP : PySem.W.hasDictIn K CP = true)
    (poP : PySem.W.plainOver K CP = true)
    (saP : PySem.W.findIn K (.ref CP) "__setattr__" = some (some (.builtin "object.__setattr__")))
    (mkP : PySem.W.makesIn K CP = true)
    (kcP : PySem.W.keepIn K (.ref CP) = true)
    (nP_one : PySem.W.findIn K (.ref CP) "one" = some none)
    (nP_other : PySem.W.findIn K (.ref CP) "other" = some none)
    (aI : PySem.W.nsIn K mainGlobals "Minus" = some (some (.ref CI)))
    (pgI : PySem.W.plainGet K CI Str.empty = true)
    (hdI : PySem.W.hasDictIn K CI = true)
    (poI : PySem.W.plainOver K CI = true)
    (saI : PySem.W.findIn K (.ref CI) "__setattr__" = some (some (.builtin "object.__setattr__")))
    (mkI : PySem.W.makesIn K CI = true)
    (kcI : PySem.W.keepIn K (.ref CI) = true)
    (nI_one : PySem.W.findIn K (.ref CI) "one" = some none)
    (nI_other : PySem.W.findIn K (.ref CI) "other" = some none)
    (aX : PySem.W.nsIn K mainGlobals "Times" = some (some (.ref CX)))
    (pgX : PySem.W.plainGet K CX Str.empty = true)
    (hdX : PySem.W.hasDictIn K CX = true)
    (poX : PySem.W.plainOver K CX = true)
    (saX : PySem.W.findIn K (.ref CX) "__setattr__" = some (some (.builtin "object.__setattr__")))
    (mkX : PySem.W.makesIn K CX = true)
    (kcX : PySem.W.keepIn K (.ref CX) = true)
    (nX_one : PySem.W.findIn K (.ref CX) "one" = some none)
    (nX_other : PySem.W.findIn K (.ref CX) "other" = some none)
    (aC : PySem.W.nsIn K mainGlobals "Change" = some (some (.ref CC)))
    (pgC : PySem.W.plainGet K CC Str.empty = true)
    (hdC : PySem.W.hasDictIn K CC = true)
    (poC : PySem.W.plainOver K CC = true)
    (saC : PySem.W.findIn K (.ref CC) "__setattr__" = some (some (.builtin "object.__setattr__")))
    (mkC : PySem.W.makesIn K CC = true)
    (kcC : PySem.W.keepIn K (.ref CC) = true)
    (nC_name : PySem.W.findIn K (.ref CC) "name" = some none)
    (aU : PySem.W.nsIn K mainGlobals "Put" = some (some (.ref CU)))
    (pgU : PySem.W.plainGet K CU Str.empty = true)
    (hdU : PySem.W.hasDictIn K CU = true)
    (poU : PySem.W.plainOver K CU = true)
    (saU : PySem.W.findIn K (.ref CU) "__setattr__" = some (some (.builtin "object.__setattr__")))
    (mkU : PySem.W.makesIn K CU = true)
    (kcU : PySem.W.keepIn K (.ref CU) = true)
    (nU_name : PySem.W.findIn K (.ref CU) "name" = some none)
    (nU_one : PySem.W.findIn K (.ref CU) "one" = some none)
    (aA : PySem.W.nsIn K mainGlobals "Any" = some (some (.ref CA)))
    (pgA : PySem.W.plainGet K CA Str.empty = true)
    (hdA : PySem.W.hasDictIn K CA = true)
    (poA : PySem.W.plainOver K CA = true)
    (saA : PySem.W.findIn K (.ref CA) "__setattr__" = some (some (.builtin "object.__setattr__")))
    (mkA : PySem.W.makesIn K CA = true)
    (kcA : PySem.W.keepIn K (.ref CA) = true)
    (nA_name : PySem.W.findIn K (.ref CA) "name" = some none)
    (nA_one : PySem.W.findIn K (.ref CA) "one" = some none)
    (nA_other : PySem.W.findIn K (.ref CA) "other" = some none)
    (aNI : PySem.W.findIn K (.ref CN) "__init__" = some (some (.ref fNI)))
    (iNI : PySem.W.isFn K (.ref fNI) = true)
    (lNI : K.lookup fNI = some ⟨ocNI, odNI, .func (PySem.W.fnOf "__init__" "Number.__init__" (defArgs sNumI) (defBody sNumI) (defScope sNumI) .none kVNI dcNI pmNI anNI cdNI ctNI), slNI⟩)
    (cNI : PySem.W.codeIn K cdNI "Number.__init__" = true)
    (kNI : PySem.W.keepIn K (.ref fNI) = true)
    (aMI : PySem.W.findIn K (.ref CM) "__init__" = some (some (.ref fMI)))
    (iMI : PySem.W.isFn K (.ref fMI) = true)
    (lMI : K.lookup fMI = some ⟨ocMI, odMI, .func (PySem.W.fnOf "__init__" "Named.__init__" (defArgs sNamI) (defBody sNamI) (defScope sNamI) .none kVMI dcMI pmMI anMI cdMI ctMI), slMI⟩)
    (cMI : PySem.W.codeIn K cdMI "Named.__init__" = true)
    (kMI : PySem.W.keepIn K (.ref fMI) = true)
    (aTI : PySem.W.findIn K (.ref CP) "__init__" = some (some (.ref fTI)))
    (aTII : PySem.W.findIn K (.ref CI) "__init__" = some (some (.ref fTI)))
    (aTIX : PySem.W.findIn K (.ref CX) "__init__" = some (some (.ref fTI)))
    (iTI : PySem.W.isFn K (.ref fTI) = true)
    (lTI : K.lookup fTI = some ⟨ocTI, odTI, .func (PySem.W.fnOf "__init__" "Twofold.__init__" (defArgs sTwoI) (defBody sTwoI) (defScope sTwoI) .none kVTI dcTI pmTI anTI cdTI ctTI), slTI⟩)
    (cTI : PySem.W.codeIn K cdTI "Twofold.__init__" = true)
    (kTI : PySem.W.keepIn K (.ref fTI) = true)
    (aCI : PySem.W.findIn K (.ref CC) "__init__" = some (some (.ref fCI)))
    (iCI : PySem.W.isFn K (.ref fCI) = true)
    (lCI : K.lookup fCI = some ⟨ocCI, odCI, .func (PySem.W.fnOf "__init__" "Change.__init__" (defArgs sChaI) (defBody sChaI) (defScope sChaI) .none kVCI dcCI pmCI anCI cdCI ctCI), slCI⟩)
    (cCI : PySem.W.codeIn K cdCI "Change.__init__" = true)
    (kCI : PySem.W.keepIn K (.ref fCI) = true)
    (aUI : PySem.W.findIn K (.ref CU) "__init__" = some (some (.ref fUI)))
    (iUI : PySem.W.isFn K (.ref fUI) = true)
    (lUI : K.lookup fUI = some ⟨ocUI, odUI, .func (PySem.W.fnOf "__init__" "Put.__init__" (defArgs sPutI) (defBody sPutI) (defScope sPutI) .none kVUI dcUI pmUI anUI cdUI ctUI), slUI⟩)
    (cUI : PySem.W.codeIn K cdUI "Put.__init__" = true)
    (kUI : PySem.W.keepIn K (.ref fUI) = true)
    (aAI : PySem.W.findIn K (.ref CA) "__init__" = some (some (.ref fAI)))
    (iAI : PySem.W.isFn K (.ref fAI) = true)
    (lAI : K.lookup fAI = some ⟨ocAI, odAI, .func (PySem.W.fnOf "__init__" "Any.__init__" (defArgs sAnyI) (defBody sAnyI) (defScope sAnyI) .none kVAI dcAI pmAI anAI cdAI ctAI), slAI⟩)
    (cAI : PySem.W.codeIn K cdAI "Any.__init__" = true)
    (kAI : PySem.W.keepIn K (.ref fAI) = true)
    (aNW : PySem.W.findIn K (.ref CN) "worth" = some (some (.ref fNW)))
    (iNW : PySem.W.isFn K (.ref fNW) = true)
    (lNW : K.lookup fNW = some ⟨ocNW, odNW, .func (PySem.W.fnOf "worth" "Number.worth" (defArgs sNumW) (defBody sNumW) (defScope sNumW) .none kVNW dcNW pmNW anNW cdNW ctNW), slNW⟩)
    (cNW : PySem.W.codeIn K cdNW "Number.worth" = true)
    (kNW : PySem.W.keepIn K (.ref fNW) = true)
    (aMW : PySem.W.findIn K (.ref CM) "worth" = some (some (.ref fMW)))
    (iMW : PySem.W.isFn K (.ref fMW) = true)
    (lMW : K.lookup fMW = some ⟨ocMW, odMW, .func (PySem.W.fnOf "worth" "Named.worth" (defArgs sNamW) (defBody sNamW) (defScope sNamW) .none kVMW dcMW pmMW anMW cdMW ctMW), slMW⟩)
    (cMW : PySem.W.codeIn K cdMW "Named.worth" = true)
    (kMW : PySem.W.keepIn K (.ref fMW) = true)
    (aPW : PySem.W.findIn K (.ref CP) "worth" = some (some (.ref fPW)))
    (iPW : PySem.W.isFn K (.ref fPW) = true)
    (lPW : K.lookup fPW = some ⟨ocPW, odPW, .func (PySem.W.fnOf "worth" "Plus.worth" (defArgs sPluW) (defBody sPluW) (defScope sPluW) .none kVPW dcPW pmPW anPW cdPW ctPW), slPW⟩)
    (cPW : PySem.W.codeIn K cdPW "Plus.worth" = true)
    (kPW : PySem.W.keepIn K (.ref fPW) = true)
    (aIW : PySem.W.findIn K (.ref CI) "worth" = some (some (.ref fIW)))
    (iIW : PySem.W.isFn K (.ref fIW) = true)
    (lIW : K.lookup fIW = some ⟨ocIW, odIW, .func (PySem.W.fnOf "worth" "Minus.worth" (defArgs sMinW) (defBody sMinW) (defScope sMinW) .none kVIW dcIW pmIW anIW cdIW ctIW), slIW⟩)
    (cIW : PySem.W.codeIn K cdIW "Minus.worth" = true)
    (kIW : PySem.W.keepIn K (.ref fIW) = true)
    (aXW : PySem.W.findIn K (.ref CX) "worth" = some (some (.ref fXW)))
    (iXW : PySem.W.isFn K (.ref fXW) = true)
    (lXW : K.lookup fXW = some ⟨ocXW, odXW, .func (PySem.W.fnOf "worth" "Times.worth" (defArgs sTimW) (defBody sTimW) (defScope sTimW) .none kVXW dcXW pmXW anXW cdXW ctXW), slXW⟩)
    (cXW : PySem.W.codeIn K cdXW "Times.worth" = true)
    (kXW : PySem.W.keepIn K (.ref fXW) = true)
    (aCC : PySem.W.findIn K (.ref CC) "choices" = some (some (.ref fCC)))
    (iCC : PySem.W.isFn K (.ref fCC) = true)
    (lCC : K.lookup fCC = some ⟨ocCC, odCC, .func (PySem.W.fnOf "choices" "Change.choices" (defArgs sChaC) (defBody sChaC) (defScope sChaC) .none kVCC dcCC pmCC anCC cdCC ctCC), slCC⟩)
    (cCC : PySem.W.codeIn K cdCC "Change.choices" = true)
    (kCC : PySem.W.keepIn K (.ref fCC) = true)
    (aUC : PySem.W.findIn K (.ref CU) "choices" = some (some (.ref fUC)))
    (iUC : PySem.W.isFn K (.ref fUC) = true)
    (lUC : K.lookup fUC = some ⟨ocUC, odUC, .func (PySem.W.fnOf "choices" "Put.choices" (defArgs sPutC) (defBody sPutC) (defScope sPutC) .none kVUC dcUC pmUC anUC cdUC ctUC), slUC⟩)
    (cUC : PySem.W.codeIn K cdUC "Put.choices" = true)
    (kUC : PySem.W.keepIn K (.ref fUC) = true)
    (aAC : PySem.W.findIn K (.ref CA) "choices" = some (some (.ref fAC)))
    (iAC : PySem.W.isFn K (.ref fAC) = true)
    (lAC : K.lookup fAC = some ⟨ocAC, odAC, .func (PySem.W.fnOf "choices" "Any.choices" (defArgs sAnyC) (defBody sAnyC) (defScope sAnyC) .none kVAC dcAC pmAC anAC cdAC ctAC), slAC⟩)
    (cAC : PySem.W.codeIn K cdAC "Any.choices" = true)
    (kAC : PySem.W.keepIn K (.ref fAC) = true)
    (aAt : PySem.W.nsIn K mainGlobals "_law_at" = some (some (.ref fAt)))
    (lAt : K.lookup fAt = some ⟨ocAt, odAt, .func (PySem.W.fnOf "_law_at" "_law_at" (defArgs sAt) (defBody sAt) (defScope sAt) .none kVAt dcAt pmAt anAt cdAt ctAt), slAt⟩)
    (cAt : PySem.W.codeIn K cdAt "_law_at" = true)
    (kAt : PySem.W.keepIn K (.ref fAt) = true)
    (aBe : PySem.W.nsIn K mainGlobals "_law_begin" = some (some (.ref fBe)))
    (lBe : K.lookup fBe = some ⟨ocBe, odBe, .func (PySem.W.fnOf "_law_begin" "_law_begin" (defArgs sBegin) (defBody sBegin) (defScope sBegin) .none kVBe dcBe pmBe anBe cdBe ctBe), slBe⟩)
    (cBe : PySem.W.codeIn K cdBe "_law_begin" = true)
    (kBe : PySem.W.keepIn K (.ref fBe) = true)
    (aDr : PySem.W.nsIn K mainGlobals "_law_draw" = some (some (.ref fDr)))
    (lDr : K.lookup fDr = some ⟨ocDr, odDr, .func (PySem.W.fnOf "_law_draw" "_law_draw" (defArgs sDraw) (defBody sDraw) (defScope sDraw) .none kVDr dcDr pmDr anDr cdDr ctDr), slDr⟩)
    (cDr : PySem.W.codeIn K cdDr "_law_draw" = true)
    (kDr : PySem.W.keepIn K (.ref fDr) = true)
    (aNa : PySem.W.nsIn K mainGlobals "_law_names" = some (some (.ref fNa)))
    (lNa : K.lookup fNa = some ⟨ocNa, odNa, .func (PySem.W.fnOf "_law_names" "_law_names" (defArgs sNames) (defBody sNames) (defScope sNames) .none kVNa dcNa pmNa anNa cdNa ctNa), slNa⟩)
    (cNa : PySem.W.codeIn K cdNa "_law_names" = true)
    (kNa : PySem.W.keepIn K (.ref fNa) = true)
    (aSu : PySem.W.nsIn K mainGlobals "_law_sum" = some (some (.ref fSu)))
    (lSu : K.lookup fSu = some ⟨ocSu, odSu, .func (PySem.W.fnOf "_law_sum" "_law_sum" (defArgs sSum) (defBody sSum) (defScope sSum) .none kVSu dcSu pmSu anSu cdSu ctSu), slSu⟩)
    (cSu : PySem.W.codeIn K cdSu "_law_sum" = true)
    (kSu : PySem.W.keepIn K (.ref fSu) = true)
    (aWo : PySem.W.nsIn K mainGlobals "_law_worth" = some (some (.ref fWo)))
    (lWo : K.lookup fWo = some ⟨ocWo, odWo, .func (PySem.W.fnOf "_law_worth" "_law_worth" (defArgs sWorth) (defBody sWorth) (defScope sWorth) .none kVWo dcWo pmWo anWo cdWo ctWo), slWo⟩)
    (cWo : PySem.W.codeIn K cdWo "_law_worth" = true)
    (kWo : PySem.W.keepIn K (.ref fWo) = true)
    (aHa : PySem.W.nsIn K mainGlobals "_law_sum_of" = some (some (.ref fHa)))
    (lHa : K.lookup fHa = some ⟨ocHa, odHa, .func (PySem.W.fnOf "_law_sum_of" "_law_sum_of" (defArgs sHand) (defBody sHand) (defScope sHand) .none kVHa dcHa pmHa anHa cdHa ctHa), slHa⟩)
    (cHa : PySem.W.codeIn K cdHa "_law_sum_of" = true)
    (kHa : PySem.W.keepIn K (.ref fHa) = true)
    (aWh : PySem.W.nsIn K mainGlobals "_law_whole" = some (some (.ref fWh)))
    (lWh : K.lookup fWh = some ⟨ocWh, odWh, .func (PySem.W.fnOf "_law_whole" "_law_whole" (defArgs sWhole) (defBody sWhole) (defScope sWhole) .none kVWh dcWh pmWh anWh cdWh ctWh), slWh⟩)
    (cWh : PySem.W.codeIn K cdWh "_law_whole" = true)
    (kWh : PySem.W.keepIn K (.ref fWh) = true)
    (aSa : PySem.W.nsIn K mainGlobals "_law_same" = some (some (.ref fSa)))
    (lSa : K.lookup fSa = some ⟨ocSa, odSa, .func (PySem.W.fnOf "_law_same" "_law_same" (defArgs sSame) (defBody sSame) (defScope sSame) .none kVSa dcSa pmSa anSa cdSa ctSa), slSa⟩)
    (cSa : PySem.W.codeIn K cdSa "_law_same" = true)
    (kSa : PySem.W.keepIn K (.ref fSa) = true)
    (aRi : PySem.W.nsIn K mainGlobals "_law_right" = some (some (.ref fRi)))
    (lRi : K.lookup fRi = some ⟨ocRi, odRi, .func (PySem.W.fnOf "_law_right" "_law_right" (defArgs sRight) (defBody sRight) (defScope sRight) .none kVRi dcRi pmRi anRi cdRi ctRi), slRi⟩)
    (cRi : PySem.W.codeIn K cdRi "_law_right" = true)
    (kRi : PySem.W.keepIn K (.ref fRi) = true)
    (aL : PySem.W.nsIn K mainGlobals "law" = some (some (.ref fL)))
    (lL : K.lookup fL = some ⟨ocL, odL, .func (PySem.W.fnOf "law" "law" (defArgs sLaw) (defBody sLaw) (defScope sLaw) .none kVL dcL pmL anL cdL ctL), slL⟩)
    (cL : PySem.W.codeIn K cdL "law" = true)
    (kL : PySem.W.keepIn K (.ref fL) = true)
    (z_len : PySem.W.nsIn K mainGlobals "len" = some none)
    (z_range : PySem.W.nsIn K mainGlobals "range" = some none)
    (z_isinstance : PySem.W.nsIn K mainGlobals "isinstance" = some none)
    (z_int : PySem.W.nsIn K mainGlobals "int" = some none)
    (z_bool : PySem.W.nsIn K mainGlobals "bool" = some none)
    (z_list : PySem.W.nsIn K mainGlobals "list" = some none)
    (z_dict : PySem.W.nsIn K mainGlobals "dict" = some none)
    (z_max : PySem.W.nsIn K mainGlobals "max" = some none)
    (z_min : PySem.W.nsIn K mainGlobals "min" = some none)
    (hn : PySem.W.specialIn K (.builtin "object.__class__") "__get__" = some (some (.builtin "getset_descriptor.__get__")))
    (ht : PySem.W.takesIn K (.builtin "object.__class__") = some true)
    (hcC : PySem.W.findIn K (.ref CC) "__class__" = some (some (.builtin "object.__class__")))
    (hmC : PySem.W.mroIn K CC (.type "object") = some true)
    (hcU : PySem.W.findIn K (.ref CU) "__class__" = some (some (.builtin "object.__class__")))
    (hmU : PySem.W.mroIn K CU (.type "object") = some true)
    (hkU : PySem.W.mroIn K CU (.ref CC) = some true)
    (hcA : PySem.W.findIn K (.ref CA) "__class__" = some (some (.builtin "object.__class__")))
    (hmA : PySem.W.mroIn K CA (.type "object") = some true)
    (hkA : PySem.W.mroIn K CA (.ref CC) = some true)
    (tyC : PySem.W.typeIn K (.ref CC) = some (.type "type"))
    (cmg : PySem.W.specialIn K (.ref CC) "__getattribute__" = some (some (.builtin "type.__getattribute__")))
    (cmr : PySem.W.readsIn K CC (.type "type") = true)
    (cmf : PySem.W.findCls K (.ref CC) (.type "type") "__init__" = some (.val (.ref fCI)))
    : ∃ fd : FuncData, (∀ (s : Shared) (v : Value), BindsTo s fd ⟨[v], []⟩ [("_law_script", v)]) ∧ ∀ base : Heap, K.In base → base.Ns mainGlobals mg → FnOk l.prog w K mg base CX0 13 fa fd ["_law_script"] (spLaw K) := by
  have e := hfa.symm.trans (PySem.W.mg_of X G aL)
  cases e
  have FNI := fun_mk (st := sNumI) lNI cNI kNI
  have bNI := FNI.binds (ps := ["self", "number"]) fun _ _ _ _ _ _ us hl => match us, hl with | [_, _], _ => rfl
  have FMI := fun_mk (st := sNamI) lMI cMI kMI
  have bMI := FMI.binds (ps := ["self", "name"]) fun _ _ _ _ _ _ us hl => match us, hl with | [_, _], _ => rfl
  have FTI := fun_mk (st := sTwoI) lTI cTI kTI
  have bTI := FTI.binds (ps := ["self", "one", "other"]) fun _ _ _ _ _ _ us hl => match us, hl with | [_, _, _], _ => rfl
  have FCI := fun_mk (st := sChaI) lCI cCI kCI
  have bCI := FCI.binds (ps := ["self", "name"]) fun _ _ _ _ _ _ us hl => match us, hl with | [_, _], _ => rfl
  have FUI := fun_mk (st := sPutI) lUI cUI kUI
  have bUI := FUI.binds (ps := ["self", "name", "one"]) fun _ _ _ _ _ _ us hl => match us, hl with | [_, _, _], _ => rfl
  have FAI := fun_mk (st := sAnyI) lAI cAI kAI
  have bAI := FAI.binds (ps := ["self", "name", "one", "other"]) fun _ _ _ _ _ _ us hl => match us, hl with | [_, _, _, _], _ => rfl
  have FNW := fun_mk (st := sNumW) lNW cNW kNW
  have bNW := FNW.binds (ps := ["self", "values"]) fun _ _ _ _ _ _ us hl => match us, hl with | [_, _], _ => rfl
  have FMW := fun_mk (st := sNamW) lMW cMW kMW
  have bMW := FMW.binds (ps := ["self", "values"]) fun _ _ _ _ _ _ us hl => match us, hl with | [_, _], _ => rfl
  have FPW := fun_mk (st := sPluW) lPW cPW kPW
  have bPW := FPW.binds (ps := ["self", "values"]) fun _ _ _ _ _ _ us hl => match us, hl with | [_, _], _ => rfl
  have FIW := fun_mk (st := sMinW) lIW cIW kIW
  have bIW := FIW.binds (ps := ["self", "values"]) fun _ _ _ _ _ _ us hl => match us, hl with | [_, _], _ => rfl
  have FXW := fun_mk (st := sTimW) lXW cXW kXW
  have bXW := FXW.binds (ps := ["self", "values"]) fun _ _ _ _ _ _ us hl => match us, hl with | [_, _], _ => rfl
  have FCC := fun_mk (st := sChaC) lCC cCC kCC
  have bCC := FCC.binds (ps := ["self", "values", "low", "high"]) fun _ _ _ _ _ _ us hl => match us, hl with | [_, _, _, _], _ => rfl
  have FUC := fun_mk (st := sPutC) lUC cUC kUC
  have bUC := FUC.binds (ps := ["self", "values", "low", "high"]) fun _ _ _ _ _ _ us hl => match us, hl with | [_, _, _, _], _ => rfl
  have FAC := fun_mk (st := sAnyC) lAC cAC kAC
  have bAC := FAC.binds (ps := ["self", "values", "low", "high"]) fun _ _ _ _ _ _ us hl => match us, hl with | [_, _, _, _], _ => rfl
  have FAt := fun_mk (st := sAt) lAt cAt kAt
  have bAt := FAt.binds (ps := ["_law_script", "_law_k"]) fun _ _ _ _ _ _ us hl => match us, hl with | [_, _], _ => rfl
  have FBe := fun_mk (st := sBegin) lBe cBe kBe
  have bBe := FBe.binds (ps := ["_law_cell"]) fun _ _ _ _ _ _ us hl => match us, hl with | [_], _ => rfl
  have FDr := fun_mk (st := sDraw) lDr cDr kDr
  have bDr := FDr.binds (ps := ["_law_state", "_law_many"]) fun _ _ _ _ _ _ us hl => match us, hl with | [_, _], _ => rfl
  have FNa := fun_mk (st := sNames) lNa cNa kNa
  have bNa := FNa.binds (ps := ["_law_cell", "_law_many"]) fun _ _ _ _ _ _ us hl => match us, hl with | [_, _], _ => rfl
  have FSu := fun_mk (st := sSum) lSu cSu kSu
  have bSu := FSu.binds (ps := ["_law_state", "_law_names_here", "_law_near", "_law_depth"]) fun _ _ _ _ _ _ us hl => match us, hl with | [_, _, _, _], _ => rfl
  have FWo := fun_mk (st := sWorth) lWo cWo kWo
  have bWo := FWo.binds (ps := ["_law_one", "_law_values"]) fun _ _ _ _ _ _ us hl => match us, hl with | [_, _], _ => rfl
  have FHa := fun_mk (st := sHand) lHa cHa kHa
  have bHa := FHa.binds (ps := ["_law_one"]) fun _ _ _ _ _ _ us hl => match us, hl with | [_], _ => rfl
  have FWh := fun_mk (st := sWhole) lWh cWh kWh
  have bWh := FWh.binds (ps := ["_law_found"]) fun _ _ _ _ _ _ us hl => match us, hl with | [_], _ => rfl
  have FSa := fun_mk (st := sSame) lSa cSa kSa
  have bSa := FSa.binds (ps := ["_law_found", "_law_due"]) fun _ _ _ _ _ _ us hl => match us, hl with | [_, _], _ => rfl
  have FRi := fun_mk (st := sRight) lRi cRi kRi
  have bRi := FRi.binds (ps := ["_law_change", "_law_name", "_law_values", "_law_low", "_law_high", "_law_due"]) fun _ _ _ _ _ _ us hl => match us, hl with | [_, _, _, _, _, _], _ => rfl
  have FL := fun_mk (st := sLaw) lL cL kL
  have T : Txt K mg (ckOf CN CM CP CI CX) (ccOf CC CU CA) fNI fMI fTI fCI fUI fAI fNW fMW fPW fIW fXW fCC fUC fAC fAt fBe fDr fNa fSu fWo fHa fWh fSa fRi _ _ _ _ _ _ _ _ _ _ _ _ _ _ _ _ _ _ _ _ _ _ _ _ :=
    { bl := ⟨PySem.W.mg_none_of X G z_len, PySem.W.mg_none_of X G z_range, PySem.W.mg_none_of X G z_isinstance, PySem.W.mg_none_of X G z_int, PySem.W.mg_none_of X G z_bool, PySem.W.mg_none_of X G z_list, PySem.W.mg_none_of X G z_dict, PySem.W.mg_none_of X G z_max, PySem.W.mg_none_of X G z_min⟩
      mkr :=
        { cls := ⟨fun k => match k with | .num => ⟨pgN, hdN, poN, saN⟩ | .nam => ⟨pgM, hdM, poM, saM⟩ | .op .plus => ⟨pgP, hdP, poP, saP⟩ | .op .minus => ⟨pgI, hdI, poI, saI⟩ | .op .times => ⟨pgX, hdX, poX, saX⟩, nN_number, nM_name, fun g => match g with | .plus => nP_one | .minus => nI_one | .times => nX_one, fun g => match g with | .plus => nP_other | .minus => nI_other | .times => nX_other⟩
          mkN := ⟨mkN, aNI, iNI, kcN⟩, mkM := ⟨mkM, aMI, iMI, kcM⟩
          mkT := fun g => match g with | .plus => ⟨mkP, aTI, iTI, kcP⟩ | .minus => ⟨mkI, aTII, iTI, kcI⟩ | .times => ⟨mkX, aTIX, iTI, kcX⟩
          gN := PySem.W.mg_of X G aN, gM := PySem.W.mg_of X G aM, gP := PySem.W.mg_of X G aP, gI := PySem.W.mg_of X G aI, gX := PySem.W.mg_of X G aX
          FN := FNI, FM := FMI, FT := FTI, bN := bNI, bM := bMI, bT := bTI }
      cc := ⟨fun k => match k with | .cha => ⟨pgC, hdC, poC, saC⟩ | .put => ⟨pgU, hdU, poU, saU⟩ | .any => ⟨pgA, hdA, poA, saA⟩, fun k => match k with | .cha => nC_name | .put => nU_name | .any => nA_name, nU_one, nA_one, nA_other⟩
      ins := ⟨fun k => match k with | .cha => hcC | .put => hcU | .any => hcA, hn, ht, fun k => match k with | .cha => hmC | .put => hmU | .any => hmA, fun k => match k with | .cha => kit_self | .put => kit_of hkU hmC tyC | .any => kit_of hkA hmC tyC⟩
      mkC := ⟨mkC, aCI, iCI, kcC⟩, mkU := ⟨mkU, aUI, iUI, kcU⟩, mkA := ⟨mkA, aAI, iAI, kcA⟩
      gC := PySem.W.mg_of X G aC, gU := PySem.W.mg_of X G aU, gA := PySem.W.mg_of X G aA
      cm := ⟨cmg, cmr, cmf, kCI⟩
      FCI := FCI, bCI := bCI, FUI := FUI, bUI := bUI, FAI := FAI, bAI := bAI, FNW := FNW, bNW := bNW, FMW := FMW, bMW := bMW, FPW := FPW, bPW := bPW, FIW := FIW, bIW := bIW, FXW := FXW, bXW := bXW, FCC := FCC, bCC := bCC, FUC := FUC, bUC := bUC, FAC := FAC, bAC := bAC, FAt := FAt, bAt := bAt, FBe := FBe, bBe := bBe, FDr := FDr, bDr := bDr, FNa := FNa, bNa := bNa, FSu := FSu, bSu := bSu, FWo := FWo, bWo := bWo, FHa := FHa, bHa := bHa, FWh := FWh, bWh := bWh, FSa := FSa, bSa := bSa, FRi := FRi, bRi := bRi
      gAt := PySem.W.mg_of X G aAt, gBe := PySem.W.mg_of X G aBe, gDr := PySem.W.mg_of X G aDr, gNa := PySem.W.mg_of X G aNa, gSu := PySem.W.mg_of X G aSu, gWo := PySem.W.mg_of X G aWo, gHa := PySem.W.mg_of X G aHa, gWh := PySem.W.mg_of X G aWh, gSa := PySem.W.mg_of X G aSa, gRi := PySem.W.mg_of X G aRi
      mNW := ⟨aNW, iNW, kNW⟩, mMW := ⟨aMW, iMW, kMW⟩, mPW := ⟨aPW, iPW, kPW⟩, mIW := ⟨aIW, iIW, kIW⟩, mXW := ⟨aXW, iXW, kXW⟩, mCC := ⟨aCC, iCC, kCC⟩, mUC := ⟨aUC, iUC, kUC⟩, mAC := ⟨aAC, iAC, kAC⟩ }
  exact ⟨PySem.W.fnOf "law" "law" (defArgs sLaw) (defBody sLaw) (defScope sLaw) .none kVL dcL pmL anL cdL ctL, fun s v => .of_eq rfl, fun base _ _ => ok_law T FL⟩
theorem walk {l : PySem.W.OpenLaw} {q : Program} {loose : List Str} {XP : (Str → Option Value) → Heap → Prop} {YP : World → Heap → Prop} {d : DefRec} {K : Params → PySem.W.Frag} (hn : l.most = some 63) (hdf : d.params.defaults = [])
    (hY : ∀ (w : World) (h : Heap), YP w h → (K w.params).In h)
    (F : ∀ (w : World) (mg : Str → Option Value) (fa : Addr) (h : Heap), (K w.params).In h → h.Ns mainGlobals mg → mg d.name = some (.ref fa) →
      ∃ fd : FuncData, (∀ (s : Shared) (u : Value), BindsTo s fd ⟨[u], []⟩ [("_law_script", u)]) ∧ ∀ base : Heap, (K w.params).In base → base.Ns mainGlobals mg → FnOk l.prog w (K w.params) mg base CX0 13 fa fd ["_law_script"] (spLaw (K w.params))) :
    PySem.W.WalkO q loose XP YP l.row.toRowW d [] (fun f vs => PySem.call f vs) :=
  L2.walk_of (n := 63) (k := 13) (x := "_law_script") (CX := fun _ => CX0) (sp := fun w => spLaw (K w.params)) hn (by decide) hdf ⟨rfl, by decide, by decide⟩ hY F (fun _ _ a ns hl _ hS => ⟨a, ns, rfl, hS, hl, fun _ => rfl⟩) fun _ _ _ _ _ z => z
end Nw
open PySem PySem.W PyProof.Rows
def PySem.W.Fast.tw8005264982286791403 : Unit := ()
def PySem.W.Fast.tw8482756467612510903 : Unit := ()
def PySem.W.Fast.tw11859583079803305203 : Unit := ()
def PySem.W.Fast.tw12204176765088600410 : Unit := ()
def PySem.W.Fast.tw1485742274098874447 : Unit := ()
def PySem.W.Fast.tw1105719228880788697 : Unit := ()
def PySem.W.Fast.tw15664740560315214737 : Unit := ()
def PySem.W.Fast.tw1784006672631524646 : Unit := ()
def PySem.W.Fast.tw15110982561853007778 : Unit := ()
def PySem.W.Fast.tw438570309616375425 : Unit := ()
def PySem.W.Fast.tw5929293580309379780 : Unit := ()
def PySem.W.Fast.tw1709581476841121017 : Unit := ()
set_option maxRecDepth 100000 in
set_option maxHeartbeats 0 in
theorem PySem.Challenge.cw_nearerwork_k10_choices_holds : PySem.Challenge.rw_nearerwork_k10_choices.Holds := by
  w_on; o_law; k_head; (case hw => w_witness2)
  k_fill
  refine Nw.walk (l := PySem.Challenge.rw_nearerwork_k10_choices) rfl rfl (fun w h Y => PySem.W.kIn_of Y) ?F
  case F =>
    intro w mg fa h KX G hmg
    refine' Nw.all_mk KX G hmg ?aN ?pgN ?hdN ?poN ?saN ?mkN ?kcN ?nN_number ?aM ?pgM ?hdM ?poM ?saM ?mkM ?kcM ?nM_name ?aP ?pgP ?hdP ?poP ?saP ?mkP ?kcP ?nP_one ?nP_other ?aI ?pgI ?hdI ?poI ?saI ?mkI ?kcI ?nI_one ?nI_other ?aX ?pgX ?hdX ?poX ?saX ?mkX ?kcX ?nX_one ?nX_other ?aC ?pgC ?hdC ?poC ?saC ?mkC ?kcC ?nC_name ?aU ?pgU ?hdU ?poU ?saU ?mkU ?kcU ?nU_name ?nU_one ?aA ?pgA ?hdA ?poA ?saA ?mkA ?kcA ?nA_name ?nA_one ?nA_other ?aNI ?iNI ?lNI ?cNI ?kNI ?aMI ?iMI ?lMI ?cMI ?kMI ?aTI ?aTII ?aTIX ?iTI ?lTI ?cTI ?kTI ?aCI ?iCI ?lCI ?cCI ?kCI ?aUI ?iUI ?lUI ?cUI ?kUI ?aAI ?iAI ?lAI ?cAI ?kAI ?aNW ?iNW ?lNW ?cNW ?kNW ?aMW ?iMW ?lMW ?cMW ?kMW ?aPW ?iPW ?lPW ?cPW ?kPW ?aIW ?iIW ?lIW ?cIW ?kIW ?aXW ?iXW ?lXW ?cXW ?kXW ?aCC ?iCC ?lCC ?cCC ?kCC ?aUC ?iUC ?lUC ?cUC ?kUC ?aAC ?iAC ?lAC ?cAC ?kAC ?aAt ?lAt ?cAt ?kAt ?aBe ?lBe ?cBe ?kBe ?aDr ?lDr ?cDr ?kDr ?aNa ?lNa ?cNa ?kNa ?aSu ?lSu ?cSu ?kSu ?aWo ?lWo ?cWo ?kWo ?aHa ?lHa ?cHa ?kHa ?aWh ?lWh ?cWh ?kWh ?aSa ?lSa ?cSa ?kSa ?aRi ?lRi ?cRi ?kRi ?aL ?lL ?cL ?kL ?z_len ?z_range ?z_isinstance ?z_int ?z_bool ?z_list ?z_dict ?z_max ?z_min ?hn ?ht ?hcC ?hmC ?hcU ?hmU ?hkU ?hcA ?hmA ?hkA ?tyC ?cmg ?cmr ?cmf
    (case aN => k_is)
    (case pgN => k_is)
    (case hdN => k_is)
    (case poN => k_is)
    (case saN => k_is)
    (case mkN => k_is)
    (case kcN => k_is)
    (case nN_number => k_is)
    (case aM => k_is)
    (case pgM => k_is)
    (case hdM => k_is)
    (case poM => k_is)
    (case saM => k_is)
    (case mkM => k_is)
    (case kcM => k_is)
    (case nM_name => k_is)
    (case aP => k_is)
    (case pgP => k_is)
    (case hdP => k_is)
    (case poP => k_is)
    (case saP => k_is)
    (case mkP => k_is)
    (case kcP => k_is)
    (case nP_one => k_is)
    (case nP_other => k_is)
    (case aI => k_is)
    (case pgI => k_is)
    (case hdI => k_is)
    (case poI => k_is)
    (case saI => k_is)
    (case mkI => k_is)
    (case kcI => k_is)
    (case nI_one => k_is)
    (case nI_other => k_is)
    (case aX => k_is)
    (case pgX => k_is)
    (case hdX => k_is)
    (case poX => k_is)
    (case saX => k_is)
    (case mkX => k_is)
    (case kcX => k_is)
    (case nX_one => k_is)
    (case nX_other => k_is)
    (case aC => k_is)
    (case pgC => k_is)
    (case hdC => k_is)
    (case poC => k_is)
    (case saC => k_is)
    (case mkC => k_is)
    (case kcC => k_is)
    (case nC_name => k_is)
    (case aU => k_is)
    (case pgU => k_is)
    (case hdU => k_is)
    (case poU => k_is)
    (case saU => k_is)
    (case mkU => k_is)
    (case kcU => k_is)
    (case nU_name => k_is)
    (case nU_one => k_is)
    (case aA => k_is)
    (case pgA => k_is)
    (case hdA => k_is)
    (case poA => k_is)
    (case saA => k_is)
    (case mkA => k_is)
    (case kcA => k_is)
    (case nA_name => k_is)
    (case nA_one => k_is)
    (case nA_other => k_is)
    (case aNI => k_is)
    (case iNI => k_is)
    (case lNI => k_is)
    (case cNI => k_is)
    (case kNI => k_is)
    (case aMI => k_is)
    (case iMI => k_is)
    (case lMI => k_is)
    (case cMI => k_is)
    (case kMI => k_is)
    (case aTI => k_is)
    (case aTII => k_is)
    (case aTIX => k_is)
    (case iTI => k_is)
    (case lTI => k_is)
    (case cTI => k_is)
    (case kTI => k_is)
    (case aCI => k_is)
    (case iCI => k_is)
    (case lCI => k_is)
    (case cCI => k_is)
    (case kCI => k_is)
    (case aUI => k_is)
    (case iUI => k_is)
    (case lUI => k_is)
    (case cUI => k_is)
    (case kUI => k_is)
    (case aAI => k_is)
    (case iAI => k_is)
    (case lAI => k_is)
    (case cAI => k_is)
    (case kAI => k_is)
    (case aNW => k_is)
    (case iNW => k_is)
    (case lNW => k_is)
    (case cNW => k_is)
    (case kNW => k_is)
    (case aMW => k_is)
    (case iMW => k_is)
    (case lMW => k_is)
    (case cMW => k_is)
    (case kMW => k_is)
    (case aPW => k_is)
    (case iPW => k_is)
    (case lPW => k_is)
    (case cPW => k_is)
    (case kPW => k_is)
    (case aIW => k_is)
    (case iIW => k_is)
    (case lIW => k_is)
    (case cIW => k_is)
    (case kIW => k_is)
    (case aXW => k_is)
    (case iXW => k_is)
    (case lXW => k_is)
    (case cXW => k_is)
    (case kXW => k_is)
    (case aCC => k_is)
    (case iCC => k_is)
    (case lCC => k_is)
    (case cCC => k_is)
    (case kCC => k_is)
    (case aUC => k_is)
    (case iUC => k_is)
    (case lUC => k_is)
    (case cUC => k_is)
    (case kUC => k_is)
    (case aAC => k_is)
    (case iAC => k_is)
    (case lAC => k_is)
    (case cAC => k_is)
    (case kAC => k_is)
    (case aAt => k_is)
    (case lAt => k_is)
    (case cAt => k_is)
    (case kAt => k_is)
    (case aBe => k_is)
    (case lBe => k_is)
    (case cBe => k_is)
    (case kBe => k_is)
    (case aDr => k_is)
    (case lDr => k_is)
    (case cDr => k_is)
    (case kDr => k_is)
    (case aNa => k_is)
    (case lNa => k_is)
    (case cNa => k_is)
    (case kNa => k_is)
    (case aSu => k_is)
    (case lSu => k_is)
    (case cSu => k_is)
    (case kSu => k_is)
    (case aWo => k_is)
    (case lWo => k_is)
    (case cWo => k_is)
    (case kWo => k_is)
    (case aHa => k_is)
    (case lHa => k_is)
    (case cHa => k_is)
    (case kHa => k_is)
    (case aWh => k_is)
    (case lWh => k_is)
    (case cWh => k_is)
    (case kWh => k_is)
    (case aSa => k_is)
    (case lSa => k_is)
    (case cSa => k_is)
    (case kSa => k_is)
    (case aRi => k_is)
    (case lRi => k_is)
    (case cRi => k_is)
    (case kRi => k_is)
    (case aL => k_is)
    (case lL => k_is)
    (case cL => k_is)
    (case kL => k_is)
    (case z_len => k_is)
    (case z_range => k_is)
    (case z_isinstance => k_is)
    (case z_int => k_is)
    (case z_bool => k_is)
    (case z_list => k_is)
    (case z_dict => k_is)
    (case z_max => k_is)
    (case z_min => k_is)
    (case hn => k_is)
    (case ht => k_is)
    (case hcC => k_is)
    (case hmC => k_is)
    (case hcU => k_is)
    (case hmU => k_is)
    (case hkU => k_is)
    (case hcA => k_is)
    (case hmA => k_is)
    (case hkA => k_is)
    (case tyC => k_is)
    (case cmg => k_is)
    (case cmr => k_is)
    (case cmf => k_is)
