import PyProof.Rows.All
import Wide.All
import OpenK.AllK
import Wide.FinOn
import Lean
import PyProof.EqAt
import PyProof.EqKinds
import PyProof.TupleCall
import PyProof.NeKinds
import KE.IntBitsLaws
import PyProof.ZipIter
import PyProof.StrCalls2
import PyProof.Rows.Range3
import PyProof.ListRange
import PyProof.LongRange
import KE.LcSums
import PySem.Challenge.RW_nearerwork_k13_first_rooms_and_stops
set_option Elab.async false
set_option linter.all false
set_option maxRecDepth 100000
/-! THE HAND LAYER, for ints, bools, texts, own classes, LISTS and tuples (index, slices, in, append, pop ..), calls, loops. Paste it whole ahead of your own text; what your proof does not reach may be deleted. -/
namespace L2
open PySem PySem.Spec PyProof.Rows

/-- a key: an int or a str -/
abbrev Key := Sum Int Str
def keyIs : Key → Value → Bool
  | .inl k, v => Value.isInt k v
  | .inr x, v => Value.isStrOf x v
def keyH (w : World) : Key → Int
  | .inl k => hashInt k
  | .inr x => hashStr w x
theorem keyIs_shape : ∀ {k : Key} {v : Value}, keyIs k v = true → (∃ i t, k = Sum.inl i ∧ v = Value.int i t) ∨ (∃ x t, k = Sum.inr x ∧ v = Value.str x t)
  | .inl i, v, h => by
    obtain ⟨t, e⟩ := Value.isInt_shape (k := i) (v := v) h
    exact .inl ⟨i, t, rfl, e⟩
  | .inr x, v, h => by
    obtain ⟨t, e⟩ := Value.isStrOf_shape (x := x) (v := v) h
    exact .inr ⟨x, t, rfl, e⟩
theorem keyIs_int (i : Int) (t : Tok) : keyIs (.inl i) (.int i t) = true := by simp [keyIs, Value.isInt]
theorem keyIs_str (x : Str) (t : Tok) : keyIs (.inr x) (.str x t) = true := by simp [keyIs, Value.isStrOf]
theorem key_ll (a b : Int) : decide ((Sum.inl a : Key) = Sum.inl b) = (a == b) := by
  by_cases e : a = b
  · subst e; simp
  · have h : ¬ (Sum.inl a : Key) = Sum.inl b := fun q => e (Sum.inl.inj q)
    rw [decide_eq_false h]
    exact (beq_eq_false_iff_ne.mpr e).symm
theorem key_rr (a b : Str) : decide ((Sum.inr a : Key) = Sum.inr b) = decide (a = b) := by
  by_cases e : a = b
  · subst e; simp
  · have h : ¬ (Sum.inr a : Key) = Sum.inr b := fun q => e (Sum.inr.inj q)
    rw [decide_eq_false h, decide_eq_false e]
theorem key_lr (a : Int) (b : Str) : decide ((Sum.inl a : Key) = Sum.inr b) = false := decide_eq_false (fun q => nomatch q)
theorem key_rl (a : Str) (b : Int) : decide ((Sum.inr a : Key) = Sum.inl b) = false := decide_eq_false (fun q => nomatch q)

def mixKind (prog : Program) (w : World) : PySem.KeyKind prog w Key where
  is := keyIs
  hash := keyH w
  inj := fun v a b ha hb => by
    rcases keyIs_shape ha with ⟨i, t, rfl, rfl⟩ | ⟨x, t, rfl, rfl⟩
    · rcases keyIs_shape hb with ⟨j, u, rfl, e⟩ | ⟨y, u, rfl, e⟩
      · injection e with e1 _; rw [e1]
      · exact nomatch e
    · rcases keyIs_shape hb with ⟨j, u, rfl, e⟩ | ⟨y, u, rfl, e⟩
      · exact nomatch e
      · injection e with e1 _; rw [e1]
  byValue := fun k v h => by
    rcases keyIs_shape h with ⟨i, t, rfl, rfl⟩ | ⟨x, t, rfl, rfl⟩ <;> rfl
  pyHash := fun hv h => by
    rcases keyIs_shape hv with ⟨i, t, rfl, rfl⟩ | ⟨x, t, rfl, rfl⟩
    · exact wpAny_pyHash_int h
    · exact wpAny_pyHash_str h
  eqBool := fun hu hv h => by
    rcases keyIs_shape hu with ⟨i, t, rfl, rfl⟩ | ⟨x, t, rfl, rfl⟩
    · rcases keyIs_shape hv with ⟨j, u, rfl, rfl⟩ | ⟨y, u, rfl, rfl⟩
      · rw [key_ll] at h; exact wpAny_eqBool_int h
      · rw [key_lr] at h; exact SeqAt.EqAt.int_str i t y u _ _ _ _ h
    · rcases keyIs_shape hv with ⟨j, u, rfl, rfl⟩ | ⟨y, u, rfl, rfl⟩
      · rw [key_rl] at h; exact SeqAt.EqAt.str_int x t j u _ _ _ _ h
      · rw [key_rr] at h; exact wpAny_eqBool_str h
  «strs» := fun k x t v h => by
    rcases keyIs_shape h with ⟨i, u, rfl, e⟩ | ⟨y, u, rfl, e⟩
    · exact nomatch e
    · injection e with e1 _
      subst e1
      cases v <;> rfl

theorem mixKind_int (prog : Program) (w : World) (i : Int) (t : Tok) : (mixKind prog w).is (.inl i) (.int i t) = true := keyIs_int i t
theorem mixKind_str (prog : Program) (w : World) (x : Str) (t : Tok) : (mixKind prog w).is (.inr x) (.str x t) = true := keyIs_str x t
end L2

namespace L2
open PySem PySem.Spec PyProof.Rows

/-- a value, without the heap -/
inductive V where
  | non | bl (b : Bool) | int (i : Int) | str (x : Str) | byt (b : Array UInt8) | flt (b : UInt64) | ref (a : Addr) | ty (n : String)
  deriving DecidableEq

def RelV : V → Value → Prop
  | .non, u => u = Value.none
  | .bl b, u => u = Value.bool b
  | .int i, u => ∃ t, u = Value.int i t
  | .str x, u => ∃ t, u = Value.str x t
  | .byt b, u => ∃ t, u = Value.bytes b t
  | .flt b, u => ∃ t, u = Value.float b t
  | .ref a, u => u = Value.ref a
  | .ty n, u => u = Value.type n

abbrev Vals : List V → List Value → Prop := Paired RelV
theorem Vals.length {xs : List V} {us : List Value} (r : Vals xs us) : xs.length = us.length := Paired.length r
theorem Vals.get : ∀ {xs : List V} {us : List Value} {i : Nat} {x : V}, Vals xs us → xs[i]? = some x → ∃ u, us[i]? = some u ∧ RelV x u
  | _, _, _, _, .nil, e => by simp at e
  | _, _, 0, _, .cons r _, e => by simp at e; subst e; exact ⟨_, rfl, r⟩
  | _, _, i + 1, x, .cons _ t, e => by
    obtain ⟨u, h1, h2⟩ := Vals.get (i := i) (x := x) t (by simpa using e)
    exact ⟨u, by simpa using h1, h2⟩
theorem Vals.set {x : V} {u : Value} (r : RelV x u) : ∀ {xs : List V} {us : List Value} (i : Nat), Vals xs us → Vals (xs.set i x) (us.set i u)
  | _, _, _, .nil => .nil
  | _, _, 0, .cons _ t => .cons r t
  | _, _, i + 1, .cons q t => .cons q (Vals.set r i t)
theorem Vals.append : ∀ {xs ys : List V} {us ws : List Value}, Vals xs us → Vals ys ws → Vals (xs ++ ys) (us ++ ws)
  | _, _, _, _, .nil, s => s
  | _, _, _, _, .cons r t, s => .cons r (Vals.append t s)
theorem Vals.take : ∀ {xs : List V} {us : List Value} (n : Nat), Vals xs us → Vals (xs.take n) (us.take n)
  | _, _, 0, _ => .nil
  | _, _, _ + 1, .nil => .nil
  | _, _, n + 1, .cons r t => .cons r (Vals.take n t)
theorem Vals.drop : ∀ {xs : List V} {us : List Value} (n : Nat), Vals xs us → Vals (xs.drop n) (us.drop n)
  | _, _, 0, r => r
  | _, _, _ + 1, .nil => .nil
  | _, _, n + 1, .cons _ t => Vals.drop n t
def RelO : Option V → Option Value → Prop
  | some v, some u => RelV v u
  | none, none => True
  | _, _ => False
def KV {κ : Type} : List (κ × V) → List (κ × Value) → Prop := Paired fun (p : κ × V) (q : κ × Value) => p.1 = q.1 ∧ RelV p.2 q.2

/-- a key of a dict (00_mix): an int or a text -/
def kV : Key → V
  | .inl i => .int i
  | .inr x => .str x

/-- what stands at a tracked address -/
inductive HO where
  /-- a list -/
  | lst (xs : List V)
  /-- a tuple (never changes) -/
  | tup (xs : List V)
  /-- a dict whose keys are ints and texts; one whose keys are tuples of ints and texts (the empty one is both) -/
  | dK (kvs : List (Key × V)) | dT (kvs : List (List Key × V))
  /-- a set of ints: its members, its size -/
  | set (S : Int → Bool) (n : Nat)
  /-- an instance of the class at C, its dict at dx, its attributes -/
  | ins (C dx : Addr) (fs : List (Str × V))
  /-- the dict of the instance at x -/
  | own (x : Addr)
  /-- the dict of an exception -/
  | xd (fs : List (Str × V))
  /-- a bound method, f of x -/
  | met (f x : Addr)
  /-- a range object lo, lo + 1, .. below hi -/
  | rng (lo hi : Int)
  /-- a thing that is known to the object (the script; a dict while a loop walks it): read, never written while it is so -/
  | frz (o : Obj) (u : HO)
  /-- a code object's table -/
  | tbl (ps : Array Value)
  /-- any other thing, by what is true of its one object (a def of one's own: SetO a S n := HO.ext fun h => ..) -/
  | ext (φ : Heap → Prop)

abbrev Hp := Addr → Option HO
def upd (H : Hp) (a : Addr) (o : HO) : Hp := fun b => if b = a then some o else H b
theorem upd_same {H : Hp} {a : Addr} {o : HO} : upd H a o a = some o := by unfold upd; rw [if_pos rfl]
theorem upd_ne {H : Hp} {a b : Addr} {o : HO} (h : b ≠ a) : upd H a o b = H b := by unfold upd; rw [if_neg h]
theorem upd_upd {H : Hp} {a : Addr} {o u : HO} : upd (upd H a o) a u = upd H a u := by
  funext b; unfold upd; split <;> rfl
/-- two objects of different content stand apart -/
theorem ne_of {H : Hp} {a b : Addr} {o u : HO} (h : H a = some o) (h' : H b = some u) (d : o ≠ u) : a ≠ b := by
  intro e; subst e; rw [h] at h'; exact d (Option.some.inj h')
theorem ne_of_none {H : Hp} {a b : Addr} {o : HO} (h : H a = some o) (h' : H b = none) : a ≠ b := by
  intro e; subst e; rw [h] at h'; cases h'

section
variable (P : Program) (w : World)
def ObjOk (H : Hp) (h : Heap) (a : Addr) : HO → Prop
  | .lst xs => xs.length ≤ sizeLine ∧ ∃ (its : List Value) (n : Nat), Vals xs its ∧ h.get? a = some { cls := .type "list", data := .seq its.toArray n }
  | .tup xs => xs.length ≤ sizeLine ∧ ∃ its : List Value, Vals xs its ∧ IsTup h a its.toArray
  | .dK kvs => kvs.length ≤ sizeLine ∧ (a == sysModules) = false ∧ ∃ vs, KV kvs vs ∧ h.DictOf (mixKind P w) a vs
  | .dT kvs => kvs.length ≤ sizeLine ∧ (a == sysModules) = false ∧ ∃ xs : List (List Key × Addr × Value),
      Paired (fun (p : List Key × V) (q : List Key × Addr × Value) => p.1 = q.1 ∧ H q.2.1 = some (.tup (p.1.map kV)) ∧ RelV p.2 q.2.2) kvs xs ∧
      ∃ o es ep, h.get? a = some o ∧ o.ExactDict ∧ o.data = .dict es ep ∧ es.toList = xs.map (entryOfKey (tupleKind (mixKind P w))) ∧ (xs.map (·.1)).Nodup
  | .set S n => h.SetOf (intKind P w) a S n
  | .ins C dx fs => H dx = some (.own a) ∧ fs.length ≤ 1000 ∧ dx ≠ a ∧ h.get? a = some (PySem.W.instObj C dx) ∧
      ∃ mA, h.Ns1 dx mA ∧ (∀ f, RelO (fs.lookup f) (mA f)) ∧ PySem.Within mA (fs.map (·.1))
  | .own _ => ∃ o, h.get? a = some o
  | .xd fs => ∃ mA, h.Ns1 a mA ∧ ∀ f, RelO (fs.lookup f) (mA f)
  | .rng lo hi => ∃ t u v, h.get? a = some { cls := .type "range", data := .fields #[.int lo t, .int hi u, .int 1 v] }
  | .frz o u => h.get? a = some o ∧ ObjOk H h a u
  | .tbl ps => h.get? a = some { cls := .none, data := .fields ps }
  | .met f x => h.get? a = some (PySem.W.methodObj (.ref f) (.ref x))
  | .ext φ => φ h ∧ (∃ o, h.get? a = some o) ∧ ∀ h1 h2 : Heap, φ h1 → (∀ o, h1.get? a = some o → h2.get? a = some o) → φ h2
/-- the abstract heap is held -/
def HOk (H : Hp) (h : Heap) : Prop := ∀ a o, H a = some o → ObjOk P w H h a o
end

section
variable {P : Program} {w : World} {H H' : Hp} {h h' : Heap} {a : Addr} {o : HO}
theorem ObjOk.lt (x : ObjOk P w H h a o) : a < h.objs.size := by
  cases o with
  | lst xs => obtain ⟨_, _, _, _, e⟩ := x; exact Heap.lt_size e
  | tup xs => obtain ⟨_, _, _, p⟩ := x; exact p.lt
  | dK kvs => obtain ⟨_, _, _, _, o, _, _, e, _⟩ := x; exact Heap.lt_size e
  | dT kvs => obtain ⟨_, _, _, _, o, _, _, e, _⟩ := x; exact Heap.lt_size e
  | set S n => obtain ⟨o, _, _, _, e, _⟩ := x; exact Heap.lt_size e
  | ins C dx fs => obtain ⟨_, _, _, e, _⟩ := x; exact Heap.lt_size e
  | own y => obtain ⟨_, e⟩ := x; exact Heap.lt_size e
  | xd fs => obtain ⟨_, ⟨_, _, _, e, _⟩, _⟩ := x; exact Heap.lt_size e
  | rng lo hi => obtain ⟨_, _, _, e⟩ := x; exact Heap.lt_size e
  | frz ob u => obtain ⟨e, _⟩ := x; exact Heap.lt_size e
  | tbl ps => exact Heap.lt_size (show h.get? a = some _ from x)
  | met f y => exact Heap.lt_size (show h.get? a = some _ from x)
  | ext φ => obtain ⟨_, ⟨_, e⟩, _⟩ := x; exact Heap.lt_size e
theorem Paired.mapP {α β : Type} {F G : α → β → Prop} : ∀ {l₁ : List α} {l₂ : List β}, Paired F l₁ l₂ → (∀ a b, F a b → G a b) → Paired G l₁ l₂
  | _, _, .nil, _ => .nil
  | _, _, .cons r t, f => .cons (f _ _ r) (Paired.mapP t f)
/-- what an object's description leans on: its own object, its own dict, the tuples -/
theorem ObjOk.stay (x : ObjOk P w H h a o) (k : ∀ b u, (b = a ∨ H b = some (.own a)) → h.get? b = some u → h'.get? b = some u)
    (ho : ∀ b, H b = some (.own a) → H' b = some (.own a)) (ht : ∀ b xs, H b = some (.tup xs) → H' b = some (.tup xs)) : ObjOk P w H' h' a o := by
  induction o with
  | lst xs => obtain ⟨z, its, n, r, e⟩ := x; exact ⟨z, its, n, r, k _ _ (.inl rfl) e⟩
  | tup xs => obtain ⟨z, its, r, ob, e, c⟩ := x; exact ⟨z, its, r, ob, k _ _ (.inl rfl) e, c⟩
  | dK kvs => obtain ⟨z, y, vs, r, ob, es, ep, e, c⟩ := x; exact ⟨z, y, vs, r, ob, es, ep, k _ _ (.inl rfl) e, c⟩
  | dT kvs =>
    obtain ⟨z, y, xs, r, ob, es, ep, e, c⟩ := x
    exact ⟨z, y, xs, Paired.mapP r fun p q z => ⟨z.1, ht _ _ z.2.1, z.2.2⟩, ob, es, ep, k _ _ (.inl rfl) e, c⟩
  | set S n => obtain ⟨ob, es, ep, t, e, c⟩ := x; exact ⟨ob, es, ep, t, k _ _ (.inl rfl) e, c⟩
  | ins C dx fs =>
    obtain ⟨d, z, ne, e, mA, ⟨od, es, ep, e2, c⟩, r⟩ := x
    exact ⟨ho _ d, z, ne, k _ _ (.inl rfl) e, mA, ⟨od, es, ep, k _ _ (.inr d) e2, c⟩, r⟩
  | own y => obtain ⟨ob, e⟩ := x; exact ⟨ob, k _ _ (.inl rfl) e⟩
  | xd fs => obtain ⟨mA, ⟨od, es, ep, e, c⟩, r⟩ := x; exact ⟨mA, ⟨od, es, ep, k _ _ (.inl rfl) e, c⟩, r⟩
  | rng lo hi => obtain ⟨t, u, v, e⟩ := x; exact ⟨t, u, v, k _ _ (.inl rfl) e⟩
  | frz ob u ih => obtain ⟨e, q⟩ := x; exact ⟨k _ _ (.inl rfl) e, ih q⟩
  | tbl ps =>
    have e : h.get? a = some { cls := .none, data := .fields ps } := x
    show h'.get? a = some { cls := .none, data := .fields ps }
    exact k a _ (.inl rfl) e
  | met f y =>
    have e : h.get? a = some (PySem.W.methodObj (.ref f) (.ref y)) := x
    show h'.get? a = some (PySem.W.methodObj (.ref f) (.ref y))
    exact k a _ (.inl rfl) e
  | ext φ => obtain ⟨p, ⟨o, e⟩, st⟩ := x; exact ⟨st _ _ p fun o q => k _ _ (.inl rfl) q, ⟨o, k _ _ (.inl rfl) e⟩, st⟩
theorem HOk.lt (x : HOk P w H h) (e : H a = some o) : a < h.objs.size := (x a o e).lt
theorem HOk.fresh (x : HOk P w H h) (e : h.objs.size ≤ a) : H a = none := by
  cases q : H a with
  | none => rfl
  | some u => exact absurd (Nat.lt_of_lt_of_le (x.lt q) e) (Nat.lt_irrefl _)
/-- every object of the heap is kept -/
theorem HOk.kept (x : HOk P w H h) (k : ∀ b u, h.get? b = some u → h'.get? b = some u) : HOk P w H h' := fun a o e =>
  (x a o e).stay (fun b u _ q => k b u q) (fun _ q => q) fun _ _ q => q
/-- a new object is laid and tracked -/
theorem HOk.laid (x : HOk P w H h) (k : ∀ b u, h.get? b = some u → h'.get? b = some u) (hp : h.objs.size ≤ a) (new : ObjOk P w (upd H a o) h' a o) : HOk P w (upd H a o) h' := fun b u e => by
  have hn := x.fresh hp
  by_cases hb : b = a
  · subst hb; rw [upd_same] at e; cases e; exact new
  · rw [upd_ne hb] at e
    exact (x b u e).stay (fun c v _ q => k c v q) (fun c q => by rw [upd_ne (ne_of_none q hn)]; exact q) fun c xs q => by rw [upd_ne (ne_of_none q hn)]; exact q
end

/-- what may be read as u: it is u, or a known u -/
def Rd (H : Hp) (a : Addr) (u : HO) : Prop := H a = some u ∨ ∃ o, H a = some (.frz o u)
theorem Rd.of {H : Hp} {a : Addr} {u : HO} (h : H a = some u) : Rd H a u := .inl h
theorem Rd.ok {P : Program} {w : World} {H : Hp} {h : Heap} {a : Addr} {u : HO} (r : Rd H a u) (x : HOk P w H h) : ObjOk P w H h a u := by
  rcases r with r | ⟨o, r⟩
  · exact x a u r
  · obtain ⟨_, q⟩ := x a _ r
    exact q
/-- what may be written -/
def Mut : Option HO → Prop
  | some (.lst _) => True
  | some (.dK _) => True
  | some (.dT _) => True
  | some (.set _ _) => True
  | some (.ins _ _ _) => True
  | some (.ext _) => True
  | _ => False
section
variable {P : Program} {w : World} {H : Hp} {h h' : Heap} {x e : Addr} {o' : HO}
/-- the object at e is changed: x itself, or the dict of the instance x -/
theorem HOk.write (ok : HOk P w H h) (mu : Mut (H x)) (he : e = x ∨ H e = some (.own x)) (k : ∀ b u, b ≠ e → h.get? b = some u → h'.get? b = some u) (heo : ∃ u, h'.get? e = some u)
    (new : ObjOk P w (upd H x o') h' x o') : HOk P w (upd H x o') h' := fun b u q => by
  have nown : ∀ c y, H c = some (.own y) → c ≠ x := fun c y r z => by subst z; rw [r] at mu; exact mu
  have ntup : ∀ c xs, H c = some (.tup xs) → c ≠ x := fun c xs r z => by subst z; rw [r] at mu; exact mu
  by_cases hb : b = x
  · subst hb; rw [upd_same] at q; cases q; exact new
  · rw [upd_ne hb] at q
    by_cases hbe : b = e
    · have q' : H b = some (.own x) := by
        rcases he with z | z
        · exact absurd (hbe.trans z) hb
        · rw [hbe]; exact z
      rw [q] at q'; cases q'
      obtain ⟨v, hv⟩ := heo
      exact ⟨v, by rw [hbe]; exact hv⟩
    · refine (ok b u q).stay (fun c v hc r => k c v ?_ r) (fun c r => by rw [upd_ne (nown c b r)]; exact r) fun c xs r => by rw [upd_ne (ntup c xs r)]; exact r
      rcases hc with rfl | hc
      · exact hbe
      · rintro rfl
        rcases he with z | z
        · exact nown c b hc z
        · rw [hc] at z; cases z; exact hb rfl
end

/-! ### kept unless tracked; of the frames at fs (the callers') the slots may change (an exception that passes writes there); of the records at ex (iterators) nothing is said -/
structure Un (fs ex : List Addr) (H H' : Hp) (h h' : Heap) : Prop where
  keep : ∀ b o, h.get? b = some o → H b = none → b ∉ fs → b ∉ ex → h'.get? b = some o
  slot : ∀ b o, h.get? b = some o → H b = none → b ∈ fs → b ∉ ex → ∃ sl, h'.get? b = some { o with slots := sl }
  free : ∀ b o, h.get? b = some o → H b = none → b ∉ ex → H' b = none
  there : ∀ b o, h.get? b = some o → b ∉ ex → ∃ o', h'.get? b = some o'
  tups : ∀ b xs, H b = some (.tup xs) → H' b = some (.tup xs)
  frzs : ∀ b o u, H b = some (.frz o u) → H' b = some (.frz o u)
  tbls : ∀ b ps, H b = some (.tbl ps) → ∃ more, H' b = some (.tbl (ps ++ more))
section
variable {fs fs' ex ex' : List Addr} {H H1 H2 : Hp} {h h1 h2 h' : Heap} {a x e : Addr} {o : HO}
theorem Un.any (u : Un fs ex H H1 h h1) {b : Addr} {ob : Obj} (q : h.get? b = some ob) (n : H b = none) (hx : b ∉ ex) : ∃ sl, h1.get? b = some { ob with slots := sl } := by
  by_cases hb : b ∈ fs
  · exact u.slot b ob q n hb hx
  · exact ⟨ob.slots, u.keep b ob q n hb hx⟩
theorem Un.kept (k : ∀ b u, h.get? b = some u → h'.get? b = some u) : Un fs ex H H h h' :=
  ⟨fun b ob q _ _ _ => k b ob q, fun b ob q _ _ _ => ⟨ob.slots, k b ob q⟩, fun _ _ _ n _ => n, fun b ob q _ => ⟨ob, k b ob q⟩, fun _ _ q => q, fun _ _ _ q => q, fun _ ps q => ⟨#[], by rw [q]; simp⟩⟩
theorem Un.refl : Un fs ex H H h h := Un.kept fun _ _ q => q
theorem Un.laid (k : ∀ b u, h.get? b = some u → h'.get? b = some u) (hp : h.objs.size ≤ a) (hn : H a = none) : Un fs ex H (upd H a o) h h' where
  keep := fun b u q _ _ _ => k b u q
  slot := fun b u q _ _ _ => ⟨u.slots, k b u q⟩
  free := fun b u q n _ => by rw [upd_ne (Nat.ne_of_lt (Nat.lt_of_lt_of_le (Heap.lt_size q) hp))]; exact n
  there := fun b u q _ => ⟨u, k b u q⟩
  tups := fun b xs q => by rw [upd_ne (ne_of_none q hn)]; exact q
  frzs := fun b u xs q => by rw [upd_ne (ne_of_none q hn)]; exact q
  tbls := fun b ps q => ⟨#[], by rw [upd_ne (ne_of_none q hn), q]; simp⟩
theorem Un.write (mu : Mut (H x)) (he : e = x ∨ H e = some (.own x)) (k : ∀ b u, b ≠ e → h.get? b = some u → h'.get? b = some u) (heo : ∃ u, h'.get? e = some u) : Un fs ex H (upd H x o) h h' := by
  have hx : ∀ b, H b = none → b ≠ x := fun b n z => by subst z; rw [n] at mu; exact mu
  have hb : ∀ b, H b = none → b ≠ e := fun b n z => by
    subst z
    rcases he with r | r
    · exact hx b n r
    · rw [n] at r; cases r
  have hm : ∀ b u, H b = some u → ¬ Mut (some u) → b ≠ x := fun b u q nm z => by subst z; rw [q] at mu; exact nm mu
  refine ⟨fun b u q n _ _ => k b u (hb b n) q, fun b u q n _ _ => ⟨u.slots, k b u (hb b n) q⟩, fun b u q n _ => by rw [upd_ne (hx b n)]; exact n, fun b u q _ => ?_,
    fun b xs q => by rw [upd_ne (hm b _ q fun z => z)]; exact q, fun b u xs q => by rw [upd_ne (hm b _ q fun z => z)]; exact q, fun b ps q => ⟨#[], by rw [upd_ne (hm b _ q fun z => z), q]; simp⟩⟩
  by_cases hbe : b = e
  · subst hbe; exact heo
  · exact ⟨u, k b u hbe q⟩
end

/-! ### the heap without what is tracked -/
def trk (h : Heap) (H : Hp) : List Addr := (List.range h.objs.size).filter fun a => (H a).isSome
def hidT (h : Heap) (H : Hp) : Heap := PySem.W.hideAll h (trk h H)
theorem hidT_size (h : Heap) (H : Hp) : (hidT h H).objs.size = h.objs.size := PySem.W.hideAll_size _ _
theorem hidT_get {h : Heap} {H : Hp} {b : Addr} {o : Obj} (e : h.get? b = some o) (n : H b = none) : (hidT h H).get? b = some o :=
  PySem.W.hideAll_get _ e fun hm => by
    have q : (H b).isSome = true := (List.mem_filter.mp hm).2
    rw [n] at q; simp at q
theorem of_hidT {h : Heap} {H : Hp} {b : Addr} {o : Obj} (e : (hidT h H).get? b = some o) : h.get? b = some o ∧ H b = none := by
  have e' : h.get? b = some o := PySem.W.of_hideAll (trk h H) e
  refine ⟨e', ?_⟩
  cases q : H b with
  | none => rfl
  | some x =>
    have hm : b ∈ trk h H := List.mem_filter.mpr ⟨List.mem_range.mpr (Heap.lt_size e'), by simp [q]⟩
    have z : (hidT h H).get? b = none := PySem.W.hideAll_none (trk h H) hm
    rw [z] at e; cases e

/-! ### OpenK's ledger, filled with every new object but one -/
end L2

namespace L2
open PySem PySem.Spec PyProof.Rows

/-- the module's facts, over the base: the heap at the law's entry without what is tracked there -/
structure Mod (K : PySem.W.Frag) (mg : Str → Option Value) (base : Heap) : Prop where
  kin : K.In base
  glob : base.Ns mainGlobals mg
  blt : ∃ mb, base.Ns builtinsNs mb ∧ ∀ x : Str, x ≠ "__name__" → mb x = bootBuiltins x
  nolimit : base.NoLimit

/-- the context: a def's body (or a comprehension's block) running. base: fixed through the whole law; s₀, H₀: the entry; outer: the frames whose slots others may change (a def's callers); stack: all frames that run;
   ex: iterators that were made ahead of the entry and are walked here (a comprehension's); fn: the names whose cells were made at the entry (a def: all; a comprehension's block: its own); calm: not within an except suite; pn: pins that every state bears; xe: what is wanted of an exception that leaves the code -/
structure Cx where
  prog : Program
  w : World
  K : PySem.W.Frag
  mg : Str → Option Value
  base : Heap
  A : Around
  N : List Str
  s₀ : Shared
  H₀ : Hp
  env : Env
  outer : List Env
  stack : List Env
  ex : List Addr
  fn : Str → Bool
  calm : Bool
  pn : List (Addr × Obj)
  xe : Value → Shared → Prop
/-- the callers' frames -/
def frs (l : List Env) : List Addr := l.filterMap (·.frame)
abbrev Cx.fs (X : Cx) : List Addr := frs X.outer

def Vis (sc : Scope) (x : Str) : Prop := sc.names.lookup x = some .local ∨ sc.names.lookup x = some .cell ∨ sc.names.lookup x = some .free
def Loc (sc : Scope) (x : Str) : Prop := sc.names.lookup x = some .local ∨ sc.names.lookup x = some .cell
def Look (env : Env) (h : Heap) (m : Str → Option Value) (x : Str) (u : Value) : Prop :=
  (env.kindOf x = some .local ∧ m x = some u) ∨ ((env.kindOf x = some .cell ∨ env.kindOf x = some .free) ∧ ∃ c, env.cells.lookup x = some c ∧ h.IsCell c (some u))

structure Cx.Ok (X : Cx) : Prop where
  mod : Mod X.K X.mg X.base
  kind : X.env.scope.kind = .function
  glob : X.env.globals = mainGlobals
  blt : X.env.builtins = builtinsNs
  above : X.s₀.heap.objs.size ≤ X.env.locals
  inj : ∀ x y c, X.env.cells.lookup x = some c → X.env.cells.lookup y = some c → x = y
  has : ∀ x, (X.env.kindOf x = some .cell ∨ X.env.kindOf x = some .free) → ∃ c, X.env.cells.lookup x = some c
  cab : ∀ x c, X.fn x = true → X.env.cells.lookup x = some c → X.s₀.heap.objs.size ≤ c
  hd : X.calm = true → X.A.handled = none
  frames : X.A.frames = some X.stack
  stk : X.stack = X.outer ∨ (X.stack = X.env :: X.outer ∧ X.env.frame = some X.env.locals)
  exf : ∀ b ∈ X.ex, b ≠ X.env.locals ∧ ∀ x c, X.env.cells.lookup x = some c → c ≠ b
  bs : ∀ b o, X.base.get? b = some o → X.s₀.heap.get? b = some o ∧ X.H₀ b = none
  bsz : X.base.objs.size ≤ X.s₀.heap.objs.size
  noex : ∀ b o, X.base.get? b = some o → b ∉ X.ex
  exfs : ∀ b ∈ X.ex, b ∉ X.fs
  funs : X.s₀.heap.FunFrames X.base X.outer
  frf : ∀ b ∈ X.fs, X.H₀ b = none

structure Inv (X : Cx) (pins : List (Addr × Obj)) (σ : List (Option V)) (H : Hp) (s : Shared) : Prop where
  ok : X.Ok
  os : s.os = X.s₀.os
  bare : AllBare s.gens
  base : Un X.fs X.ex X.H₀ H X.s₀.heap s.heap
  loc : ∃ m, s.heap.Ns X.env.locals m ∧ ∀ (i : Nat) (x : Str) (v : V), X.N[i]? = some x → σ[i]? = some (some v) → Vis X.env.scope x → ∃ u, RelV v u ∧ Look X.env s.heap m x u
  cell : ∀ x c, X.env.cells.lookup x = some c → ∃ v, s.heap.IsCell c v
  free : H X.env.locals = none
  freeC : ∀ x c, X.env.cells.lookup x = some c → H c = none
  pin : ∀ p ∈ X.pn ++ pins, s.heap.get? p.1 = some p.2 ∧ H p.1 = none ∧ p.1 ≠ X.env.locals ∧ p.1 ∉ X.fs ∧ ∀ v, p.2.data ≠ .cell v
  hok : HOk X.prog X.w H s.heap
  len : σ.length = X.N.length

section
variable {X : Cx} {pins : List (Addr × Obj)} {σ : List (Option V)} {H H' : Hp} {s : Shared} {h' : Heap}

theorem Cx.Ok.nofr (ok : X.Ok) {b : Addr} {o : Obj} (e : X.base.get? b = some o) : b ∉ X.fs := fun hb => by
  have := (ok.funs.mem hb).1
  rw [e] at this; cases this
theorem Inv.bs (I : Inv X pins σ H s) : ∀ b o, X.base.get? b = some o → s.heap.get? b = some o ∧ H b = none := fun b o e =>
  ⟨I.base.keep b o (I.ok.bs b o e).1 (I.ok.bs b o e).2 (I.ok.nofr e) (I.ok.noex b o e), I.base.free b o (I.ok.bs b o e).1 (I.ok.bs b o e).2 (I.ok.noex b o e)⟩
theorem Inv.bk (I : Inv X pins σ H s) : ∀ b o, X.base.get? b = some o → s.heap.get? b = some o := fun b o e => (I.bs b o e).1
theorem Inv.mod (I : Inv X pins σ H s) : Mod X.K X.mg X.base := I.ok.mod
theorem Inv.kIn (I : Inv X pins σ H s) : X.K.In s.heap := I.ok.mod.kin.keeps I.bk
/-- the frame over the base: for OpenK's rules (K.In X.base is I.mod.kin) -/
theorem Inv.fr (I : Inv X pins σ H s) : ∃ m, Fr X.base X.env.locals s.heap m :=
  let ⟨m, hn, _⟩ := I.loc
  ⟨m, hn, I.bk, Nat.le_trans I.ok.bsz I.ok.above⟩
theorem Inv.lt (I : Inv X pins σ H s) : X.env.locals < s.heap.objs.size := let ⟨_, hn, _⟩ := I.loc; hn.lt
theorem Inv.sz (I : Inv X pins σ H s) : X.s₀.heap.objs.size ≤ s.heap.objs.size := Nat.le_trans I.ok.above (Nat.le_of_lt I.lt)
theorem Inv.nofs (I : Inv X pins σ H s) {a : Addr} (h : s.heap.objs.size ≤ a) : a ∉ X.fs := fun hb => by
  obtain ⟨_, o, ho, _⟩ := I.ok.funs.mem hb
  exact absurd (Nat.lt_of_lt_of_le (Heap.lt_size ho) (Nat.le_trans I.sz h)) (Nat.lt_irrefl _)
theorem Inv.cne (I : Inv X pins σ H s) : ∀ x c, X.env.cells.lookup x = some c → c ≠ X.env.locals := fun x c e z => by
  obtain ⟨v, o, ho, hd⟩ := I.cell x c e
  obtain ⟨m, ⟨o', es, ep, ho', hd', _⟩, _⟩ := I.loc
  rw [z, ho'] at ho; cases ho; rw [hd'] at hd; cases hd
theorem Inv.funs (I : Inv X pins σ H s) : s.heap.FunFrames X.base X.outer := by
  have all : ∀ (l : List Env), (∀ b ∈ frs l, b ∈ X.fs) → X.s₀.heap.FunFrames X.base l → s.heap.FunFrames X.base l := by
    intro l
    induction l with
    | nil => intro _ _; trivial
    | cons env r ih =>
      intro hs hl
      obtain ⟨hk, ⟨L, o, hf, hn, ho, hd⟩, hr⟩ := hl
      have hL : L ∈ X.fs := hs L (by unfold frs; rw [List.filterMap_cons, hf]; exact List.mem_cons_self)
      obtain ⟨sl, e⟩ := I.base.slot L o ho (I.ok.frf L hL) hL fun z => I.ok.exfs L z hL
      exact ⟨hk, ⟨L, _, hf, hn, e, hd⟩, ih (fun b hb => hs b (by unfold frs; rw [List.filterMap_cons, hf]; exact List.mem_cons_of_mem _ hb)) hr⟩
  exact all X.outer (fun _ hb => hb) I.ok.funs

/-- the frames that run, for a call -/
theorem Inv.stack (I : Inv X pins σ H s) : s.heap.FunFrames X.base X.stack := by
  rcases I.ok.stk with e | ⟨e, hf⟩
  · rw [e]; exact I.funs
  · rw [e]
    obtain ⟨m, hn, _⟩ := I.loc
    refine .cons (by rw [I.ok.kind]; decide) hf hn ?_ I.funs
    exact Heap.get?_none_of_le (Nat.le_trans I.ok.bsz I.ok.above)
theorem Inv.stkSub (I : Inv X pins σ H s) : ∀ b ∈ frs X.stack, b ∈ X.env.locals :: X.fs := fun b hb => by
  rcases I.ok.stk with e | ⟨e, hf⟩
  · rw [e] at hb; exact List.mem_cons_of_mem _ hb
  · rw [e] at hb
    unfold frs at hb
    rw [List.filterMap_cons, hf] at hb
    exact hb
theorem Inv.stkFree (I : Inv X pins σ H s) : ∀ b ∈ frs X.stack, H b = none := fun b hb => by
  rcases List.mem_cons.mp (I.stkSub b hb) with e | hb
  · rw [e]; exact I.free
  · obtain ⟨_, o, ho, _⟩ := I.ok.funs.mem hb
    exact I.base.free b o ho (I.ok.frf b hb) fun z => I.ok.exfs b z hb

/-- THE STEP: the untracked objects but the frame and the records at ch are kept (the callers' frames up to slots), the frame's map is kept, the new abstract heap is held -/
theorem Inv.step {g' : Array GenState} {t' : Nat} {d' : Drawn} {ch : List Addr} (I : Inv X pins σ H s)
    (hch : ∀ b ∈ ch, (b ∈ X.ex ∨ X.s₀.heap.objs.size ≤ b) ∧ b ≠ X.env.locals ∧ (∀ x c, X.env.cells.lookup x = some c → c ≠ b) ∧ ∀ p ∈ X.pn ++ pins, p.1 ≠ b)
    (keep : ∀ b o, b ≠ X.env.locals → b ∉ X.fs → b ∉ ch → s.heap.get? b = some o → H b = none → h'.get? b = some o)
    (slot : ∀ b o, b ≠ X.env.locals → b ∈ X.fs → b ∉ ch → s.heap.get? b = some o → H b = none → ∃ sl, h'.get? b = some { o with slots := sl }) (free : ∀ b o, b ∉ ch → s.heap.get? b = some o → H b = none → H' b = none)
    (there : ∀ b o, b ∉ ch → s.heap.get? b = some o → ∃ o', h'.get? b = some o')
    (tups : ∀ b xs, H b = some (.tup xs) → H' b = some (.tup xs)) (frzs : ∀ b o u, H b = some (.frz o u) → H' b = some (.frz o u)) (tbls : ∀ b ps, H b = some (.tbl ps) → ∃ more, H' b = some (.tbl (ps ++ more)))
    (ns : ∀ m, s.heap.Ns X.env.locals m → h'.Ns X.env.locals m) (hok : HOk X.prog X.w H' h') (hg : AllBare g') :
    Inv X pins σ H' { s with heap := h', gens := g', drawn := d', toks := t' } := by
  have neL : ∀ b o, X.s₀.heap.get? b = some o → b ≠ X.env.locals := fun b o e => Nat.ne_of_lt (Nat.lt_of_lt_of_le (Heap.lt_size e) I.ok.above)
  have neC : ∀ b o, X.s₀.heap.get? b = some o → b ∉ X.ex → b ∉ ch := fun b o e hx hb => by
    rcases (hch b hb).1 with z | z
    · exact hx z
    · exact absurd (Nat.lt_of_lt_of_le (Heap.lt_size e) z) (Nat.lt_irrefl _)
  have cellK : ∀ x c, X.env.cells.lookup x = some c → ∀ v, s.heap.IsCell c v → h'.IsCell c v := fun x c e v ⟨o, ho, hd⟩ => by
    have nch : c ∉ ch := fun z => (hch c z).2.2.1 x c e rfl
    by_cases hc : c ∈ X.fs
    · obtain ⟨sl, q⟩ := slot c o (I.cne x c e) hc nch ho (I.freeC x c e)
      exact ⟨_, q, hd⟩
    · exact ⟨o, keep c o (I.cne x c e) hc nch ho (I.freeC x c e), hd⟩
  refine ⟨I.ok, I.os, hg, ⟨fun b o e n hb hx => ?_, fun b o e n hb hx => ?_, fun b o e n hx => ?_, fun b o e hx => ?_, fun b xs e => tups b xs (I.base.tups b xs e), fun b o xs e => frzs b o xs (I.base.frzs b o xs e), fun b ps e => ?_⟩, ?_, fun x c e => ?_, ?_, fun x c e => ?_, fun p hp => ?_, hok, I.len⟩
  · exact keep b o (neL b o e) hb (neC b o e hx) (I.base.keep b o e n hb hx) (I.base.free b o e n hx)
  · obtain ⟨sl, e1⟩ := I.base.slot b o e n hb hx
    obtain ⟨sl', e2⟩ := slot b _ (neL b o e) hb (neC b o e hx) e1 (I.base.free b o e n hx)
    exact ⟨sl', e2⟩
  · obtain ⟨o', e1⟩ := I.base.there b o e hx
    exact free b o' (neC b o e hx) e1 (I.base.free b o e n hx)
  · obtain ⟨o', e1⟩ := I.base.there b o e hx
    exact there b o' (neC b o e hx) e1
  · obtain ⟨m1, e1⟩ := I.base.tbls b ps e
    obtain ⟨m2, e2⟩ := tbls b _ e1
    exact ⟨m1 ++ m2, by rw [e2, Array.append_assoc]⟩
  · obtain ⟨m, hn, hl⟩ := I.loc
    refine ⟨m, ns m hn, fun i x v e1 e2 e3 => ?_⟩
    obtain ⟨u, r, l⟩ := hl i x v e1 e2 e3
    refine ⟨u, r, ?_⟩
    rcases l with l | ⟨k, c, e, z⟩
    · exact .inl l
    · exact .inr ⟨k, c, e, cellK x c e _ z⟩
  · obtain ⟨v, z⟩ := I.cell x c e
    exact ⟨v, cellK x c e v z⟩
  · obtain ⟨m, ⟨o, _, _, ho, _⟩, _⟩ := I.loc
    exact free _ o (fun z => (hch _ z).2.1 rfl) ho I.free
  · obtain ⟨v, o, ho, hd⟩ := I.cell x c e
    exact free c o (fun z => (hch c z).2.2.1 x c e rfl) ho (I.freeC x c e)
  · obtain ⟨e, n, ne, nf, d⟩ := I.pin p hp
    have nch : p.1 ∉ ch := fun z => (hch p.1 z).2.2.2 p hp rfl
    exact ⟨keep p.1 p.2 ne nf nch e n, free p.1 p.2 nch e n, ne, nf, d⟩
/-- .. where the frame's own object is kept too -/
theorem Inv.un {t' : Nat} (I : Inv X pins σ H s) (u : Un X.fs [] H H' s.heap h') (hok : HOk X.prog X.w H' h') : Inv X pins σ H' { s with heap := h', toks := t' } := by
  obtain ⟨m, ⟨o, es, ep, ho, r⟩, _⟩ := id I.loc
  obtain ⟨sl, hL⟩ := u.any ho I.free (by simp)
  exact I.step (g' := s.gens) (d' := s.drawn) (ch := []) (fun _ z => nomatch z) (fun b o _ hb _ e n => u.keep b o e n hb (by simp)) (fun b o _ hb _ e n => u.slot b o e n hb (by simp)) (fun b o _ e n => u.free b o e n (by simp)) (fun b o _ e => u.there b o e (by simp)) u.tups u.frzs u.tbls (fun m' hm => by
    obtain ⟨o', es', ep', ho', r'⟩ := hm
    rw [ho] at ho'; cases ho'
    exact ⟨_, es', ep', hL, r'⟩) hok I.bare
/-- behind a call (or a comprehension's block): the slots of this frame may have changed too, the records at ch may have turned -/
theorem Inv.call {g' : Array GenState} {t' : Nat} {d' : Drawn} {ch : List Addr} (I : Inv X pins σ H s) (u : Un (frs X.stack) ch H H' s.heap h') (hok : HOk X.prog X.w H' h') (hg : AllBare g')
    (hch : ∀ b ∈ ch, (b ∈ X.ex ∨ X.s₀.heap.objs.size ≤ b) ∧ b ≠ X.env.locals ∧ (∀ x c, X.env.cells.lookup x = some c → c ≠ b) ∧ ∀ p ∈ X.pn ++ pins, p.1 ≠ b) :
    Inv X pins σ H' { s with heap := h', gens := g', drawn := d', toks := t' } := by
  obtain ⟨m, ⟨o, es, ep, ho, r⟩, _⟩ := id I.loc
  obtain ⟨sl, hL⟩ := u.any ho I.free fun z => (hch _ z).2.1 rfl
  exact I.step (ch := ch) hch (fun b o hL hb hc e n => u.keep b o e n (fun z => (List.mem_cons.mp (I.stkSub b z)).elim hL hb) hc) (fun b o _ _ hc e n => u.any e n hc) (fun b o hc e n => u.free b o e n hc) (fun b o hc e => u.there b o e hc) u.tups u.frzs u.tbls (fun m' hm => by
    obtain ⟨o', es', ep', ho', r'⟩ := hm
    rw [ho] at ho'; cases ho'
    exact ⟨_, es', ep', hL, r'⟩) hok hg
/-- an untracked record of ours (an iterator) has turned -/
theorem Inv.turned {t' : Nat} {it : Addr} (I : Inv X pins σ H s) (k : ∀ b o, b ≠ it → s.heap.get? b = some o → h'.get? b = some o) (hn : H it = none) (hL : it ≠ X.env.locals)
    (h1 : it ∈ X.ex ∨ X.s₀.heap.objs.size ≤ it) (h2 : ∀ x c, X.env.cells.lookup x = some c → c ≠ it) (h3 : ∀ p ∈ X.pn ++ pins, p.1 ≠ it) : Inv X pins σ H { s with heap := h', toks := t' } := by
  have nit : ∀ b u, H b = some u → b ≠ it := fun b u e z => by rw [z, hn] at e; cases e
  refine I.step (g' := s.gens) (d' := s.drawn) (ch := [it]) (fun b hb => ?_) (fun b o _ _ hc e _ => k b o (fun z => hc (by simp [z])) e) (fun b o _ _ hc e _ => ⟨o.slots, k b o (fun z => hc (by simp [z])) e⟩) (fun _ _ _ _ n => n)
    (fun b o hc e => ⟨o, k b o (fun z => hc (by simp [z])) e⟩) (fun _ _ e => e) (fun _ _ _ e => e) (fun b ps e => ⟨#[], by rw [e]; simp⟩) (fun m hm => ?_) (fun b u e => ?_) I.bare
  · have e : b = it := by simpa using hb
    subst e
    exact ⟨h1, hL, h2, h3⟩
  · obtain ⟨o, es, ep, ho, r⟩ := hm
    exact ⟨o, es, ep, k _ o (Ne.symm hL) ho, r⟩
  · refine (I.hok b u e).stay (fun c v hc q => k c v ?_ q) (fun _ q => q) fun _ _ q => q
    rcases hc with z | z
    · rw [z]; exact nit b u e
    · exact nit c _ z
theorem Inv.tok (I : Inv X pins σ H s) (t : Nat) : Inv X pins σ H { s with toks := t } := I.un (h' := s.heap) (t' := t) Un.refl I.hok
/-- all objects kept -/
theorem Inv.kept {t' : Nat} (I : Inv X pins σ H s) (k : ∀ b u, s.heap.get? b = some u → h'.get? b = some u) : Inv X pins σ H { s with heap := h', toks := t' } := I.un (Un.kept k) (I.hok.kept k)
/-- a new object laid and tracked -/
theorem Inv.laid {a : Addr} {o : HO} {t' : Nat} (I : Inv X pins σ H s) (k : ∀ b u, s.heap.get? b = some u → h'.get? b = some u) (hp : s.heap.objs.size ≤ a) (new : ObjOk X.prog X.w (upd H a o) h' a o) :
    Inv X pins σ (upd H a o) { s with heap := h', toks := t' } := I.un (Un.laid k hp (I.hok.fresh hp)) (I.hok.laid k hp new)
/-- an object written -/
theorem Inv.write {x e : Addr} {o : HO} {t' : Nat} (I : Inv X pins σ H s) (mu : Mut (H x)) (he : e = x ∨ H e = some (.own x)) (k : ∀ b u, b ≠ e → s.heap.get? b = some u → h'.get? b = some u) (heo : ∃ u, h'.get? e = some u)
    (new : ObjOk X.prog X.w (upd H x o) h' x o) : Inv X pins σ (upd H x o) { s with heap := h', toks := t' } := I.un (Un.write mu he k heo) (I.hok.write mu he k heo new)
/-- forgetting slots, pins -/
theorem Inv.weak {σ' : List (Option V)} (I : Inv X pins σ H s) (hl : σ'.length = σ.length) (w : ∀ (i : Nat) v, σ'[i]? = some (some v) → σ[i]? = some (some v)) : Inv X pins σ' H s :=
  ⟨I.ok, I.os, I.bare, I.base, let ⟨m, hn, hl'⟩ := I.loc; ⟨m, hn, fun i x v e1 e2 e3 => hl' i x v e1 (w i v e2) e3⟩, I.cell, I.free, I.freeC, I.pin, I.hok, hl.trans I.len⟩
theorem Inv.pins_of {pins' : List (Addr × Obj)} (I : Inv X pins σ H s) (h : ∀ p ∈ pins', s.heap.get? p.1 = some p.2 ∧ H p.1 = none ∧ p.1 ≠ X.env.locals ∧ p.1 ∉ X.fs ∧ ∀ v, p.2.data ≠ .cell v) : Inv X pins' σ H s :=
  ⟨I.ok, I.os, I.bare, I.base, I.loc, I.cell, I.free, I.freeC, fun p hp => (List.mem_append.mp hp).elim (fun z => I.pin p (List.mem_append_left _ z)) (h p), I.hok, I.len⟩

theorem nodup_ix {N : List Str} (hN : N.Nodup) {i j : Nat} {x : Str} (a : N[i]? = some x) (b : N[j]? = some x) : i = j := by
  obtain ⟨h1, e1⟩ := List.getElem?_eq_some_iff.mp a
  obtain ⟨h2, e2⟩ := List.getElem?_eq_some_iff.mp b
  exact (List.getElem_inj hN).mp (e1.trans e2.symm)

/-- a name is stored; what changed -/
theorem store_ok2 {M : Model} {A : Around} {E : Value → Shared → Prop} {i : Nat} {x : Str} {v : V} {u : Value} {Q : Unit → Shared → Prop} (I : Inv X pins σ H s) (hN : X.N.Nodup) (hi : X.N[i]? = some x) (hx : Loc X.env.scope x) (r : RelV v u)
    (h : ∀ s', Inv X pins (σ.set i (some v)) H s' → (∃ a, Heap.SameBut a s.heap s'.heap ∧ (a = X.env.locals ∨ X.env.cells.lookup x = some a)) → Q () s') (hf : X.fn x = true ∨ X.env.scope.names.lookup x = some .local := by first | exact .inl rfl | exact .inr rfl | assumption) : wpAny M A (storeName X.env x u) Q E s := by
  obtain ⟨m, hn, hl⟩ := id I.loc
  have hcls : (X.env.scope.kind == .class || (X.env.scope.kind == .module && X.env.locals != X.env.globals)) = false := by rw [I.ok.kind]; rfl
  have hiσ : i < σ.length := by rw [I.len]; exact (List.getElem?_eq_some_iff.mp hi).1
  have cne := I.cne
  have tracked : ∀ {a : Addr} {h' : Heap}, (∃ o, s.heap.get? a = some o ∧ H a = none) → Heap.SameBut a s.heap h' → HOk X.prog X.w H h' := fun {a h'} ha hs b ob e => by
    obtain ⟨_, _, hfree⟩ := ha
    refine (I.hok b ob e).stay (fun c w' hc q => (hs.2 c ?_).trans q) (fun _ q => q) fun _ _ q => q
    rintro rfl
    rcases hc with rfl | hc
    · rw [hfree] at e; cases e
    · rw [hfree] at hc; cases hc
  rcases hx with hk | hk
  · refine wpAny_storeName_local hk hn (fun h' hn' hs => ?_) hcls
    obtain ⟨oL, _, _, hoL, _⟩ := id hn
    refine h _ ⟨I.ok, I.os, I.bare, ⟨fun b o e n hb hx => ?_, fun b o e n hb hx => ?_, I.base.free, fun b o e hx => ?_, I.base.tups, I.base.frzs, I.base.tbls⟩, ⟨_, hn', fun j y v' e1 e2 e3 => ?_⟩, fun y c e => ?_, I.free, I.freeC, fun p hp => ?_, tracked ⟨oL, hoL, I.free⟩ hs, by simpa using I.len⟩ ⟨_, hs, .inl rfl⟩
    · exact (hs.2 b (Nat.ne_of_lt (Nat.lt_of_lt_of_le (Heap.lt_size e) I.ok.above))).trans (I.base.keep b o e n hb hx)
    · obtain ⟨sl, e1⟩ := I.base.slot b o e n hb hx
      exact ⟨sl, (hs.2 b (Nat.ne_of_lt (Nat.lt_of_lt_of_le (Heap.lt_size e) I.ok.above))).trans e1⟩
    · obtain ⟨o', e1⟩ := I.base.there b o e hx
      exact ⟨o', (hs.2 b (Nat.ne_of_lt (Nat.lt_of_lt_of_le (Heap.lt_size e) I.ok.above))).trans e1⟩
    · by_cases hj : j = i
      · subst hj
        rw [hi] at e1; cases e1
        rw [List.getElem?_set_self hiσ] at e2
        cases e2
        exact ⟨u, r, .inl ⟨hk, by simp⟩⟩
      · rw [List.getElem?_set_ne (Ne.symm hj)] at e2
        obtain ⟨u', r', q⟩ := hl j y v' e1 e2 e3
        refine ⟨u', r', ?_⟩
        rcases q with ⟨k, e⟩ | ⟨k, c, e, z⟩
        · refine .inl ⟨k, ?_⟩
          have : y ≠ x := fun e => hj (nodup_ix hN e1 (e ▸ hi))
          simp [this, e]
        · exact .inr ⟨k, c, e, z.sameBut hs (cne y c e)⟩
    · obtain ⟨w', z⟩ := I.cell y c e
      exact ⟨w', z.sameBut hs (cne y c e)⟩
    · obtain ⟨e, n, ne, nf, d⟩ := I.pin p hp
      exact ⟨(hs.2 p.1 ne).trans e, n, ne, nf, d⟩
  · have hfn : X.fn x = true := by
      rcases hf with z | z
      · exact z
      · rw [z] at hk; cases hk
    obtain ⟨c, hc⟩ := I.ok.has x (.inl hk)
    obtain ⟨w', z⟩ := I.cell x c hc
    refine wpAny_storeName_cell I.ok.kind hk hc z (fun h' hc' hs => ?_)
    obtain ⟨oc, hoc, hocd⟩ := id z
    refine h { s with heap := h' } ⟨I.ok, I.os, I.bare, ⟨fun b o e n hb hx => ?_, fun b o e n hb hx => ?_, I.base.free, fun b o e hx => ?_, I.base.tups, I.base.frzs, I.base.tbls⟩, ⟨m, hn.sameBut hs (Ne.symm (cne x c hc)), fun j y v' e1 e2 e3 => ?_⟩, fun y c' e => ?_, I.free, I.freeC, fun p hp => ?_, tracked ⟨oc, hoc, I.freeC x c hc⟩ hs, by simpa using I.len⟩ ⟨c, hs, .inr hc⟩
    · exact (hs.2 b (Nat.ne_of_lt (Nat.lt_of_lt_of_le (Heap.lt_size e) (I.ok.cab x c hfn hc)))).trans (I.base.keep b o e n hb hx)
    · obtain ⟨sl, e1⟩ := I.base.slot b o e n hb hx
      exact ⟨sl, (hs.2 b (Nat.ne_of_lt (Nat.lt_of_lt_of_le (Heap.lt_size e) (I.ok.cab x c hfn hc)))).trans e1⟩
    · obtain ⟨o', e1⟩ := I.base.there b o e hx
      exact ⟨o', (hs.2 b (Nat.ne_of_lt (Nat.lt_of_lt_of_le (Heap.lt_size e) (I.ok.cab x c hfn hc)))).trans e1⟩
    · by_cases hj : j = i
      · subst hj
        rw [hi] at e1; cases e1
        rw [List.getElem?_set_self hiσ] at e2
        cases e2
        exact ⟨u, r, .inr ⟨.inl hk, c, hc, hc'⟩⟩
      · rw [List.getElem?_set_ne (Ne.symm hj)] at e2
        obtain ⟨u', r', q⟩ := hl j y v' e1 e2 e3
        refine ⟨u', r', ?_⟩
        rcases q with q | ⟨k, c', e, z'⟩
        · exact .inl q
        · refine .inr ⟨k, c', e, z'.sameBut hs ?_⟩
          rintro rfl
          exact hj (nodup_ix hN e1 (I.ok.inj _ _ _ e hc ▸ hi))
    · by_cases hcc : c' = c
      · subst hcc; exact ⟨_, hc'⟩
      · obtain ⟨w2, z2⟩ := I.cell y c' e
        exact ⟨w2, z2.sameBut hs hcc⟩
    · obtain ⟨e, n, ne, nf, d⟩ := I.pin p hp
      refine ⟨(hs.2 p.1 ?_).trans e, n, ne, nf, d⟩
      intro q
      rw [q, hoc] at e
      have q' : oc = p.2 := Option.some.inj e
      exact d w' (by rw [← q']; exact hocd)
theorem store_ok {M : Model} {A : Around} {E : Value → Shared → Prop} {i : Nat} {x : Str} {v : V} {u : Value} {Q : Unit → Shared → Prop} (I : Inv X pins σ H s) (hN : X.N.Nodup) (hi : X.N[i]? = some x) (hx : Loc X.env.scope x) (r : RelV v u)
    (h : ∀ s', Inv X pins (σ.set i (some v)) H s' → Q () s') (hf : X.fn x = true ∨ X.env.scope.names.lookup x = some .local := by first | exact .inl rfl | exact .inr rfl | assumption) : wpAny M A (storeName X.env x u) Q E s :=
  store_ok2 I hN hi hx r (fun s' I' _ => h s' I') hf
/-- behind a call or a block, the state as it is -/
theorem Inv.call' {s' : Shared} {ch : List Addr} (I : Inv X pins σ H s) (ho : s'.os = s.os) (u : Un (frs X.stack) ch H H' s.heap s'.heap) (hok : HOk X.prog X.w H' s'.heap) (hg : AllBare s'.gens)
    (hch : ∀ b ∈ ch, (b ∈ X.ex ∨ X.s₀.heap.objs.size ≤ b) ∧ b ≠ X.env.locals ∧ (∀ x c, X.env.cells.lookup x = some c → c ≠ b) ∧ ∀ p ∈ X.pn ++ pins, p.1 ≠ b) : Inv X pins σ H' s' := by
  obtain ⟨h', g', d', t', o'⟩ := s'
  have e : o' = s.os := ho
  subst e
  exact I.call (g' := g') (t' := t') (d' := d') u hok hg hch
end

/-! ### the judgements -/
/-- an exception: its class, its own dict's address (where it has one), the abstract heap behind it -/
abbrev XK := Value → Option Addr → Hp → Prop
abbrev St := List (Option V)
abbrev VK := V → Hp → Prop
/-- an expression's reading; a test's; an argument list's -/
abbrev TE := St → Hp → VK → Prop
abbrev TT := St → Hp → (Bool → Hp → Prop) → Prop
abbrev TA := St → Hp → (List V → Hp → Prop) → Prop
/-- what is wanted behind a statement -/
structure Ends where
  nx : St → Hp → Prop
  rt : VK
  bk : St → Hp → Prop := fun _ _ => False
  ct : St → Hp → Prop := fun _ _ => False
abbrev TS := Ends → St → Hp → Prop

def EP (X : Cx) (pins : List (Addr × Obj)) (σ : St) (Q : VK) (u : Value) (s' : Shared) : Prop := ∃ v H', Inv X pins σ H' s' ∧ RelV v u ∧ Q v H'
def TP (X : Cx) (pins : List (Addr × Obj)) (σ : St) (Q : Bool → Hp → Prop) (b : Bool) (s' : Shared) : Prop := ∃ H', Inv X pins σ H' s' ∧ Q b H'
def AP (X : Cx) (pins : List (Addr × Obj)) (σ : St) (Q : List V → Hp → Prop) (us : List Value) (s' : Shared) : Prop := ∃ vs H', Inv X pins σ H' s' ∧ Vals vs us ∧ Q vs H'
def SP (X : Cx) (pins : List (Addr × Obj)) (D : Ends) (f : Flow) (s' : Shared) : Prop :=
  match f with
  | .next => ∃ σ' H', Inv X pins σ' H' s' ∧ D.nx σ' H'
  | .brk => ∃ σ' H', Inv X pins σ' H' s' ∧ D.bk σ' H'
  | .cont => ∃ σ' H', Inv X pins σ' H' s' ∧ D.ct σ' H'
  | .ret u => ∃ v σ' H', Inv X pins σ' H' s' ∧ RelV v u ∧ D.rt v H'

def PE (X : Cx) (e : Expr) (t : TE) : Prop :=
  ∀ (pins : List (Addr × Obj)) (s : Shared) (σ : St) (H : Hp) (Q : VK), Inv X pins σ H s → t σ H Q → wpAny (model X.prog X.w) X.A (eval e X.env) (EP X pins σ Q) X.xe s
def PT (X : Cx) (e : Expr) (t : TT) : Prop :=
  ∀ (pins : List (Addr × Obj)) (s : Shared) (σ : St) (H : Hp) (Q : Bool → Hp → Prop), Inv X pins σ H s → t σ H Q → wpAny (model X.prog X.w) X.A (isTrue e X.env (eval e X.env)) (TP X pins σ Q) X.xe s
/-- a test whatever its 'whole' is (and, or) -/
def PW (X : Cx) (e : Expr) (t : TT) : Prop :=
  ∀ (whole : Sem Value) (pins : List (Addr × Obj)) (s : Shared) (σ : St) (H : Hp) (Q : Bool → Hp → Prop), Inv X pins σ H s → t σ H Q → wpAny (model X.prog X.w) X.A (isTrue e X.env whole) (TP X pins σ Q) X.xe s
theorem PW.pt {X : Cx} {e : Expr} {t : TT} (h : PW X e t) : PT X e t := h _
/-- an argument list (no star), from the left -/
def PA (X : Cx) (es : List Expr) (t : TA) : Prop :=
  ∀ (pos : Pos) (pins : List (Addr × Obj)) (s : Shared) (σ : St) (H : Hp) (Q : List V → Hp → Prop), Inv X pins σ H s → t σ H Q → wpAny (model X.prog X.w) X.A (spliced (backTo pos (starEach es X.env))) (AP X pins σ Q) X.xe s
def PS (X : Cx) (st : Stmt) (t : TS) : Prop :=
  ∀ (pins : List (Addr × Obj)) (s : Shared) (σ : St) (H : Hp) (D : Ends), Inv X pins σ H s → t D σ H → wpAny (model X.prog X.w) X.A (exec st X.env) (SP X pins D) X.xe s
def PSs (X : Cx) (st : List Stmt) (t : TS) : Prop :=
  ∀ (pins : List (Addr × Obj)) (s : Shared) (σ : St) (H : Hp) (D : Ends), Inv X pins σ H s → t D σ H → wpAny (model X.prog X.w) X.A (execs st X.env) (SP X pins D) X.xe s
/-- weaken the end -/
theorem thn {α : Type} {t : Sem α} {Q Q' : α → Shared → Prop} {M : Model} {A : Around} {E : Value → Shared → Prop} {s : Shared} (h : wpAny M A t Q E s) (hQ : ∀ a s, Q a s → Q' a s) : wpAny M A t Q' E s := wpAny_mono h hQ fun _ _ x => x
end L2

namespace L2
open PySem PySem.Spec PyProof.Rows
section
variable {X : Cx}

/-- two expressions in a row -/
theorem bin {a b : Expr} {ta tb : TE} (ha : PE X a ta) (hb : PE X b tb) {pins : List (Addr × Obj)} {s : Shared} {σ : St} {H : Hp} {R : V → V → Hp → Prop} (I : Inv X pins σ H s) (h : ta σ H fun x H1 => tb σ H1 fun y H2 => R x y H2)
    {α : Type} {Q : α → Shared → Prop} {f : Value → Value → Sem α}
    (hf : ∀ v u s2 x y H2, Inv X pins σ H2 s2 → RelV x v → RelV y u → R x y H2 → wpAny (model X.prog X.w) X.A (f v u) Q X.xe s2) :
    wpAny (model X.prog X.w) X.A (eval a X.env) (fun v s₁ => wpAny (model X.prog X.w) X.A (eval b X.env) (fun u s₂ => wpAny (model X.prog X.w) X.A (f v u) Q X.xe s₂) X.xe s₁) X.xe s := by
  refine thn (ha pins s σ H _ I h) fun v s1 ⟨x, H1, I1, r1, q1⟩ => ?_
  refine thn (hb pins s1 σ H1 _ I1 q1) fun u s2 ⟨y, H2, I2, r2, q2⟩ => ?_
  exact hf v u s2 x y H2 I2 r1 r2 q2

/-! ### names and constants -/
def tVar (i : Nat) : TE := fun σ H Q => ∃ v, σ[i]? = some (some v) ∧ Q v H
def tC (v : V) : TE := fun _ H Q => Q v H
theorem pe_var {i : Nat} {x : Str} {pos : Pos} (hN : X.N[i]? = some x) (hv : Vis X.env.scope x) (hd : (x == ("__debug__" : Str)) = false := by decide) (hcd : (x == ("__classdict__" : Str)) = false := by decide) : PE X (.Name x pos) (tVar i) := by
  intro pins s σ H Q I h
  obtain ⟨v, e, h⟩ := h
  obtain ⟨m, hn, hl⟩ := I.loc
  obtain ⟨u, r, l⟩ := hl i x v hN e hv
  have fin : EP X pins σ Q u s := ⟨v, H, I, r, h⟩
  rcases l with ⟨hk, hm⟩ | ⟨hk, c, hc, hcell⟩
  · exact wpAny_Name (wpAny_loadName_local I.ok.kind hk hn hm fin) hd
  · rcases hk with hk | hk
    · exact wpAny_Name (wpAny_loadName_cell I.ok.kind hk hc hcell fin) hd
    · exact wpAny_Name (wpAny_loadName_free I.ok.kind hk hc hcell fin hcd) hd
theorem pe_int {i j pos} : PE X (.Constant (.int i) j pos) (tC (.int i)) := fun _ _ _ H _ I h => wpAny_Constant_int ⟨.int i, H, I.tok _, ⟨_, rfl⟩, h⟩
theorem pe_bl {b j pos} : PE X (.Constant (.bool b) j pos) (tC (.bl b)) := fun _ _ _ H _ I h => Constant_bool ⟨.bl b, H, I, rfl, h⟩
theorem pe_str {x j pos} : PE X (.Constant (.str x) j pos) (tC (.str x)) := fun _ _ _ H _ I h => Calls.Constant_str ⟨.str x, H, I.tok _, ⟨_, rfl⟩, h⟩

/-- a global name of the def -/
def Gl (X : Cx) (x : Str) : Prop := X.env.kindOf x = some .globalImplicit
theorem ld_glob {E : Value → Shared → Prop} {pins : List (Addr × Obj)} {s : Shared} {σ : St} {H : Hp} {x : Str} {u : Value} {pos : Pos} {Q : Value → Shared → Prop} (I : Inv X pins σ H s) (hg : Gl X x) (hm : X.mg x = some u) (h : Q u s)
    (hd : (x == ("__debug__" : Str)) = false := by decide) : wpAny (model X.prog X.w) X.A (eval (.Name x pos) X.env) Q E s :=
  Calls.Name_function_global I.ok.kind hg (Calls.loadGlobal_global (by rw [I.ok.glob]; exact I.mod.glob.keeps I.bk) hm h) hd
theorem ld_blt {E : Value → Shared → Prop} {pins : List (Addr × Obj)} {s : Shared} {σ : St} {H : Hp} {x : Str} {u : Value} {pos : Pos} {Q : Value → Shared → Prop} (I : Inv X pins σ H s) (hg : Gl X x) (hm : X.mg x = none) (hv : bootBuiltins x = some u) (h : Q u s)
    (hn : x ≠ "__name__" := by decide) (hd : (x == ("__debug__" : Str)) = false := by decide) : wpAny (model X.prog X.w) X.A (eval (.Name x pos) X.env) Q E s := by
  obtain ⟨mb, h1, h2⟩ := I.mod.blt
  exact Calls.Name_function_global I.ok.kind hg (Calls.loadGlobal_builtin (by rw [I.ok.glob]; exact I.mod.glob.keeps I.bk) hm (by rw [I.ok.blt]; exact h1.keeps I.bk) ((h2 x hn).trans hv) h) hd
theorem pe_bltn {x : Str} {v : V} {u : Value} {pos : Pos} (hg : Gl X x) (hm : X.mg x = none) (hv : bootBuiltins x = some u) (r : RelV v u) (hn : x ≠ "__name__" := by decide) (hd : (x == ("__debug__" : Str)) = false := by decide) : PE X (.Name x pos) (tC v) :=
  fun _ _ _ H _ I h => ld_blt I hg hm hv ⟨v, H, I, r, h⟩ hn hd

/-! ### arithmetic -/
variable {a b : Expr} {ta tb : TE} {pos : Pos}
/-! ### comparisons -/
def PC (X : Cx) (op : CmpOp) (a b : Expr) (t : TE) : Prop :=
  ∀ (pins : List (Addr × Obj)) (s : Shared) (σ : St) (H : Hp) (Q : VK), Inv X pins σ H s → t σ H Q →
    wpAny (model X.prog X.w) X.A (eval a X.env) (fun v s₁ => wpAny (model X.prog X.w) X.A (eval b X.env) (fun u s₂ => wpAny (model X.prog X.w) X.A (compareOp op v u) (EP X pins σ Q) X.xe s₂) X.xe s₁) X.xe s
/-- a comparison as a value, as a test -/
def tB (t : TE) : TT := fun σ H Q => t σ H fun x H1 => ∃ c, x = .bl c ∧ Q c H1
theorem pt_cmp {op : CmpOp} {t : TE} (h : PC X op a b t) (h1 : behindInMarks op b = false := by first | exact nobehind _ (by decide) (by decide) | rfl) : PT X (.Compare a [op] [b] pos) (tB t) := by
  intro pins s σ H Q I hw
  refine wpAny_isTrue_Compare1 (thn (h pins s σ H _ I hw) fun v s1 h1 => thn h1 fun u s2 h2 => thn h2 fun c s3 ⟨x, H1, I1, r1, q1⟩ => ?_) h1
  obtain ⟨d, rfl, q⟩ := q1
  cases r1
  exact wpAny_truthy_bool ⟨H1, I1, q⟩
/-- an expression whose value is a bool, as a test -/
theorem pt_val {e : Expr} {t : TE} (h : PE X e t) (he : ∀ whole, isTrue e X.env whole = (do let v ← whole; standAt e.pos; holding [v] (truthy v)) := by intro _; rfl) : PT X e (tB t) := by
  intro pins s σ H Q I hw
  refine isTrue_plain (thn (h pins s σ H _ I hw) fun v s1 ⟨x, H1, I1, r1, q1⟩ => ?_) (he _)
  obtain ⟨d, rfl, q⟩ := q1
  cases r1
  exact wpAny_truthy_bool ⟨H1, I1, q⟩

/-! ### and, or, not -/
variable {tA tB' : TT} {rest : List Expr}
def tOr (t u : TT) : TT := fun σ H Q => t σ H fun c H1 => if c = true then Q true H1 else u σ H1 Q
def tNot (t : TT) : TT := fun σ H Q => t σ H fun c H1 => Q (!c) H1
theorem pw_or1 (ha : PT X a tA) : PW X (.BoolOp .Or [a] pos) tA := by
  intro wh pins s σ H Q I h
  refine isTrue_or (thn (ha pins s σ H Q I h) fun c s1 e => ?_)
  cases c with
  | false => exact isTrue_or_nil e
  | true => exact e
theorem pw_or (ha : PT X a tA) (hb : PW X (.BoolOp .Or (b :: rest) pos) tB') : PW X (.BoolOp .Or (a :: b :: rest) pos) (tOr tA tB') := by
  intro wh pins s σ H Q I h
  refine isTrue_or (thn (ha pins s σ H _ I h) fun c s1 ⟨H1, I1, q1⟩ => ?_)
  cases c with
  | true => exact ⟨H1, I1, q1⟩
  | false => exact hb wh pins s1 σ H1 Q I1 q1
theorem pt_not (ha : PT X a tA) : PT X (.UnaryOp .Not a pos) (tNot tA) := by
  intro pins s σ H Q I h
  exact isTrue_not (ha pins s σ H (fun c H1 => Q (!c) H1) I h)
/-- .. as values (bools) -/
def tAndV (ta tb : TE) : TE := fun σ H Q => ta σ H fun x H1 => ∃ c, x = .bl c ∧ if c = true then tb σ H1 Q else Q (.bl false) H1
def tOrV (ta tb : TE) : TE := fun σ H Q => ta σ H fun x H1 => ∃ c, x = .bl c ∧ if c = true then Q (.bl true) H1 else tb σ H1 Q
def tNotV (ta : TE) : TE := fun σ H Q => ta σ H fun x H1 => ∃ c, x = .bl c ∧ Q (.bl (!c)) H1
theorem pe_one {op} {t : TE} (h : PE X a t) : PE X (.BoolOp op [a] pos) t := fun pins s σ H Q I hw => BoolOp_one (h pins s σ H Q I hw)
theorem pe_and (ha : PE X a ta) (hb : PE X (.BoolOp .And (b :: rest) pos) tb) : PE X (.BoolOp .And (a :: b :: rest) pos) (tAndV ta tb) := by
  intro pins s σ H Q I h
  refine BoolOp_and (thn (ha pins s σ H _ I h) fun v s1 ⟨x, H1, I1, r1, q1⟩ => ?_)
  obtain ⟨c, rfl, q1⟩ := q1
  cases r1
  refine wpAny_truthy_bool ?_
  cases c with
  | true => exact hb pins s1 σ H1 Q I1 q1
  | false => exact ⟨.bl false, H1, I1, rfl, q1⟩
theorem pe_or (ha : PE X a ta) (hb : PE X (.BoolOp .Or (b :: rest) pos) tb) : PE X (.BoolOp .Or (a :: b :: rest) pos) (tOrV ta tb) := by
  intro pins s σ H Q I h
  refine BoolOp_or (thn (ha pins s σ H _ I h) fun v s1 ⟨x, H1, I1, r1, q1⟩ => ?_)
  obtain ⟨c, rfl, q1⟩ := q1
  cases r1
  refine wpAny_truthy_bool ?_
  cases c with
  | false => exact hb pins s1 σ H1 Q I1 q1
  | true => exact ⟨.bl true, H1, I1, rfl, q1⟩
theorem pe_not (ha : PE X a ta) : PE X (.UnaryOp .Not a pos) (tNotV ta) := by
  intro pins s σ H Q I h
  refine UnaryOp_ (thn (ha pins s σ H _ I h) fun v s1 ⟨x, H1, I1, r1, q1⟩ => ?_)
  obtain ⟨c, rfl, q1⟩ := q1
  cases r1
  exact not_of (wpAny_truthy_bool ⟨.bl (!c), H1, I1, rfl, q1⟩)
end
end L2

namespace L2
open PySem PySem.Spec PyProof.Rows

/-! ### a list, a tuple that is read: tracked, frozen, or an object of the module -/
def SqL (K : PySem.W.Frag) (H : Hp) (a : Addr) (xs : List V) : Prop :=
  Rd H a (.lst xs) ∨
    ∃ (o : Obj) (its : Array Value) (n : Nat), K.lookup a = some o ∧ o.cls = .type "list" ∧ o.dict = none ∧ o.data = .seq its n ∧ its.size ≤ sizeLine ∧ Vals xs its.toList
def SqT (K : PySem.W.Frag) (H : Hp) (a : Addr) (xs : List V) : Prop :=
  Rd H a (.tup xs) ∨
    ∃ (o : Obj) (its : Array Value) (n : Nat), K.lookup a = some o ∧ o.cls = .type "tuple" ∧ o.data = .seq its n ∧ its.size ≤ sizeLine ∧ Vals xs its.toList
def absV : Value → Option V
  | .none => some .non
  | .bool b => some (.bl b)
  | .int i _ => some (.int i)
  | .str x _ => some (.str x)
  | .bytes b _ => some (.byt b)
  | .float b _ => some (.flt b)
  | .ref a => some (.ref a)
  | .type n => some (.ty n)
  | _ => none
theorem RelV.abs {x : V} {u : Value} (r : RelV x u) : absV u = some x := by
  cases x with
  | non => cases r; rfl
  | bl _ => cases r; rfl
  | int _ => obtain ⟨t, rfl⟩ := r; rfl
  | str _ => obtain ⟨t, rfl⟩ := r; rfl
  | byt _ => obtain ⟨t, rfl⟩ := r; rfl
  | flt _ => obtain ⟨t, rfl⟩ := r; rfl
  | ref _ => cases r; rfl
  | ty _ => cases r; rfl
theorem RelV.inj {x y : V} {u : Value} (r : RelV x u) (q : RelV y u) : x = y := Option.some.inj (r.abs.symm.trans q.abs)
theorem Vals.inj : ∀ {xs ys : List V} {us : List Value}, Vals xs us → Vals ys us → xs = ys
  | _, _, _, .nil, .nil => rfl
  | _, _, _, .cons r t, .cons r' t' => by rw [r.inj r', Vals.inj t t']
section
variable {X : Cx} {pins : List (Addr × Obj)} {σ : St} {H : Hp} {s : Shared} {a : Addr} {xs ys : List V}
theorem SqL.of {K : PySem.W.Frag} (h : H a = some (.lst xs)) : SqL K H a xs := .inl (.inl h)
theorem SqT.of {K : PySem.W.Frag} (h : H a = some (.tup xs)) : SqT K H a xs := .inl (.inl h)
theorem Inv.list (I : Inv X pins σ H s) (h : SqL X.K H a xs) : ∃ its : List Value, Vals xs its ∧ PlainL s.heap a its.toArray ∧ xs.length ≤ sizeLine := by
  rcases h with h | ⟨o, its, n, hk, hc, hd, hs, hz, r⟩
  · obtain ⟨z, its, n, r, e⟩ := h.ok I.hok
    exact ⟨its, r, ⟨_, n, e, rfl, rfl, rfl⟩, z⟩
  · refine ⟨its.toList, r, ⟨o, n, I.kIn a o hk, hc, hd, by simpa using hs⟩, ?_⟩
    have e := r.length
    simp only [Array.length_toList] at e
    omega
theorem Inv.tuple (I : Inv X pins σ H s) (h : SqT X.K H a xs) : ∃ its : List Value, Vals xs its ∧ IsTup s.heap a its.toArray ∧ xs.length ≤ sizeLine := by
  rcases h with h | ⟨o, its, n, hk, hc, hs, hz, r⟩
  · obtain ⟨z, its, r, p⟩ := h.ok I.hok
    exact ⟨its, r, p, z⟩
  · refine ⟨its.toList, r, ⟨o, I.kIn a o hk, hc, n, by simpa using hs⟩, ?_⟩
    have e := r.length
    simp only [Array.length_toList] at e
    omega
theorem Inv.list_inj (I : Inv X pins σ H s) (h : SqL X.K H a xs) (h' : SqL X.K H a ys) : xs = ys := by
  obtain ⟨its, r, ⟨o, n, e, _, _, d⟩, _⟩ := I.list h
  obtain ⟨its', r', ⟨o', n', e', _, _, d'⟩, _⟩ := I.list h'
  rw [e] at e'; cases e'
  rw [d] at d'
  injection d' with d1 _
  have : its = its' := by simpa using congrArg Array.toList d1
  subst this
  exact r.inj r'
theorem Inv.tuple_inj (I : Inv X pins σ H s) (h : SqT X.K H a xs) (h' : SqT X.K H a ys) : xs = ys := by
  obtain ⟨its, r, ⟨o, e, _, n, d⟩, _⟩ := I.tuple h
  obtain ⟨its', r', ⟨o', e', _, n', d'⟩, _⟩ := I.tuple h'
  rw [e] at e'; cases e'
  rw [d] at d'
  injection d' with d1 _
  have : its = its' := by simpa using congrArg Array.toList d1
  subst this
  exact r.inj r'
end

/-! ### another wish about exceptions -/
abbrev Cx.wish (X : Cx) (E : Value → Shared → Prop) : Cx := { X with xe := E }
/-- no exception leaves -/
abbrev Cx.nox (X : Cx) : Cx := X.wish fun _ _ => False
theorem Cx.Ok.wish {X : Cx} (ok : X.Ok) (E : Value → Shared → Prop) : (X.wish E).Ok :=
  ⟨ok.mod, ok.kind, ok.glob, ok.blt, ok.above, ok.inj, ok.has, ok.cab, ok.hd, ok.frames, ok.stk, ok.exf, ok.bs, ok.bsz, ok.noex, ok.exfs, ok.funs, ok.frf⟩
theorem Cx.Ok.unwish {X : Cx} {E : Value → Shared → Prop} (ok : (X.wish E).Ok) : X.Ok :=
  ⟨ok.mod, ok.kind, ok.glob, ok.blt, ok.above, ok.inj, ok.has, ok.cab, ok.hd, ok.frames, ok.stk, ok.exf, ok.bs, ok.bsz, ok.noex, ok.exfs, ok.funs, ok.frf⟩
section
variable {X : Cx} {pins : List (Addr × Obj)} {σ : St} {H : Hp} {s : Shared} {E : Value → Shared → Prop}
theorem Inv.wish (I : Inv X pins σ H s) (E : Value → Shared → Prop) : Inv (X.wish E) pins σ H s := ⟨I.ok.wish E, I.os, I.bare, I.base, I.loc, I.cell, I.free, I.freeC, I.pin, I.hok, I.len⟩
theorem Inv.unwish (I : Inv (X.wish E) pins σ H s) : Inv X pins σ H s := ⟨I.ok.unwish, I.os, I.bare, I.base, I.loc, I.cell, I.free, I.freeC, I.pin, I.hok, I.len⟩
theorem SP.unwish {D : Ends} {f : Flow} {s' : Shared} (h : SP (X.wish E) pins D f s') : SP X pins D f s' := by
  cases f with
  | next => obtain ⟨σ', H', I, q⟩ := h; exact ⟨σ', H', I.unwish, q⟩
  | brk => obtain ⟨σ', H', I, q⟩ := h; exact ⟨σ', H', I.unwish, q⟩
  | cont => obtain ⟨σ', H', I, q⟩ := h; exact ⟨σ', H', I.unwish, q⟩
  | ret u => obtain ⟨v, σ', H', I, r, q⟩ := h; exact ⟨v, σ', H', I.unwish, r, q⟩
theorem PSs.nox {st : List Stmt} {t : TS} (h : PSs X.nox st t) : PSs X st t := fun pins s σ H D I hw =>
  wpAny_mono (h pins s σ H D (I.wish _) hw) (fun _ _ q => q.unwish) fun _ _ z => False.elim z
end

/-! ### blocks and small statements -/
section
variable {X : Cx} {st : Stmt} {rest : List Stmt} {t u : TS} {e : Expr} {te : TE} {pos : Pos}
def tNext : TS := fun D σ H => D.nx σ H
def tSeq (t u : TS) : TS := fun D σ H => t { D with nx := u D } σ H
theorem pss_nil : PSs X [] tNext := fun _ _ σ H _ I h => wpAny_execs_nil ⟨σ, H, I, h⟩
theorem pss_cons (h1 : PS X st t) (h2 : PSs X rest u) : PSs X (st :: rest) (tSeq t u) := by
  intro pins s σ H D I h
  refine wpAny_execs_cons (thn (h1 pins s σ H { D with nx := u D } I h) fun f s1 q => ?_)
  cases f with
  | next =>
    obtain ⟨σ', H', I', q⟩ := q
    exact h2 pins s1 σ' H' D I' q
  | ret v => exact q
  | brk => exact q
  | cont => exact q
theorem pss_one (h1 : PS X st t) : PSs X [st] t := by
  intro pins s σ H D I h
  refine wpAny_execs_cons (thn (h1 pins s σ H D I h) fun f s1 q => ?_)
  cases f with
  | next => exact wpAny_execs_nil q
  | ret v => exact q
  | brk => exact q
  | cont => exact q
/-- in a def's body nothing is shown -/
theorem Inv.quiet {pins : List (Addr × Obj)} {σ : St} {H : Hp} {s : Shared} (I : Inv X pins σ H s) : interactive X.env = false := by simp [interactive, I.ok.kind]
/-- an expression whose value is dropped -/
def tDrop (te : TE) : TS := fun D σ H => te σ H fun _ H1 => D.nx σ H1
theorem ps_expr (he : PE X e te) (hs : swapsWith e none pos.line X.env = pure false := by rfl) : PS X (.Expr e pos) (tDrop te) := by
  intro pins s σ H D I h
  exact wpAny_Expr_any (thn (he pins s σ H _ I h) fun v s1 ⟨x, H1, I1, r1, q1⟩ => ⟨σ, H1, I1, q1⟩) I.quiet hs
def tRet (te : TE) : TS := fun D σ H => te σ H D.rt
theorem ps_ret (he : PE X e te) : PS X (.Return (some e) pos) (tRet te) := by
  intro pins s σ H D I h
  exact wpAny_Return_some (thn (he pins s σ H _ I h) fun v s1 ⟨x, H1, I1, r1, q1⟩ => ⟨x, σ, H1, I1, r1, q1⟩)
def tIfS (c : TT) (t u : TS) : TS := fun D σ H => c σ H fun b H1 => if b = true then t D σ H1 else u D σ H1
theorem ps_if {c : Expr} {a b : List Stmt} {tc : TT} (hc : PT X c tc) (ha : PSs X a t) (hb : PSs X b u) : PS X (.If c a b pos) (tIfS tc t u) := by
  intro pins s σ H D I h
  refine wpAny_If (thn (hc pins s σ H _ I h) fun d s1 ⟨H1, I1, q1⟩ => ?_)
  cases d with
  | true => exact ha pins s1 σ H1 D I1 q1
  | false => exact hb pins s1 σ H1 D I1 q1
end

/-! ### targets -/
abbrev TG := V → St → Hp → (St → Hp → Prop) → Prop
abbrev TGs := List V → St → Hp → (St → Hp → Prop) → Prop
def PG (X : Cx) (target : Expr) (t : TG) : Prop :=
  ∀ (pins : List (Addr × Obj)) (s : Shared) (σ : St) (H : Hp) (v : V) (u : Value) (Q : St → Hp → Prop), Inv X pins σ H s → RelV v u → t v σ H Q →
    wpAny (model X.prog X.w) X.A (assign target X.env u) (fun _ s' => ∃ σ' H', Inv X pins σ' H' s' ∧ Q σ' H') X.xe s
/-- several targets, one after another -/
def PGs (X : Cx) (ts : List Expr) (t : TGs) : Prop :=
  ∀ (pins : List (Addr × Obj)) (s : Shared) (σ : St) (H : Hp) (vs : List V) (us : List Value) (Q : St → Hp → Prop), Inv X pins σ H s → Vals vs us → t vs σ H Q →
    wpAny (model X.prog X.w) X.A (assignInOrder ((assignEach ts X.env).map (·.2)) us) (fun _ s' => ∃ σ' H', Inv X pins σ' H' s' ∧ Q σ' H') X.xe s
/-- o[i] = v, by values -/
abbrev TSet := V → V → V → Hp → (Hp → Prop) → Prop
def PSet (X : Cx) (t : TSet) : Prop :=
  ∀ (pins : List (Addr × Obj)) (s : Shared) (σ : St) (H : Hp) (o i v : V) (ov iv u : Value) (Q : Hp → Prop), Inv X pins σ H s → RelV o ov → RelV i iv → RelV v u → t o i v H Q →
    wpAny (model X.prog X.w) X.A (setItem ov iv u) (fun _ s' => ∃ H', Inv X pins σ H' s' ∧ Q H') X.xe s
section
variable {X : Cx} {pos : Pos}
def gName (i : Nat) : TG := fun v σ H Q => Q (σ.set i (some v)) H
theorem pg_name {i : Nat} {x : Str} (hN : X.N.Nodup) (hi : X.N[i]? = some x) (hx : Loc X.env.scope x) (hf : X.fn x = true ∨ X.env.scope.names.lookup x = some .local := by first | exact .inl rfl | exact .inr rfl | assumption) : PG X (.Name x pos) (gName i) := by
  intro pins s σ H v u Q I r h
  exact wpAny_assign_Name (store_ok I hN hi hx r (fun s' I' => ⟨_, H, I', h⟩) hf)
def gNil : TGs := fun vs σ H Q => vs = [] ∧ Q σ H
def gCons (t : TG) (u : TGs) : TGs := fun vs σ H Q => ∃ v r, vs = v :: r ∧ t v σ H fun σ' H' => u r σ' H' Q
theorem pgs_nil : PGs X [] gNil := by
  intro pins s σ H vs us Q I r h
  obtain ⟨e, h⟩ := h
  subst e
  cases r
  exact assignInOrder_nil ⟨σ, H, I, h⟩
theorem pgs_cons {e : Expr} {es : List Expr} {t : TG} {u : TGs} (h1 : PG X e t) (h2 : PGs X es u)
    (hs : (assignEach (e :: es) X.env).map (·.2) = assign e X.env :: (assignEach es X.env).map (·.2) := by rfl) : PGs X (e :: es) (gCons t u) := by
  intro pins s σ H vs us Q I r h
  obtain ⟨v, vr, e1, h⟩ := h
  subst e1
  cases r with
  | cons r rr =>
    rw [hs]
    refine assignInOrder_cons (thn (h1 pins s σ H _ _ _ I r h) fun _ s1 ⟨σ1, H1, I1, q1⟩ => ?_)
    exact h2 pins s1 σ1 H1 _ _ Q I1 rr q1
/-- (a, b, ..) = a tuple of that length -/
def gTup (K : PySem.W.Frag) (n : Nat) (t : TGs) : TG := fun v σ H Q => ∃ a xs, v = .ref a ∧ SqT K H a xs ∧ xs.length = n ∧ t xs σ H Q
theorem pg_tup {es : List Expr} {k : Nat} {t : TGs} {n : Nat} (hc : X.calm = true) (h : PGs X es t)
    (hn : (assignEach es X.env).length = n := by rfl) (hst : (assignEach es X.env).findIdx? (·.1) = none := by rfl) : PG X (.Tuple es k pos) (gTup X.K n t) := by
  intro pins s σ H v u Q I r hw
  obtain ⟨a, xs, e1, hq, hl, hw⟩ := hw
  subst e1
  cases r
  obtain ⟨its, rv, ht, hz⟩ := I.tuple hq
  refine assign_Tuple_tuple (I.ok.hd hc) ht (by simp [hn, ← hl, rv.length]) hst fun h' hx => ?_
  have I1 : Inv X pins σ H { s with heap := h' } := I.kept (t' := s.toks) fun b o e => hx b o (Nat.ne_of_lt (Heap.lt_size e)) e
  exact h pins _ σ H xs _ Q I1 (by simpa using rv) hw
/-- o[i] = .. -/
def gSub (to ti : TE) (t : TSet) : TG := fun v σ H Q => to σ H fun o H1 => ti σ H1 fun i H2 => t o i v H2 fun H3 => Q σ H3
theorem pg_sub {o i : Expr} {to ti : TE} {t : TSet} (ho : PE X o to) (hi : PE X i ti) (hs : PSet X t)
    (ha : ∀ v, assign (.Subscript o i pos) X.env v = (do
      let ov ← holding [v] (eval o X.env)
      let iv ← holding [v, ov] (eval i X.env)
      standAt pos
      holding [v, ov, iv] (setItem ov iv v)
      release [v, ov, iv] []) := by intro _; rfl) : PG X (.Subscript o i pos) (gSub to ti t) := by
  intro pins s σ H v u Q I r h
  rw [ha]
  refine wpAny_bind (wpAny_holding (thn (ho pins s σ H _ I h) fun ov s1 ⟨x, H1, I1, r1, q1⟩ => ?_))
  refine wpAny_bind (wpAny_holding (thn (hi pins s1 σ H1 _ I1 q1) fun iv s2 ⟨y, H2, I2, r2, q2⟩ => ?_))
  refine wpAny_bind (wpAny_standAt (wpAny_bind (wpAny_holding (thn (hs pins s2 σ H2 x y v ov iv u _ I2 r1 r2 r q2) fun _ s3 ⟨H3, I3, q3⟩ => ?_))))
  exact wpAny_release ⟨σ, H3, I3, q3⟩
/-- target = value -/
def tAsg (te : TE) (g : TG) : TS := fun D σ H => te σ H fun x H1 => g x σ H1 D.nx
theorem ps_asg {tg e : Expr} {te : TE} {g : TG} (he : PE X e te) (hg : PG X tg g) (hs : swapsWithSole [tg] e pos.line X.env = pure false := by rfl) (hw : swappedStores [tg] e X.env = pure none := by rfl)
    (h1 : (assignEach [tg] X.env).map (·.2) = [assign tg X.env] := by rfl) : PS X (.Assign [tg] e pos) (tAsg te g) := by
  intro pins s σ H D I h
  refine wpAny_Assign_stores (thn (he pins s σ H _ I h) fun v s1 ⟨x, H1, I1, r1, q1⟩ => ?_) hs hw
  rw [h1]
  exact thn (hg pins s1 σ H1 x v _ I1 r1 q1) fun _ s2 q => q
/-- name = value -/
theorem ps_set {i : Nat} {x : Str} {e : Expr} {te : TE} {pos' : Pos} (hN : X.N.Nodup) (hi : X.N[i]? = some x) (hx : Loc X.env.scope x) (he : PE X e te) (hs : swapsWith e (some (.Name x pos')) pos.line X.env = pure false := by rfl) (hf : X.fn x = true ∨ X.env.scope.names.lookup x = some .local := by first | exact .inl rfl | exact .inr rfl | assumption) :
    PS X (.Assign [.Name x pos'] e pos) (tAsg te (gName i)) := by
  intro pins s σ H D I h
  refine wpAny_Assign_Name (thn (he pins s σ H _ I h) fun v s1 ⟨y, H1, I1, r1, q1⟩ => ?_) hs
  exact store_ok I1 hN hi hx r1 (fun s2 I2 => ⟨_, H1, I2, q1⟩) hf
end

/-! ### while -/
section
variable {X : Cx} {pos : Pos}
end

/-! ### what a loop or a comprehension walks -/
/-- at turn i: it yields x (the heap may grow), or it stops -/
structure It where
  go : Nat → Hp → Prop
  yld : Nat → Hp → V → Hp → Prop
  stop : Nat → Hp → Prop
/-- the iterator's own objects may turn: they are not the frame's, not pinned, younger than the entry (or a comprehension's own) -/
def FpOk (X : Cx) (pins : List (Addr × Obj)) (H : Hp) (b : Addr) : Prop :=
  H b = none ∧ b ≠ X.env.locals ∧ b ∉ X.fs ∧ (b ∈ X.ex ∨ X.s₀.heap.objs.size ≤ b) ∧ (∀ x c, X.env.cells.lookup x = some c → c ≠ b) ∧ ∀ p ∈ X.pn ++ pins, p.1 ≠ b
theorem Inv.fpOk {X : Cx} {pins : List (Addr × Obj)} {σ : St} {H H' : Hp} {s : Shared} {b : Addr} (I : Inv X pins σ H s) (hb : s.heap.objs.size ≤ b) (hn : H' b = none) : FpOk X pins H' b := by
  refine ⟨hn, Nat.ne_of_gt (Nat.lt_of_lt_of_le I.lt hb), I.nofs hb, .inr (Nat.le_trans I.sz hb), fun x c e z => ?_, fun p hp z => ?_⟩
  · obtain ⟨v, q⟩ := I.cell x c e
    exact absurd (Nat.lt_of_lt_of_le q.lt (by rw [z]; exact hb)) (Nat.lt_irrefl _)
  · exact absurd (Nat.lt_of_lt_of_le (Heap.lt_size (I.pin p hp).1) (by rw [z]; exact hb)) (Nat.lt_irrefl _)
structure Turn (P : Program) (w : World) (K : PySem.W.Frag) (tg : Expr) (J : It) (fp : List Addr) (it : Addr) (tn : Nat → Heap → Prop) : Prop where
  mem : it ∈ fp
  obj : ∀ i h, tn i h → ∀ b ∈ fp, ∃ o, h.get? b = some o ∧ ∀ v, o.data ≠ .cell v
  keep : ∀ i h h', tn i h → (∀ b ∈ fp, ∀ o, h.get? b = some o → h'.get? b = some o) → tn i h'
  item : ∀ (X : Cx), X.prog = P → X.w = w → X.K = K → X.calm = true → ∀ (i : Nat) (pins : List (Addr × Obj)) (s : Shared) (σ : St) (H : Hp) (E : Value → Shared → Prop), Inv X pins σ H s → (∀ b ∈ fp, FpOk X pins H b) → tn i s.heap → J.go i H →
    wpAny (model P w) X.A (pyNext (.ref it)) (fun r s1 => ∃ u, r = some u ∧
      wpAny (model P w) X.A (letOwnedTupleGo tg (.ref it) u) (fun _ s2 => ∃ x H', Inv X pins σ H' s2 ∧ RelV x u ∧ J.yld i H x H' ∧ tn (i + 1) s2.heap ∧ ∀ b ∈ fp, H' b = none) E s1) E s
  done : ∀ (X : Cx), X.prog = P → X.w = w → X.K = K → X.calm = true → ∀ (i : Nat) (pins : List (Addr × Obj)) (s : Shared) (σ : St) (H : Hp) (E : Value → Shared → Prop), Inv X pins σ H s → (∀ b ∈ fp, FpOk X pins H b) → tn i s.heap → J.stop i H →
    wpAny (model P w) X.A (pyNext (.ref it)) (fun r s1 => r = none ∧ Inv X pins σ H s1) E s
  self : ∀ (A : Around) (i : Nat) (s : Shared) (Q : Value → Shared → Prop) (E : Value → Shared → Prop), tn i s.heap → Q (.ref it) s → wpAny (model P w) A (pyIter (.ref it)) Q E s
abbrev TI := St → Hp → (It → Hp → Prop) → Prop
/-- an iterator has come -/
def PIE (X : Cx) (pins : List (Addr × Obj)) (σ : St) (tg : Expr) (R : It → Hp → Prop) (itv : Value) (s2 : Shared) : Prop :=
  ∃ (it : Addr) (fp : List Addr) (tn : Nat → Heap → Prop) (J : It) (H' : Hp), itv = .ref it ∧ Inv X pins σ H' s2 ∧ Turn X.prog X.w X.K tg J fp it tn ∧ tn 0 s2.heap ∧ (∀ b ∈ fp, FpOk X pins H' b) ∧ R J H'
def PI (X : Cx) (tg iter : Expr) (wi : TI) : Prop :=
  ∀ (pins : List (Addr × Obj)) (s : Shared) (σ : St) (H : Hp) (R : It → Hp → Prop), Inv X pins σ H s → wi σ H R →
    wpAny (model X.prog X.w) X.A (eval iter X.env) (fun v s1 => wpAny (model X.prog X.w) X.A (pyIter v) (PIE X pins σ tg R) X.xe s1) X.xe s

/-- the step ahead of the store is nothing for an iterator that keeps no tuple -/
theorem go_of {M : Model} {A : Around} {E : Value → Shared → Prop} {s : Shared} {tg : Expr} {it : Addr} {u : Value} {o : Obj} {n : String} {vs : Array Value} {Q : Unit → Shared → Prop} (ho : s.heap.get? it = some o) (hc : o.cls = .type n) (hd : o.data = .fields vs)
    (hn : ["enumerate", "zip", "dict_itemiterator", "dict_reverseitemiterator", "odict_iterator", "itertools.zip_longest", "itertools.pairwise"].contains n = false) (hQ : Q () s) : wpAny M A (letOwnedTupleGo tg (.ref it) u) Q E s := by
  unfold letOwnedTupleGo
  cases tg <;> first
    | exact wpAny_pure hQ
    | (cases u <;> first
        | exact wpAny_pure hQ
        | (refine wpAny_bind (wpAny_load ho ?_)
           rw [hc, hd]
           show wpAny M A (if (["enumerate", "zip", "dict_itemiterator", "dict_reverseitemiterator", "odict_iterator", "itertools.zip_longest", "itertools.pairwise"].contains n && vs[0]? == some (rawInt _)) = true then _ else _) Q E s
           rw [if_neg (by intro h; rw [hn, Bool.false_and] at h; cases h)]
           exact wpAny_pure hQ))

/-- the list at a, as it stands at each turn (a loop may append to it) -/
def Itl (K : PySem.W.Frag) (a : Addr) : It :=
  ⟨fun i H => ∃ xs x, SqL K H a xs ∧ xs[i]? = some x, fun i H x H' => H' = H ∧ ∀ xs, SqL K H a xs → xs[i]? = some x, fun i H => ∃ xs, SqL K H a xs ∧ xs.length ≤ i⟩
def Itt (K : PySem.W.Frag) (a : Addr) : It :=
  ⟨fun i H => ∃ xs x, SqT K H a xs ∧ xs[i]? = some x, fun i H x H' => H' = H ∧ ∀ xs, SqT K H a xs → xs[i]? = some x, fun i H => ∃ xs, SqT K H a xs ∧ xs.length ≤ i⟩
/-- lo, lo + 1, .. (n of them) -/
def Itr (lo : Int) (n : Nat) : It := ⟨fun i _ => i < n, fun i H x H' => H' = H ∧ x = .int (lo + i), fun i _ => n ≤ i⟩
theorem turn_list {P : Program} {w : World} {K : PySem.W.Frag} {tg : Expr} (a it : Addr) : Turn P w K tg (Itl K a) [it] it (fun i h => h.IsListIter it a i) where
  mem := by simp
  obj := fun i h st b hb => by
    have e : b = it := by simpa using hb
    subst e
    obtain ⟨o, e, c, d⟩ := st
    exact ⟨o, e, fun v z => by rw [d] at z; cases z⟩
  keep := fun i h h' st k => st.at fun o e => k it (by simp) o e
  item := by
    intro X hP hw hK hc i pins s σ H E I hf st hg
    subst hP hw hK
    obtain ⟨xs, x, hq, hx⟩ := hg
    obtain ⟨its, rv, p, hz⟩ := I.list hq
    obtain ⟨u, hu, ru⟩ := rv.get hx
    obtain ⟨f0, f1, f2, f3, f4, f5⟩ := hf it (by simp)
    refine wpAny_pyNext_list_item st p.isList (x := u) (by simpa using hu) fun h' st' sb => ?_
    have I1 : Inv X pins σ H { s with heap := h' } := I.turned (t' := s.toks) (fun b o hb e => (sb.2 b hb).trans e) f0 f1 f3 f4 f5
    obtain ⟨o, e, c, d⟩ := id st'
    exact ⟨u, rfl, go_of (s := { s with heap := h' }) e c d (by decide) ⟨x, H, I1, ru, ⟨rfl, fun ys hy => by rw [I.list_inj hy hq]; exact hx⟩, st', fun b hb => (hf b hb).1⟩⟩
  done := by
    intro X hP hw hK hc i pins s σ H E I hf st hg
    subst hP hw hK
    obtain ⟨xs, hq, hx⟩ := hg
    obtain ⟨its, rv, p, hz⟩ := I.list hq
    obtain ⟨f0, f1, f2, f3, f4, f5⟩ := hf it (by simp)
    have hl := rv.length
    exact wpAny_pyNext_list_end (I.ok.hd hc) st p.isList (by simp; omega) fun h' eb => ⟨rfl, I.turned (t' := s.toks) (fun b o hb e => eb b o hb e) f0 f1 f3 f4 f5⟩
  self := fun _ _ _ _ _ st h => wpAny_pyIter_listiter st h
theorem turn_tuple {P : Program} {w : World} {K : PySem.W.Frag} {tg : Expr} (a it : Addr) : Turn P w K tg (Itt K a) [it] it (fun i h => h.IsTupleIter it a i) where
  mem := by simp
  obj := fun i h st b hb => by
    have e : b = it := by simpa using hb
    subst e
    obtain ⟨o, e, c, d⟩ := st
    exact ⟨o, e, fun v z => by rw [d] at z; cases z⟩
  keep := fun i h h' st k => st.at fun o e => k it (by simp) o e
  item := by
    intro X hP hw hK hc i pins s σ H E I hf st hg
    subst hP hw hK
    obtain ⟨xs, x, hq, hx⟩ := hg
    obtain ⟨its, rv, p, hz⟩ := I.tuple hq
    obtain ⟨u, hu, ru⟩ := rv.get hx
    obtain ⟨f0, f1, f2, f3, f4, f5⟩ := hf it (by simp)
    refine wpAny_pyNext_tuple_item st (show s.heap.IsTuple a its.toArray from p) (x := u) (by simpa using hu) fun h' st' sb => ?_
    have I1 : Inv X pins σ H { s with heap := h' } := I.turned (t' := s.toks) (fun b o hb e => (sb.2 b hb).trans e) f0 f1 f3 f4 f5
    obtain ⟨o, e, c, d⟩ := id st'
    exact ⟨u, rfl, go_of (s := { s with heap := h' }) e c d (by decide) ⟨x, H, I1, ru, ⟨rfl, fun ys hy => by rw [I.tuple_inj hy hq]; exact hx⟩, st', fun b hb => (hf b hb).1⟩⟩
  done := by
    intro X hP hw hK hc i pins s σ H E I hf st hg
    subst hP hw hK
    obtain ⟨xs, hq, hx⟩ := hg
    obtain ⟨its, rv, p, hz⟩ := I.tuple hq
    obtain ⟨f0, f1, f2, f3, f4, f5⟩ := hf it (by simp)
    have hl := rv.length
    exact wpAny_pyNext_tuple_end (I.ok.hd hc) st (show s.heap.IsTuple a its.toArray from p) (by simp; omega) fun h' eb => ⟨rfl, I.turned (t' := s.toks) (fun b o hb e => eb b o hb e) f0 f1 f3 f4 f5⟩
  self := fun _ _ _ _ _ st h => wpAny_pyIter_tupleiter st h
theorem turn_range {P : Program} {w : World} {K : PySem.W.Frag} {tg : Expr} (it : Addr) (lo : Int) (n : Nat) : Turn P w K tg (Itr lo n) [it] it (fun i h => IsRangeIter h it (lo + (i : Nat) * 1) ((n : Int) - (i : Nat)) 1) where
  mem := by simp
  obj := fun i h st b hb => by
    have e : b = it := by simpa using hb
    subst e
    exact ⟨_, st, fun v z => by
      have z' : Data.fields _ = Data.cell v := z
      cases z'⟩
  keep := fun i h h' st k => k it (by simp) _ st
  item := by
    intro X hP hw hK hc i pins s σ H E I hf st hg
    subst hP hw hK
    obtain ⟨f0, f1, f2, f3, f4, f5⟩ := hf it (by simp)
    have W := Walks.range (prog := X.prog) (w := X.w) (I.ok.hd hc) it lo 1 n
    refine W.item i s _ _ hg st fun v h' tk hv st' kk => ?_
    obtain ⟨t, rfl⟩ := hv
    have I1 : Inv X pins σ H { s with heap := h', toks := tk } := I.turned (fun b o hb e => kk b o (by simpa using hb) e) f0 f1 f3 f4 f5
    refine ⟨_, rfl, go_of (s := { s with heap := h', toks := tk }) (n := "range_iterator") st' rfl rfl (by decide) ⟨.int (lo + i), H, I1, ⟨t, ?_⟩, ⟨rfl, rfl⟩, st', fun b hb => (hf b hb).1⟩⟩
    rw [Int.mul_one]
  done := by
    intro X hP hw hK hc i pins s σ H E I hf st hg
    subst hP hw hK
    obtain ⟨f0, f1, f2, f3, f4, f5⟩ := hf it (by simp)
    exact wpAny_pyNext_range_end (I.ok.hd hc) st (by have : n ≤ i := hg; omega) fun h' eb => ⟨rfl, I.turned (t' := s.toks) (fun b o hb e => eb b o hb e) f0 f1 f3 f4 f5⟩
  self := fun _ _ _ _ _ st h => wpAny_pyIter_rangeiter st h
end L2

namespace L2
open PySem PySem.Spec PyProof.Rows
section
variable {X : Cx} {tg : Expr}
def iList (K : PySem.W.Frag) (tl : TE) : TI := fun σ H R => tl σ H fun x H1 => ∃ a, x = .ref a ∧ (∃ xs, SqL K H1 a xs) ∧ R (Itl K a) H1
def iTup (K : PySem.W.Frag) (tl : TE) : TI := fun σ H R => tl σ H fun x H1 => ∃ a, x = .ref a ∧ (∃ xs, SqT K H1 a xs) ∧ R (Itt K a) H1
theorem pi_list {l : Expr} {tl : TE} (hl : PE X l tl) : PI X tg l (iList X.K tl) := by
  intro pins s σ H R I h
  refine thn (hl pins s σ H _ I h) fun v s1 ⟨x, H1, I1, r1, q1⟩ => ?_
  obtain ⟨a, e, ⟨xs, hq⟩, q⟩ := q1
  subst e
  cases r1
  obtain ⟨its, rv, p, hz⟩ := I1.list hq
  refine wpAny_pyIter_list p.isList ?_
  refine ⟨s1.heap.objs.size, [s1.heap.objs.size], _, _, H1, rfl, I1.kept (t' := s1.toks) fun b o e => Heap.get?_push_of_some _ e, turn_list a _, ⟨_, Heap.get?_push_size _ rfl, rfl, rfl⟩, fun b hb => ?_, q⟩
  have e : b = s1.heap.objs.size := by simpa using hb
  subst e
  exact I1.fpOk (Nat.le_refl _) (I1.hok.fresh (Nat.le_refl _))
theorem pi_tup {l : Expr} {tl : TE} (hl : PE X l tl) : PI X tg l (iTup X.K tl) := by
  intro pins s σ H R I h
  refine thn (hl pins s σ H _ I h) fun v s1 ⟨x, H1, I1, r1, q1⟩ => ?_
  obtain ⟨a, e, ⟨xs, hq⟩, q⟩ := q1
  subst e
  cases r1
  obtain ⟨its, rv, p, hz⟩ := I1.tuple hq
  refine wpAny_pyIter_tuple (show s1.heap.IsTuple a its.toArray from p) ?_
  refine ⟨s1.heap.objs.size, [s1.heap.objs.size], _, _, H1, rfl, I1.kept (t' := s1.toks) fun b o e => Heap.get?_push_of_some _ e, turn_tuple a _, ⟨_, Heap.get?_push_size _ rfl, rfl, rfl⟩, fun b hb => ?_, q⟩
  have e : b = s1.heap.objs.size := by simpa using hb
  subst e
  exact I1.fpOk (Nat.le_refl _) (I1.hok.fresh (Nat.le_refl _))
/-- a range object just made, walked -/
theorem range_it {pins : List (Addr × Obj)} {σ : St} {H : Hp} {s : Shared} {R : It → Hp → Prop} {E : Value → Shared → Prop} {lo hi : Int} {t u v : Tok} {tk : Nat} (I : Inv X pins σ H s) (h1 : -(2 ^ 62) ≤ lo) (h2 : lo < 2 ^ 62) (h3 : -(2 ^ 62) ≤ hi) (h4 : hi < 2 ^ 62)
    (q : R (Itr lo (hi - lo).toNat) H) : wpAny (model X.prog X.w) X.A (pyIter (.ref s.heap.objs.size)) (PIE X pins σ tg R) E { s with heap := s.heap.push { cls := .type "range", data := .fields #[.int lo t, .int hi u, .int 1 v] }, toks := tk } := by
  refine wpAny_pyIter_range (IsRange.new ..) (small_one h1 h2 h3 h4) ?_
  have I1 : Inv X pins σ H { s with heap := s.heap.push { cls := .type "range", data := .fields #[.int lo t, .int hi u, .int 1 v] }, toks := tk } := I.kept fun b o e => Heap.get?_push_of_some _ e
  refine ⟨(s.heap.push { cls := .type "range", data := .fields #[.int lo t, .int hi u, .int 1 v] }).objs.size, [(s.heap.push { cls := .type "range", data := .fields #[.int lo t, .int hi u, .int 1 v] }).objs.size], _, _, H, rfl,
    I1.kept (t' := tk) fun b o e => Heap.get?_push_of_some _ e, turn_range _ lo (hi - lo).toNat, ?_, fun b hb => ?_, q⟩
  · have e1 : lo + ((0 : Nat) : Int) * 1 = lo := by simp
    have e2 : (((hi - lo).toNat : Nat) : Int) - ((0 : Nat) : Int) = Builtin.Range.rangeSize lo hi 1 := by rw [rangeSize_one]; split <;> omega
    show IsRangeIter _ _ (lo + ((0 : Nat) : Int) * 1) ((((hi - lo).toNat : Nat) : Int) - ((0 : Nat) : Int)) 1
    rw [e1, e2]
    exact Heap.get?_push_size _ rfl
  · have e : b = (s.heap.push { cls := .type "range", data := .fields #[.int lo t, .int hi u, .int 1 v] }).objs.size := by simpa using hb
    subst e
    exact I1.fpOk (Nat.le_refl _) (I1.hok.fresh (Nat.le_refl _))
def iRng1 (ta : TA) : TI := fun σ H R => ta σ H fun vs H1 => ∃ j : Int, vs = [.int j] ∧ -(2 ^ 62) ≤ j ∧ j < 2 ^ 62 ∧ R (Itr 0 j.toNat) H1
theorem pi_range1 {a : Expr} {ta : TA} {p pos : Pos} (hg : Gl X "range") (hm : X.mg "range" = none) (ha : PA X [a] ta) (hs : starEach [a] X.env = [(false, eval a X.env)] := by rfl) : PI X tg (.Call (.Name "range" p) [a] [] pos) (iRng1 ta) := by
  intro pins s σ H R I h
  refine Call_ (ld_blt I hg hm boot_range (PyProof.Rows.callWith_type1 (thn (ha pos pins s σ H _ I h) fun us s1 ⟨vs, H1, I1, r1, q1⟩ => ?_) hs rfl))
  obtain ⟨j, e, q1, q2, q⟩ := q1
  subst e
  cases r1 with
  | cons r rr =>
    cases rr
    obtain ⟨t, rfl⟩ := r
    exact call_range_1 (range_it I1 (by omega) (by omega) q1 q2 (by simpa using q))
/-! ### for -/
/-- W: the invariant by the turn and a measure; N: what the body is to reach -/
def tFor (wi : TI) (g : TG) (tb : TS) : TS := fun D σ H => wi σ H fun J H1 => ∃ W : Nat → Nat → St → Hp → Prop, (∃ m, W 0 m σ H1) ∧ ∀ i m σ H, W i m σ H →
  (J.stop i H ∧ D.nx σ H) ∨ (J.go i H ∧ ∃ N : St → Hp → Prop, (∀ σ' H', N σ' H' → ∃ m', m' < m ∧ W (i + 1) m' σ' H') ∧ ∀ x H', J.yld i H x H' → g x σ H' fun σ2 H2 => tb { D with nx := N, ct := N, bk := D.nx } σ2 H2)
/-- the records at fp as they stand -/
def pinsAt (fp : List Addr) (h : Heap) : List (Addr × Obj) := fp.filterMap fun b => (h.get? b).map fun o => (b, o)
theorem mem_pinsAt {fp : List Addr} {h : Heap} {b : Addr} {o : Obj} (hb : b ∈ fp) (e : h.get? b = some o) : (b, o) ∈ pinsAt fp h := List.mem_filterMap.mpr ⟨b, hb, by rw [e]; rfl⟩
theorem of_pinsAt {fp : List Addr} {h : Heap} {p : Addr × Obj} (hp : p ∈ pinsAt fp h) : p.1 ∈ fp ∧ h.get? p.1 = some p.2 := by
  obtain ⟨b, hb, e⟩ := List.mem_filterMap.mp hp
  cases q : h.get? b with
  | none => rw [q] at e; cases e
  | some o =>
    rw [q] at e
    have e' : (b, o) = p := Option.some.inj e
    subst e'
    exact ⟨hb, q⟩
theorem Inv.pinned {pins : List (Addr × Obj)} {σ : St} {H : Hp} {s : Shared} {fp : List Addr} (I : Inv X pins σ H s) (hf : ∀ b ∈ fp, FpOk X pins H b) (ho : ∀ b ∈ fp, ∃ o, s.heap.get? b = some o ∧ ∀ v, o.data ≠ .cell v) : Inv X (pins ++ pinsAt fp s.heap) σ H s :=
  I.pins_of fun p hp => (List.mem_append.mp hp).elim (fun z => I.pin p (List.mem_append_right _ z)) fun z => by
    obtain ⟨hb, e⟩ := of_pinsAt z
    obtain ⟨f0, f1, f2, _⟩ := hf p.1 hb
    obtain ⟨o, e', d⟩ := ho p.1 hb
    rw [e] at e'; cases e'
    exact ⟨e, f0, f1, f2, d⟩
theorem Inv.unpinned {pins pl : List (Addr × Obj)} {σ : St} {H : Hp} {s : Shared} (I : Inv X (pins ++ pl) σ H s) : Inv X pins σ H s := I.pins_of fun p hp => I.pin p (List.mem_append_right _ (List.mem_append_left _ hp))
theorem ps_for {iter : Expr} {body : List Stmt} {wi : TI} {g : TG} {tb : TS} {pos : Pos} (hp : PassesOwn (model X.prog X.w) X.A X.env X.xe) (hc : X.calm = true) (hi : PI X tg iter wi) (hg : PG X tg g) (hb : PSs X body tb)
    (hs : ∀ x, foldedSetIterable iter X.env x = pure x := by intro _; rfl) : PS X (.For tg iter body [] pos) (tFor wi g tb) := by
  intro pins s σ H D I h
  refine wpAny_For (thn (hi pins s σ H _ I h) fun v s1 h1 => thn h1 fun itv s2 h2 => ?_) hs
  obtain ⟨it, fp, tn, J, H2, e, I2, T, st2, f2, W, ⟨m0, w0⟩, turn⟩ := h2
  subst e
  -- what stays true of the iterator's objects through the loop
  have stat : ∀ {H' : Hp}, (∀ b ∈ fp, H' b = none) → ∀ b ∈ fp, FpOk X pins H' b := fun hn b hb => ⟨hn b hb, (f2 b hb).2⟩
  refine codeAny_forLoop_any (fun n s' => ∃ i σ' H', Inv X pins σ' H' s' ∧ tn i s'.heap ∧ (∀ b ∈ fp, H' b = none) ∧ W i n σ' H') ?_ m0 ⟨0, σ, H2, I2, st2, fun b hb => (f2 b hb).1, w0⟩
  rintro n s3 ⟨i, σ3, H3, I3, st3, fr3, w3⟩
  rcases turn i n σ3 H3 w3 with ⟨stop, qn⟩ | ⟨go, N, hN, step⟩
  · refine wpAny_passesOwn hp (thn (T.done X rfl rfl rfl hc i pins s3 σ3 H3 X.xe I3 (stat fr3) st3 stop) fun r s4 ⟨hr, I4⟩ => ?_)
    subst hr
    exact wpAny_execs_nil ⟨σ3, H3, I4, qn⟩
  · refine wpAny_passesOwn hp (thn (T.item X rfl rfl rfl hc i pins s3 σ3 H3 X.xe I3 (stat fr3) st3 go) fun r s4 ⟨u, hr, h4⟩ => ?_)
    subst hr
    refine wpAny_passesOwn hp (thn h4 fun _ s5 ⟨x, H5, I5, r5, y5, st5, fr5⟩ => ?_)
    have I5' := I5.pinned (stat fr5) (T.obj _ _ st5)
    refine wpAny_passesOwn hp (thn (hg _ s5 σ3 H5 x u _ I5' r5 (step x H5 y5)) fun _ s6 ⟨σ6, H6, I6, q6⟩ => ?_)
    refine wpAny_passesOwn hp (thn (hb _ s6 σ6 H6 _ I6 q6) fun f s7 q7 => ?_)
    have again : ∀ {σ7 : St} {H7 : Hp}, Inv X (pins ++ pinsAt fp s5.heap) σ7 H7 s7 → N σ7 H7 → ∃ m, m < n ∧ ∃ i σ' H', Inv X pins σ' H' s7 ∧ tn i s7.heap ∧ (∀ b ∈ fp, H' b = none) ∧ W i m σ' H' := fun {σ7 H7} I7 n7 => by
      obtain ⟨m', hm, w7⟩ := hN σ7 H7 n7
      refine ⟨m', hm, i + 1, σ7, H7, I7.unpinned, T.keep _ _ _ st5 fun b hb o e => (I7.pin (b, o) (List.mem_append_right _ (List.mem_append_right _ (mem_pinsAt hb e)))).1, fun b hb => ?_, w7⟩
      obtain ⟨o, e, d⟩ := T.obj _ _ st5 b hb
      exact (I7.pin (b, o) (List.mem_append_right _ (List.mem_append_right _ (mem_pinsAt hb e)))).2.1
    cases f with
    | next => obtain ⟨σ7, H7, I7, n7⟩ := q7; exact again I7 n7
    | cont => obtain ⟨σ7, H7, I7, n7⟩ := q7; exact again I7 n7
    | brk => obtain ⟨σ7, H7, I7, q7⟩ := q7; exact ⟨σ7, H7, I7.unpinned, q7⟩
    | ret v => obtain ⟨x7, σ7, H7, I7, r7, q7⟩ := q7; exact ⟨x7, σ7, H7, I7.unpinned, r7, q7⟩
end

/-! ### the forms one uses -/
/-- over a list that the body leaves as it is -/
theorem for_list {K : PySem.W.Frag} {a : Addr} {xs : List V} {g : TG} {tb : TS} {D : Ends} {σ : St} {H : Hp} (Pv : Nat → St → Hp → Prop) (h0 : Pv 0 σ H) (hl : ∀ i σ H, i ≤ xs.length → Pv i σ H → SqL K H a xs)
    (hs : ∀ i x σ H, xs[i]? = some x → Pv i σ H → g x σ H fun σ2 H2 => tb { D with nx := Pv (i + 1), ct := Pv (i + 1), bk := D.nx } σ2 H2) (hd : ∀ σ H, Pv xs.length σ H → D.nx σ H) :
    ∃ W : Nat → Nat → St → Hp → Prop, (∃ m, W 0 m σ H) ∧ ∀ i m σ H, W i m σ H →
      ((Itl K a).stop i H ∧ D.nx σ H) ∨ ((Itl K a).go i H ∧ ∃ N : St → Hp → Prop, (∀ σ' H', N σ' H' → ∃ m', m' < m ∧ W (i + 1) m' σ' H') ∧ ∀ x H', (Itl K a).yld i H x H' → g x σ H' fun σ2 H2 => tb { D with nx := N, ct := N, bk := D.nx } σ2 H2) := by
  refine ⟨fun i m σ H => m = xs.length - i ∧ i ≤ xs.length ∧ Pv i σ H, ⟨xs.length, by simp, Nat.zero_le _, h0⟩, ?_⟩
  rintro i m σ H ⟨rfl, hi, p⟩
  have q := hl i σ H hi p
  by_cases hlt : i < xs.length
  · refine .inr ⟨⟨xs, xs[i], q, by simp [hlt]⟩, Pv (i + 1), fun σ' H' p' => ⟨xs.length - (i + 1), by omega, rfl, hlt, p'⟩, fun x H' y => ?_⟩
    obtain ⟨e, y⟩ := y
    subst e
    exact hs i x σ _ (y xs q) p
  · have e : i = xs.length := by omega
    subst e
    exact .inl ⟨⟨xs, q, Nat.le_refl _⟩, hd σ H p⟩
theorem for_tup {K : PySem.W.Frag} {a : Addr} {xs : List V} {g : TG} {tb : TS} {D : Ends} {σ : St} {H : Hp} (Pv : Nat → St → Hp → Prop) (h0 : Pv 0 σ H) (hl : ∀ i σ H, i ≤ xs.length → Pv i σ H → SqT K H a xs)
    (hs : ∀ i x σ H, xs[i]? = some x → Pv i σ H → g x σ H fun σ2 H2 => tb { D with nx := Pv (i + 1), ct := Pv (i + 1), bk := D.nx } σ2 H2) (hd : ∀ σ H, Pv xs.length σ H → D.nx σ H) :
    ∃ W : Nat → Nat → St → Hp → Prop, (∃ m, W 0 m σ H) ∧ ∀ i m σ H, W i m σ H →
      ((Itt K a).stop i H ∧ D.nx σ H) ∨ ((Itt K a).go i H ∧ ∃ N : St → Hp → Prop, (∀ σ' H', N σ' H' → ∃ m', m' < m ∧ W (i + 1) m' σ' H') ∧ ∀ x H', (Itt K a).yld i H x H' → g x σ H' fun σ2 H2 => tb { D with nx := N, ct := N, bk := D.nx } σ2 H2) := by
  refine ⟨fun i m σ H => m = xs.length - i ∧ i ≤ xs.length ∧ Pv i σ H, ⟨xs.length, by simp, Nat.zero_le _, h0⟩, ?_⟩
  rintro i m σ H ⟨rfl, hi, p⟩
  have q := hl i σ H hi p
  by_cases hlt : i < xs.length
  · refine .inr ⟨⟨xs, xs[i], q, by simp [hlt]⟩, Pv (i + 1), fun σ' H' p' => ⟨xs.length - (i + 1), by omega, rfl, hlt, p'⟩, fun x H' y => ?_⟩
    obtain ⟨e, y⟩ := y
    subst e
    exact hs i x σ _ (y xs q) p
  · have e : i = xs.length := by omega
    subst e
    exact .inl ⟨⟨xs, q, Nat.le_refl _⟩, hd σ H p⟩
theorem for_range {lo : Int} {n : Nat} {g : TG} {tb : TS} {D : Ends} {σ : St} {H : Hp} (Pv : Nat → St → Hp → Prop) (h0 : Pv 0 σ H)
    (hs : ∀ i σ H, i < n → Pv i σ H → g (.int (lo + i)) σ H fun σ2 H2 => tb { D with nx := Pv (i + 1), ct := Pv (i + 1), bk := D.nx } σ2 H2) (hd : ∀ σ H, Pv n σ H → D.nx σ H) :
    ∃ W : Nat → Nat → St → Hp → Prop, (∃ m, W 0 m σ H) ∧ ∀ i m σ H, W i m σ H →
      ((Itr lo n).stop i H ∧ D.nx σ H) ∨ ((Itr lo n).go i H ∧ ∃ N : St → Hp → Prop, (∀ σ' H', N σ' H' → ∃ m', m' < m ∧ W (i + 1) m' σ' H') ∧ ∀ x H', (Itr lo n).yld i H x H' → g x σ H' fun σ2 H2 => tb { D with nx := N, ct := N, bk := D.nx } σ2 H2) := by
  refine ⟨fun i m σ H => m = n - i ∧ i ≤ n ∧ Pv i σ H, ⟨n, by simp, Nat.zero_le _, h0⟩, ?_⟩
  rintro i m σ H ⟨rfl, hi, p⟩
  by_cases hlt : i < n
  · refine .inr ⟨hlt, Pv (i + 1), fun σ' H' p' => ⟨n - (i + 1), by omega, rfl, hlt, p'⟩, fun x H' y => ?_⟩
    obtain ⟨e, y⟩ := y
    subst e y
    exact hs i σ _ hlt p
  · have e : i = n := by omega
    subst e
    exact .inl ⟨Nat.le_refl _, hd σ H p⟩
end L2

namespace L2
open PySem PySem.Spec PyProof.Rows

abbrev R2 := V → V → Hp → VK → Prop
/-- a two-place operation on values: f is binaryOp op, inplaceOp op or compareOp op -/
def OpR (X : Cx) (f : Value → Value → Sem Value) (r : R2) : Prop :=
  ∀ (pins : List (Addr × Obj)) (s : Shared) (σ : St) (H : Hp) (x y : V) (v u : Value) (Q : VK), Inv X pins σ H s → RelV x v → RelV y u → r x y H Q →
    wpAny (model X.prog X.w) X.A (f v u) (EP X pins σ Q) X.xe s
/-- a call of a value that is known (a builtin, a type) with values -/
def CallR (X : Cx) (f : Value) (r : List V → Hp → VK → Prop) : Prop :=
  ∀ (pins : List (Addr × Obj)) (s : Shared) (σ : St) (H : Hp) (xs : List V) (us : List Value) (Q : VK), Inv X pins σ H s → Vals xs us → r xs H Q →
    wpAny (model X.prog X.w) X.A (call f us) (EP X pins σ Q) X.xe s
def tOp (r : R2) (ta tb : TE) : TE := fun σ H Q => ta σ H fun x H1 => tb σ H1 fun y H2 => r x y H2 Q
/-- ints in, under C, and a value out -/
def rI (C : Int → Int → Prop) (g : Int → Int → V) : R2 := fun x y H Q => ∃ i j, x = .int i ∧ y = .int j ∧ C i j ∧ Q (g i j) H
def rI0 (g : Int → Int → V) : R2 := fun x y H Q => ∃ i j, x = .int i ∧ y = .int j ∧ Q (g i j) H
section
variable {X : Cx} {a b c : Expr} {ta tb tc : TE} {pos : Pos}

theorem binT (ha : PE X a ta) (hb : PE X b tb) {pins : List (Addr × Obj)} {s : Shared} {σ : St} {H : Hp} {R : V → V → Hp → Prop} (I : Inv X pins σ H s)
    (h : ta σ H fun x H1 => tb σ H1 fun y H2 => R x y H2) {Q : Value → Shared → Prop} {f : Value → Value → Sem Value}
    (hf : ∀ v u s2 x y H2, Inv X pins σ H2 s2 → RelV x v → RelV y u → R x y H2 → wpAny (model X.prog X.w) X.A (f v u) Q X.xe s2) :
    wpAny (model X.prog X.w) X.A (eval a X.env) (fun v s₁ => wpAny (model X.prog X.w) X.A (eval b X.env) (fun u s₂ => wpAny (model X.prog X.w) X.A (f v u) Q X.xe s₂) X.xe s₁) X.xe s := by
  refine thn (ha pins s σ H _ I h) fun v s1 ⟨x, H1, I1, r1, q1⟩ => ?_
  refine thn (hb pins s1 σ H1 _ I1 q1) fun u s2 ⟨y, H2, I2, r2, q2⟩ => ?_
  exact hf v u s2 x y H2 I2 r1 r2 q2

theorem pe_op {op : Operator} {r : R2} (ho : OpR X (binaryOp op) r) (ha : PE X a ta) (hb : PE X b tb) : PE X (.BinOp a op b pos) (tOp r ta tb) := by
  intro pins s σ H Q I h
  exact wpAny_BinOp (binT ha hb I h fun v u s2 x y H2 I2 rx ry q => ho pins s2 σ H2 x y v u Q I2 rx ry q)
/-! ### ints -/
theorem opI {f : Value → Value → Sem Value} {C : Int → Int → Prop} {g : Int → Int → Int}
    (rule : ∀ (i j : Int) (t u : Tok) (s : Shared) (Q : Value → Shared → Prop) (E : Value → Shared → Prop), C i j → Q (.int (g i j) s.toks) { s with toks := s.toks + 1 } → wpAny (model X.prog X.w) X.A (f (.int i t) (.int j u)) Q E s) :
    OpR X f (rI C fun i j => .int (g i j)) := by
  intro pins s σ H x y v u Q I rx ry h
  obtain ⟨i, j, rfl, rfl, hc, q⟩ := h
  obtain ⟨t, rfl⟩ := rx
  obtain ⟨t', rfl⟩ := ry
  exact rule i j t t' s _ _ hc ⟨.int (g i j), H, I.tok _, ⟨_, rfl⟩, q⟩
theorem opI0 {f : Value → Value → Sem Value} {g : Int → Int → Int}
    (rule : ∀ (i j : Int) (t u : Tok) (s : Shared) (Q : Value → Shared → Prop) (E : Value → Shared → Prop), Q (.int (g i j) s.toks) { s with toks := s.toks + 1 } → wpAny (model X.prog X.w) X.A (f (.int i t) (.int j u)) Q E s) :
    OpR X f (rI0 fun i j => .int (g i j)) := by
  intro pins s σ H x y v u Q I rx ry h
  obtain ⟨i, j, rfl, rfl, q⟩ := h
  obtain ⟨t, rfl⟩ := rx
  obtain ⟨t', rfl⟩ := ry
  exact rule i j t t' s _ _ ⟨.int (g i j), H, I.tok _, ⟨_, rfl⟩, q⟩
theorem opB0 {f : Value → Value → Sem Value} {g : Int → Int → Bool}
    (rule : ∀ (i j : Int) (t u : Tok) (s : Shared) (Q : Value → Shared → Prop) (E : Value → Shared → Prop), Q (.bool (g i j)) s → wpAny (model X.prog X.w) X.A (f (.int i t) (.int j u)) Q E s) :
    OpR X f (rI0 fun i j => .bl (g i j)) := by
  intro pins s σ H x y v u Q I rx ry h
  obtain ⟨i, j, rfl, rfl, q⟩ := h
  obtain ⟨t, rfl⟩ := rx
  obtain ⟨t', rfl⟩ := ry
  exact rule i j t t' s _ _ ⟨.bl (g i j), H, I, rfl, q⟩

def CDiv (i j : Int) : Prop := 0 < j ∧ j < 1073741824
def CMul (i j : Int) : Prop := (-(2 ^ 64) < i ∧ i < 2 ^ 64) ∨ (-(2 ^ 64) < j ∧ j < 2 ^ 64)
theorem CMul.ok {i j : Int} (h : CMul i j) : IntMulOk i j := by
  rcases h with ⟨h1, h2⟩ | ⟨h1, h2⟩
  · exact .of_left (intBits_le_64 h1 h2)
  · exact .of_right (intBits_le_64 h1 h2)
theorem op_add : OpR X (binaryOp .Add) (rI0 fun i j => .int (i + j)) := opI0 fun _ _ _ _ _ _ _ q => add_int q
theorem op_sub : OpR X (binaryOp .Sub) (rI0 fun i j => .int (i - j)) := opI0 fun _ _ _ _ _ _ _ q => sub_int q
theorem op_mul : OpR X (binaryOp .Mult) (rI CMul fun i j => .int (i * j)) := opI fun _ _ _ _ _ _ _ hc q => mul_int q hc.ok
/-- // by a positive divisor -/
theorem op_fdiv : OpR X (binaryOp .FloorDiv) (rI CDiv fun i j => .int (i / j)) := opI fun i j _ _ _ _ _ hc q => by
  have h1 : (0 : Int) < j := hc.1
  have h2 : j < 1073741824 := hc.2
  exact floordiv_int (by omega) (by rw [Int.fdiv_eq_ediv_of_nonneg i (by omega)]; exact q) (.inl (PyProof.noPylong_small (by omega)))
/-- % by a positive divisor of any size -/
theorem op_mod : OpR X (binaryOp .Mod) (rI (fun _ j => 0 < j) fun i j => .int (i % j)) := opI fun i j _ _ _ _ _ hc q => by
  have h1 : (0 : Int) < j := hc
  exact mod_int' (by omega) (by rw [Int.fmod_eq_emod_of_nonneg i (by omega)]; exact q)
/-! ### bools among ints: n += (a < b) -/
end

/-! ### comparisons -/
/-- the scalars that == tells apart as data does -/
def scal : V → V → Bool
  | .non, .non => true | .non, .int _ => true | .int _, .non => true | .non, .bl _ => true | .bl _, .non => true | .non, .str _ => true | .str _, .non => true
  | .int _, .int _ => true | .bl _, .bl _ => true | .str _, .str _ => true | .byt _, .byt _ => true
  | .int _, .str _ => true | .str _, .int _ => true | .bl _, .str _ => true | .str _, .bl _ => true
  | _, _ => false
def rEq : R2 := fun x y H Q => scal x y = true ∧ Q (.bl (decide (x = y))) H
def rNe : R2 := fun x y H Q => scal x y = true ∧ Q (.bl (!decide (x = y))) H

theorem dec_int {i j : Int} : decide (V.int i = V.int j) = (i == j) := by
  rw [Bool.eq_iff_iff]
  simp
theorem dec_bl {i j : Bool} : decide (V.bl i = V.bl j) = (i == j) := by
  rw [Bool.eq_iff_iff]
  simp
theorem dec_str {i j : Str} : decide (V.str i = V.str j) = (i == j) := by
  rw [Bool.eq_iff_iff]
  simp
theorem dec_byt {i j : Array UInt8} : decide (V.byt i = V.byt j) = (i.toList == j.toList) := by
  rw [Bool.eq_iff_iff]
  cases i
  cases j
  simp

section
variable {X : Cx} {a b c : Expr} {ta tb tc : TE} {pos : Pos}
theorem fin_bl {pins : List (Addr × Obj)} {σ : St} {H : Hp} {s : Shared} {Q : VK} {k k' : Bool} (I : Inv X pins σ H s) (q : Q (.bl k) H) (e : k = k') : EP X pins σ Q (.bool k') s := by
  subst e
  exact ⟨.bl k, H, I, rfl, q⟩
theorem op_eq : OpR X (compareOp .Eq) rEq := by
  intro pins s σ H x y v u Q I rx ry h
  obtain ⟨hs, q⟩ := h
  cases x with
  | non =>
    cases rx
    cases y with
    | non => cases ry; exact PySem.EqNone.eq_none_none (fin_bl I q (by simp))
    | bl j => cases ry; exact PySem.EqNone.eq_none_bool (fin_bl I q (by simp))
    | int j => obtain ⟨t', rfl⟩ := ry; exact PySem.EqNone.eq_none_int (fin_bl I q (by simp))
    | str j => obtain ⟨t', rfl⟩ := ry; exact PySem.EqNone.eq_none_str (fin_bl I q (by simp))
    | _ => exact absurd (show false = true from hs) Bool.false_ne_true
  | bl i =>
    cases rx
    cases y with
    | non => cases ry; exact PySem.EqNone.eq_bool_none (fin_bl I q (by simp))
    | bl j => cases ry; exact eq_bool (fin_bl I q dec_bl)
    | str j => obtain ⟨t', rfl⟩ := ry; exact PySem.EqMixed.eq_bool_str (fin_bl I q (by simp))
    | _ => exact absurd (show false = true from hs) Bool.false_ne_true
  | int i =>
    obtain ⟨t, rfl⟩ := rx
    cases y with
    | non => cases ry; exact PySem.EqNone.eq_int_none (fin_bl I q (by simp))
    | int j => obtain ⟨t', rfl⟩ := ry; exact eq_int (fin_bl I q dec_int)
    | str j => obtain ⟨t', rfl⟩ := ry; exact PySem.EqMixed.eq_int_str (fin_bl I q (by simp))
    | _ => exact absurd (show false = true from hs) Bool.false_ne_true
  | str i =>
    obtain ⟨t, rfl⟩ := rx
    cases y with
    | non => cases ry; exact PySem.EqNone.eq_str_none (fin_bl I q (by simp))
    | bl j => cases ry; exact PySem.EqMixed.eq_str_bool (fin_bl I q (by simp))
    | int j => obtain ⟨t', rfl⟩ := ry; exact PySem.EqMixed.eq_str_int (fin_bl I q (by simp))
    | str j => obtain ⟨t', rfl⟩ := ry; exact eq_str (fin_bl I q dec_str)
    | _ => exact absurd (show false = true from hs) Bool.false_ne_true
  | byt i =>
    obtain ⟨t, rfl⟩ := rx
    cases y with
    | byt j => obtain ⟨t', rfl⟩ := ry; exact PySem.W.eq_bytes (fin_bl I q dec_byt)
    | _ => exact absurd (show false = true from hs) Bool.false_ne_true
  | _ => cases y <;> exact absurd (show false = true from hs) Bool.false_ne_true
theorem op_ne : OpR X (compareOp .NotEq) rNe := by
  intro pins s σ H x y v u Q I rx ry h
  obtain ⟨hs, q⟩ := h
  cases x with
  | non =>
    cases rx
    cases y with
    | non => cases ry; exact PySem.EqNone.ne_none_none (fin_bl I q (by simp))
    | bl j => cases ry; exact PySem.EqNone.ne_none_bool (fin_bl I q (by simp))
    | int j => obtain ⟨t', rfl⟩ := ry; exact PySem.EqNone.ne_none_int (fin_bl I q (by simp))
    | str j => obtain ⟨t', rfl⟩ := ry; exact PySem.EqNone.ne_none_str (fin_bl I q (by simp))
    | _ => exact absurd (show false = true from hs) Bool.false_ne_true
  | bl i =>
    cases rx
    cases y with
    | non => cases ry; exact PySem.EqNone.ne_bool_none (fin_bl I q (by simp))
    | bl j => cases ry; exact ne_bool (fin_bl I q (congrArg not dec_bl))
    | str j => obtain ⟨t', rfl⟩ := ry; exact PySem.EqMixed.ne_bool_str (fin_bl I q (by simp))
    | _ => exact absurd (show false = true from hs) Bool.false_ne_true
  | int i =>
    obtain ⟨t, rfl⟩ := rx
    cases y with
    | non => cases ry; exact PySem.EqNone.ne_int_none (fin_bl I q (by simp))
    | int j => obtain ⟨t', rfl⟩ := ry; exact ne_int (fin_bl I q (congrArg not dec_int))
    | str j => obtain ⟨t', rfl⟩ := ry; exact PySem.EqMixed.ne_int_str (fin_bl I q (by simp))
    | _ => exact absurd (show false = true from hs) Bool.false_ne_true
  | str i =>
    obtain ⟨t, rfl⟩ := rx
    cases y with
    | non => cases ry; exact PySem.EqNone.ne_str_none (fin_bl I q (by simp))
    | bl j => cases ry; exact PySem.EqMixed.ne_str_bool (fin_bl I q (by simp))
    | int j => obtain ⟨t', rfl⟩ := ry; exact PySem.EqMixed.ne_str_int (fin_bl I q (by simp))
    | str j => obtain ⟨t', rfl⟩ := ry; exact ne_str (fin_bl I q (congrArg not dec_str))
    | _ => exact absurd (show false = true from hs) Bool.false_ne_true
  | byt i =>
    obtain ⟨t, rfl⟩ := rx
    cases y with
    | byt j => obtain ⟨t', rfl⟩ := ry; exact PySem.W.ne_bytes (fin_bl I q (congrArg not dec_byt))
    | _ => exact absurd (show false = true from hs) Bool.false_ne_true
  | _ => cases y <;> exact absurd (show false = true from hs) Bool.false_ne_true

theorem op_lt : OpR X (compareOp .Lt) (rI0 fun i j => .bl (decide (i < j))) := opB0 fun _ _ _ _ _ _ _ q => lt_int q
theorem op_le : OpR X (compareOp .LtE) (rI0 fun i j => .bl (decide (i ≤ j))) := opB0 fun _ _ _ _ _ _ _ q => le_int q
theorem op_gt : OpR X (compareOp .Gt) (rI0 fun i j => .bl (decide (j < i))) := opB0 fun _ _ _ _ _ _ _ q => gt_int q
theorem nomark (b : Expr) {op : CmpOp} (h : op ≠ .In := by decide) (h2 : op ≠ .NotIn := by decide) : behindInMarks op b = false := by
  have e1 : (op == CmpOp.In) = false := by cases op <;> first | rfl | exact absurd rfl h
  have e2 : (op == CmpOp.NotIn) = false := by cases op <;> first | rfl | exact absurd rfl h2
  cases b <;> simp [behindInMarks, e1, e2]
/-- a comparison as a value; hm: nomark b, or (for in, not in) by with_unfolding_all rfl -/
theorem pe_cmpR {op : CmpOp} {r : R2} (ho : OpR X (compareOp op) r) (ha : PE X a ta) (hb : PE X b tb) (hm : behindInMarks op b = false) : PE X (.Compare a [op] [b] pos) (tOp r ta tb) := by
  intro pins s σ H Q I h
  exact wpAny_Compare1 (binT ha hb I h fun v u s2 x y H2 I2 rx ry q => ho pins s2 σ H2 x y v u Q I2 rx ry q) hm
/-- a reading of a value as a test -/
def tTest (t : TE) : TT := fun σ H Q => t σ H fun x H' => ∃ k, x = .bl k ∧ Q k H'
theorem pt_cmpR {op : CmpOp} {r : R2} (ho : OpR X (compareOp op) r) (ha : PE X a ta) (hb : PE X b tb) (hm : behindInMarks op b = false) : PT X (.Compare a [op] [b] pos) (tTest (tOp r ta tb)) := by
  intro pins s σ H Q I h
  refine wpAny_isTrue_Compare1 (thn (ha pins s σ H _ I h) fun v s1 ⟨x, H1, I1, r1, q1⟩ => thn (hb pins s1 σ H1 _ I1 q1) fun u s2 ⟨y, H2, I2, r2, q2⟩ =>
    thn (ho pins s2 σ H2 x y v u _ I2 r1 r2 q2) fun c s3 ⟨z, H3, I3, r3, k, e, q3⟩ => ?_) hm
  subst e
  cases r3
  exact wpAny_truthy_bool ⟨H3, I3, q3⟩
/-- a op1 b op2 c -/
def tChain (r r' : R2) (ta tb tc : TE) : TE := fun σ H Q => ta σ H fun x H1 => tb σ H1 fun y H2 => r x y H2 fun z H3 => ∃ k, z = .bl k ∧
  (if k = true then tc σ H3 fun w' H4 => r' y w' H4 Q else Q (.bl false) H3)
theorem pt_chain {op op' : CmpOp} {r r' : R2} (ho : OpR X (compareOp op) r) (ho' : OpR X (compareOp op') r') (ha : PE X a ta) (hb : PE X b tb) (hc : PE X c tc)
    (hm : lastMarks [op, op'] [b, c] = false := by with_unfolding_all rfl) : PT X (.Compare a [op, op'] [b, c] pos) (tTest (tChain r r' ta tb tc)) := by
  intro pins s σ H Q I h
  refine isTrue_chain (thn (ha pins s σ H _ I h) fun v s1 ⟨x, H1, I1, r1, q1⟩ => test_link (thn (hb pins s1 σ H1 _ I1 q1) fun u s2 ⟨y, H2, I2, r2, q2⟩ =>
    thn (ho pins s2 σ H2 x y v u _ I2 r1 r2 q2) fun d s3 ⟨z, H3, I3, r3, k, e, q3⟩ => ?_)) hm
  subst e
  cases r3
  refine wpAny_truthy_bool ?_
  cases k with
  | false =>
    obtain ⟨k', e', q'⟩ := q3
    cases e'
    exact ite_ff ⟨H3, I3, q'⟩
  | true =>
    refine ite_tt (test_last (thn (hc pins s3 σ H3 _ I3 q3) fun w' s4 ⟨z', H4, I4, r4, q4⟩ => thn (ho' pins s4 σ H4 y z' u w' _ I4 r2 r4 q4) fun d' s5 ⟨z2, H5, I5, r5, k2, e2, q5⟩ => ?_))
    subst e2
    cases r5
    exact wpAny_truthy_bool ⟨H5, I5, q5⟩

/-! ### truth -/
theorem line63 : (sizeLine : Nat) < 2 ^ 63 := by rw [sizeLine_eq]; decide
/-! ### strs and bytes -/
theorem op_add_str : OpR X (binaryOp .Add) (fun x y H Q => ∃ i j, x = .str i ∧ y = .str j ∧ i.length + j.length ≤ sizeLine ∧ Q (.str (i ++ j)) H) := by
  intro pins s σ H x y v u Q I rx ry h
  obtain ⟨i, j, rfl, rfl, hz, q⟩ := h
  obtain ⟨t, rfl⟩ := rx
  obtain ⟨t', rfl⟩ := ry
  exact add_str (fun t' tk => ⟨.str (i ++ j), H, I.tok _, ⟨_, rfl⟩, q⟩) hz
/-! ### scalar builtins, by CallR -/
theorem vals1 {x : V} {us : List Value} (r : Vals [x] us) : ∃ u, us = [u] ∧ RelV x u := by
  cases r with
  | cons r1 r2 => cases r2; exact ⟨_, rfl, r1⟩
theorem vals2 {x y : V} {us : List Value} (r : Vals [x, y] us) : ∃ u w', us = [u, w'] ∧ RelV x u ∧ RelV y w' := by
  cases r with
  | cons r1 r2 =>
    cases r2 with
    | cons r3 r4 => cases r4; exact ⟨_, _, rfl, r1, r3⟩
theorem call_max2 (hc : X.calm = true) : CallR X (.builtin "max") (fun xs H Q => ∃ i j, xs = [.int i, .int j] ∧ Q (.int (if j > i then j else i)) H) := by
  intro pins s σ H xs us Q I r h
  obtain ⟨i, j, rfl, q⟩ := h
  obtain ⟨u, w', rfl, ⟨t, rfl⟩, ⟨t', rfl⟩⟩ := vals2 r
  refine max_two_ints (I.ok.hd hc) fun h' tk k => ⟨_, H, I.kept k, ?_, q⟩
  by_cases hj : j > i
  · rw [if_pos hj, if_pos hj]; exact ⟨_, rfl⟩
  · rw [if_neg hj, if_neg hj]; exact ⟨_, rfl⟩
theorem call_min2 (hc : X.calm = true) : CallR X (.builtin "min") (fun xs H Q => ∃ i j, xs = [.int i, .int j] ∧ Q (.int (if j < i then j else i)) H) := by
  intro pins s σ H xs us Q I r h
  obtain ⟨i, j, rfl, q⟩ := h
  obtain ⟨u, w', rfl, ⟨t, rfl⟩, ⟨t', rfl⟩⟩ := vals2 r
  refine min_two_ints (I.ok.hd hc) fun h' tk k => ⟨_, H, I.kept k, ?_, q⟩
  by_cases hj : j < i
  · rw [if_pos hj, if_pos hj]; exact ⟨_, rfl⟩
  · rw [if_neg hj, if_neg hj]; exact ⟨_, rfl⟩
end
end L2

namespace L2
open PySem PySem.Spec PyProof.Rows

/-! ### an instance, its attributes a map -/
structure ObjM (h : Heap) (x dx C : Addr) (mA : Str → Option Value) : Prop where
  obj : h.get? x = some (PySem.W.instObj C dx)
  ns : h.Ns1 dx mA
  ne : dx ≠ x

theorem lookIn_ns {h : Heap} {dx : Addr} {mA : Str → Option Value} (n : h.Ns1 dx mA) : ∃ od, h.get? dx = some od ∧ ∀ name, PySem.W.lookIn name od = some (mA name) := by
  obtain ⟨o, es, ep, ho, hd, hk, _, hm⟩ := n
  refine ⟨o, ho, fun name => ?_⟩
  have e := hm name
  unfold nsFind findBy at e
  rw [← Array.find?_toList] at e
  unfold PySem.W.lookIn
  rw [hd]
  dsimp only
  split
  · rename_i y q
    rw [q] at e
    exact congrArg some e
  · rename_i q
    rw [q] at e
    have a : es.toList.any (·.refKey) = false := by
      rw [List.any_eq_false]
      intro y hy
      obtain ⟨z, t, hkey⟩ := hk y (Array.mem_toList_iff.mp hy)
      simp [DictEntry.refKey, hkey]
    have a' : ¬ es.toList.any (·.refKey) = true := by rw [a]; exact Bool.false_ne_true
    rw [if_neg a']
    exact congrArg some e

theorem ObjM.look {h : Heap} {x dx C : Addr} {mA : Str → Option Value} (I : ObjM h x dx C mA) : ∃ od, PySem.W.InstAt h x (PySem.W.instObj C dx) C (some od) ∧ ∀ name, PySem.W.lookIn name od = some (mA name) :=
  let ⟨od, ho, hl⟩ := lookIn_ns I.ns
  ⟨od, ⟨I.obj, rfl, rfl, ho⟩, hl⟩

section
variable {prog : Program} {w : World} {A : Around} {E : Value → Shared → Prop} {s : Shared} {K : PySem.W.Frag} {x dx C f : Addr} {mA : Str → Option Value} {name : Str} {v : Value}

theorem get_map {expr : Bool} {Q : Value → Shared → Prop} (X : K.In s.heap) (I : ObjM s.heap x dx C mA) (hg : PySem.W.plainGet K C name = true) (hh : PySem.W.hasDictIn K C = true)
    (ha : PySem.W.findIn K (.ref C) name = some none) (hv : mA name = some v) (hv' : PySem.W.handedIn v = true) (h : Q v { s with toks := s.toks + 1 }) :
    wpAny (model prog w) A (getAttr (.ref x) name expr) Q E s := by
  obtain ⟨od, J, hl⟩ := I.look
  exact PySem.W.get_value X J (PySem.W.plainGet_of hg).1 (PySem.W.findObj_own hh ha rfl (by rw [hl, hv])) hv' h

theorem get_meth {pl : Sem Bool} {Q : Value × List Value → Shared → Prop} (X : K.In s.heap) (I : ObjM s.heap x dx C mA) (hg : PySem.W.plainGet K C name = true)
    (hf : PySem.W.findIn K (.ref C) name = some (some (.ref f))) (ht : PySem.W.isFn K (.ref f) = true) (hv : mA name = none) (h : Q (.ref f, [.ref x]) s) :
    wpAny (model prog w) A (getMethod (.ref x) name pl) Q E s := by
  obtain ⟨od, J, hl⟩ := I.look
  exact PySem.W.method_fn X J (PySem.W.plainGet_of hg).1 (PySem.W.plainGet_of hg).2 hf (beq_iff_eq.mp ht) (by show (PySem.W.lookIn name od).map (·.isSome) = some false; rw [hl, hv]; rfl) h

theorem set_map {ns : List Str} {Q : Unit → Shared → Prop} (X : K.In s.heap) (I : ObjM s.heap x dx C mA)
    (hs : PySem.W.findIn K (.ref C) "__setattr__" = some (some (.builtin "object.__setattr__"))) (hp : PySem.W.plainOver K C = true) (ht : PySem.W.takerIn K C name = some none) (hh : PySem.W.hasDictIn K C = true)
    (hw : PySem.Within mA ns) (hsz : ns.length ≤ sizeLine)
    (h : ∀ h', ObjM h' x dx C (fun y => if y = name then some v else mA y) → Heap.SameBut dx s.heap h' → Q () { s with heap := h', toks := s.toks + 2 }) :
    wpAny (model prog w) A (setAttr (.ref x) name v) Q E s := by
  obtain ⟨od, J, hl⟩ := I.look
  refine PySem.W.set_plain X J hs (PySem.W.osa_open (s := { s with toks := s.toks + 1 }) (r := none) X J hp ht fun b => ?_)
  obtain ⟨cd, hc, hd'⟩ := PySem.W.any_some hh
  have hx : s.heap.get? x = some ⟨.ref C, some dx, .plain, #[]⟩ := I.obj
  refine wpAny_bind (wpAny_pure (wpAny_bind (wpAny_bind (wpAny_loadPart hx (wpAny_bind (PySem.W.Looks.here (s := { s with toks := s.toks + 1 }) (PySem.W.looks_clsIn X hc) ?_))))))
  rw [hd']
  refine wpAny_pure (a := some dx) (wpAny_bind (wpAny_pure (wpAny_bind ?_)))
  refine wpAny_nsSet1 (s := { s with toks := s.toks + 1 }) I.ns fun h' hn2 hs2 => ?_
  obtain ⟨oD, esD, epD, hoD, hdD, hcD⟩ := hn2.count (PySem.Within.cons name v hw)
  refine wpAny_bind (wpAny_lookBehind hoD (by rw [hdD]; exact pastItsLine_dict (Nat.le_trans hcD (by rw [List.length_cons]; omega))) ?_)
  exact wpAny_pure (h _ ⟨(hs2.2 _ (Ne.symm I.ne)).trans I.obj, hn2, I.ne⟩ hs2)

/-- C(..): the dict at the heap's end, the instance behind it; then its __init__ -/
theorem make_map {R : Result → Shared → Prop} {vs : List Value} {kw : List (Str × Value)} (X : K.In s.heap) (hm : PySem.W.makesIn K C = true)
    (hi : PySem.W.findIn K (.ref C) "__init__" = some (some (.ref f))) (hf : PySem.W.typeIn K (.ref f) = some (.type "function"))
    (h : codeAny (model prog w) (A.under (.builtin "type.__call__" ⟨.ref C :: vs, kw⟩)) (.call (.ref f) ⟨.ref (s.heap.objs.size + 1) :: vs, kw⟩) (PySem.W.InitBack (s.heap.objs.size + 1) R)
      { s with heap := (s.heap.push PySem.W.emptyDict).push (PySem.W.instObj C s.heap.objs.size) }) :
    codeAny (model prog w) A (.call (.ref C) ⟨vs, kw⟩) R s := by
  obtain ⟨hh, g, d, t, os⟩ := s
  exact PySem.W.make_core (PySem.W.makes_of X hm) (PySem.W.looks_findIn X hi) (fun self => PySem.W.bind_fn X self hf) (.inl rfl) h
/-- C() where there is no __init__ but object's -/
theorem make_map0 {R : Result → Shared → Prop} (X : K.In s.heap) (hm : PySem.W.makesIn K C = true)
    (hi : PySem.W.findIn K (.ref C) "__init__" = some (some (.builtin "object.__init__")))
    (hb : ∀ self, PySem.W.Looks (model prog w) s.heap (bindSpecial (.builtin "object.__init__") self) (.builtin "object.__init__", [self]))
    (h : codeAny (model prog w) (A.under (.builtin "type.__call__" ⟨[.ref C], []⟩)) (.call (.builtin "object.__init__") ⟨[.ref (s.heap.objs.size + 1)], []⟩) (PySem.W.InitBack (s.heap.objs.size + 1) R)
      { s with heap := (s.heap.push PySem.W.emptyDict).push (PySem.W.instObj C s.heap.objs.size) }) :
    codeAny (model prog w) A (.call (.ref C) ⟨[], []⟩) R s := by
  obtain ⟨hh, g, d, t, os⟩ := s
  exact PySem.W.make_core (PySem.W.makes_of X hm) (PySem.W.looks_findIn X hi) hb (.inr ⟨rfl, rfl⟩) h
end

/-! ### the attributes as a list of pairs -/
def putF (f : Str) (v : V) : List (Str × V) → List (Str × V)
  | [] => [(f, v)]
  | (g, x) :: r => if g = f then (g, v) :: r else (g, x) :: putF f v r
theorem lookup_putF (f g : Str) (v : V) : ∀ fs : List (Str × V), (putF f v fs).lookup g = if g = f then some v else fs.lookup g
  | [] => by
    show List.lookup g [(f, v)] = _
    by_cases h : g = f
    · have hb : (g == f) = true := beq_iff_eq.mpr h
      simp only [List.lookup, hb, if_pos h]
    · have hb : (g == f) = false := beq_eq_false_iff_ne.mpr h
      simp only [List.lookup, hb, if_neg h]
  | (k, x) :: r => by
    have ih := lookup_putF f g v r
    rw [show putF f v ((k, x) :: r) = (if k = f then (k, v) :: r else (k, x) :: putF f v r) from rfl]
    by_cases hk : k = f
    · rw [if_pos hk]
      by_cases h : g = k
      · have hb : (g == k) = true := beq_iff_eq.mpr h
        simp only [List.lookup, hb, if_pos (h.trans hk)]
      · have hb : (g == k) = false := beq_eq_false_iff_ne.mpr h
        simp only [List.lookup, hb, if_neg (fun e : g = f => h (e.trans hk.symm))]
    · rw [if_neg hk]
      by_cases h : g = k
      · have hb : (g == k) = true := beq_iff_eq.mpr h
        simp only [List.lookup, hb, if_neg (fun e : g = f => hk (h.symm.trans e))]
      · have hb : (g == k) = false := beq_eq_false_iff_ne.mpr h
        simp only [List.lookup, hb]
        exact ih
theorem keys_putF (f : Str) (v : V) : ∀ fs : List (Str × V), f ∈ (putF f v fs).map (·.1) ∧ ∀ g, g ∈ fs.map (·.1) → g ∈ (putF f v fs).map (·.1)
  | [] => ⟨by simp [putF], fun g h => by simp at h⟩
  | (k, x) :: r => by
    obtain ⟨i1, i2⟩ := keys_putF f v r
    rw [show putF f v ((k, x) :: r) = (if k = f then (k, v) :: r else (k, x) :: putF f v r) from rfl]
    by_cases hk : k = f
    · rw [if_pos hk]
      subst hk
      exact ⟨by simp, fun g h => by simpa using h⟩
    · rw [if_neg hk]
      refine ⟨?_, fun g h => ?_⟩
      · rw [List.map_cons]
        exact List.mem_cons_of_mem _ i1
      · rw [List.map_cons] at h ⊢
        rcases List.mem_cons.mp h with e | e
        · exact List.mem_cons.mpr (.inl e)
        · exact List.mem_cons_of_mem _ (i2 g e)
theorem length_putF (f : Str) (v : V) : ∀ fs : List (Str × V), (putF f v fs).length ≤ fs.length + 1
  | [] => by simp [putF]
  | (k, x) :: r => by
    have ih := length_putF f v r
    rw [show putF f v ((k, x) :: r) = (if k = f then (k, v) :: r else (k, x) :: putF f v r) from rfl]
    by_cases hk : k = f
    · rw [if_pos hk, List.length_cons, List.length_cons]; omega
    · rw [if_neg hk, List.length_cons, List.length_cons]; omega

theorem RelO.some_of {v : V} {o : Option Value} (r : RelO (some v) o) : ∃ u, o = some u ∧ RelV v u := by
  cases o with
  | none => exact (show False from r).elim
  | some u => exact ⟨u, rfl, r⟩
theorem RelO.none_of {o : Option Value} (r : RelO none o) : o = none := by
  cases o with
  | none => rfl
  | some u => exact (show False from r).elim
theorem handed_of {v : V} {u : Value} (r : RelV v u) : PySem.W.handedIn u = true := by
  cases v with
  | non => cases (show u = Value.none from r); rfl
  | bl b => cases (show u = Value.bool b from r); rfl
  | int i => obtain ⟨t, e⟩ := (show ∃ t, u = Value.int i t from r); cases e; rfl
  | str x => obtain ⟨t, e⟩ := (show ∃ t, u = Value.str x t from r); cases e; rfl
  | byt b => obtain ⟨t, e⟩ := (show ∃ t, u = Value.bytes b t from r); cases e; rfl
  | flt b => obtain ⟨t, e⟩ := (show ∃ t, u = Value.float b t from r); cases e; rfl
  | ref a => cases (show u = Value.ref a from r); rfl
  | ty n => cases (show u = Value.type n from r); rfl

section
variable {P : Program} {w : World} {H H' : Hp} {h h' : Heap} {a C dx : Addr} {fs fs' : List (Str × V)}
theorem ins_get (hok : HOk P w H h) (e : H a = some (.ins C dx fs)) : ∃ mA, ObjM h a dx C mA ∧ (∀ f, RelO (fs.lookup f) (mA f)) ∧ PySem.Within mA (fs.map (·.1)) ∧ fs.length ≤ 1000 ∧ H dx = some (.own a) := by
  obtain ⟨d, z, ne, ob, mA, n, r, q⟩ := (show ObjOk P w H h a (.ins C dx fs) from hok a _ e)
  exact ⟨mA, ⟨ob, n, ne⟩, r, q, z, d⟩
end

/-! ### what of the text a class must have -/
structure Cls (K : PySem.W.Frag) (C : Addr) : Prop where
  pg : PySem.W.plainGet K C Str.empty = true
  hd : PySem.W.hasDictIn K C = true
  po : PySem.W.plainOver K C = true
  sa : PySem.W.findIn K (.ref C) "__setattr__" = some (some (.builtin "object.__setattr__"))
theorem Cls.get {K : PySem.W.Frag} {C : Addr} (c : Cls K C) (f : Str) : PySem.W.plainGet K C f = true := c.pg
/-- no class of it has the name -/
def NoAttr (K : PySem.W.Frag) (C : Addr) (f : Str) : Prop := PySem.W.findIn K (.ref C) f = some none
theorem NoAttr.taker {K : PySem.W.Frag} {C : Addr} {f : Str} (n : NoAttr K C f) : PySem.W.takerIn K C f = some none := by
  unfold PySem.W.takerIn
  rw [show PySem.W.findIn K (.ref C) f = some none from n]
  rfl
/-- a method: a plain def of the class or of one above it -/
structure Meth (K : PySem.W.Frag) (C : Addr) (m : Str) (f : Addr) : Prop where
  at_ : PySem.W.findIn K (.ref C) m = some (some (.ref f))
  fn : PySem.W.isFn K (.ref f) = true
  kp : PySem.W.keepIn K (.ref f) = true

section
variable {X : Cx} {pins : List (Addr × Obj)} {σ : St} {H : Hp} {s : Shared} {a C dx : Addr} {fs : List (Str × V)} {f : Str} {v : V} {A : Around} {E : Value → Shared → Prop}

theorem getattr_ok {b : Bool} {Q : Value → Shared → Prop} (I : Inv X pins σ H s) (e : H a = some (.ins C dx fs)) (c : Cls X.K C) (n : NoAttr X.K C f) (l : fs.lookup f = some v)
    (h : ∀ u s', Inv X pins σ H s' → RelV v u → Q u s') : wpAny (model X.prog X.w) A (getAttr (.ref a) f b) Q E s := by
  obtain ⟨mA, O, r, _, _, _⟩ := ins_get I.hok e
  obtain ⟨u, hu, ru⟩ := RelO.some_of (v := v) (o := mA f) (by rw [← l]; exact r f)
  exact get_map I.kIn O (c.get f) c.hd n hu (handed_of ru) (h u _ (I.tok _) ru)

theorem getmeth_ok {m : Str} {g : Addr} {pl : Sem Bool} {Q : Value × List Value → Shared → Prop} (I : Inv X pins σ H s) (e : H a = some (.ins C dx fs)) (c : Cls X.K C) (k : Meth X.K C m g) (l : fs.lookup m = none)
    (h : Q (.ref g, [.ref a]) s) : wpAny (model X.prog X.w) A (getMethod (.ref a) m pl) Q E s := by
  obtain ⟨mA, O, r, _, _, _⟩ := ins_get I.hok e
  have hn : mA m = none := RelO.none_of (by rw [← l]; exact r m)
  exact get_meth I.kIn O (c.get m) k.at_ k.fn hn h

theorem setattr_ok {y : V} {u : Value} {Q : Unit → Shared → Prop} (I : Inv X pins σ H s) (e : H a = some (.ins C dx fs)) (c : Cls X.K C) (n : NoAttr X.K C f) (hl : fs.length < 1000) (ry : RelV y u)
    (h : ∀ s', Inv X pins σ (upd H a (.ins C dx (putF f y fs))) s' → Q () s') : wpAny (model X.prog X.w) A (setAttr (.ref a) f u) Q E s := by
  obtain ⟨mA, O, r, wi, _, ho⟩ := ins_get I.hok e
  have hz : (fs.map (·.1)).length ≤ sizeLine := by rw [List.length_map, sizeLine_eq]; omega
  refine set_map I.kIn O c.sa c.po n.taker c.hd wi hz fun h' O' sb => h _ ?_
  have hd : ∃ o, h'.get? dx = some o := let ⟨o, _, _, e', _⟩ := O'.ns; ⟨o, e'⟩
  refine I.write (x := a) (e := dx) (by rw [e]; exact True.intro) (.inr ho) (fun b q hb z => (sb.2 b hb).trans z) hd ?_
  refine ⟨by rw [upd_ne O.ne]; exact ho, ?_, O.ne, O'.obj, _, O'.ns, fun g => ?_, fun g hg => ?_⟩
  · have := length_putF f y fs; omega
  · show RelO ((putF f y fs).lookup g) (if g = f then some u else mA g)
    rw [lookup_putF]
    by_cases q : g = f
    · rw [if_pos q, if_pos q]; exact ry
    · rw [if_neg q, if_neg q]; exact r g
  · by_cases q : g = f
    · rw [q]; exact (keys_putF f y fs).1
    · refine (keys_putF f y fs).2 g (wi g fun z => hg ?_)
      show (if g = f then some u else mA g) = none
      rw [if_neg q]; exact z

/-- a new instance, tracked, without attributes -/
theorem Inv.made (I : Inv X pins σ H s) : Inv X pins σ (upd (upd H s.heap.objs.size (.own (s.heap.objs.size + 1))) (s.heap.objs.size + 1) (.ins C s.heap.objs.size []))
    { s with heap := (s.heap.push PySem.W.emptyDict).push (PySem.W.instObj C s.heap.objs.size) } := by
  have e1 : (s.heap.push PySem.W.emptyDict).get? s.heap.objs.size = some PySem.W.emptyDict := Heap.get?_push_size s.heap rfl
  have e2 : ((s.heap.push PySem.W.emptyDict).push (PySem.W.instObj C s.heap.objs.size)).get? (s.heap.objs.size + 1) = some (PySem.W.instObj C s.heap.objs.size) := by
    have := Heap.get?_push_size (s.heap.push PySem.W.emptyDict) (o := PySem.W.instObj C s.heap.objs.size) rfl
    rwa [Heap.size_push] at this
  have e3 : (s.heap.push PySem.W.emptyDict).Ns s.heap.objs.size (fun _ => none) := ⟨PySem.W.emptyDict, #[], _, e1, rfl, (fun e he => absurd he (by simp)), fun _ => rfl⟩
  have I1 := I.laid (a := s.heap.objs.size) (o := .own (s.heap.objs.size + 1)) (h' := s.heap.push PySem.W.emptyDict) (t' := s.toks) (fun b u q => Heap.get?_push_of_some _ q) (Nat.le_refl _) ⟨_, e1⟩
  refine I1.laid (a := s.heap.objs.size + 1) (o := .ins C s.heap.objs.size []) (t' := s.toks) (fun b u q => Heap.get?_push_of_some _ q) (Nat.le_of_eq (Heap.size_push _ _)) ?_
  have ne : s.heap.objs.size ≠ s.heap.objs.size + 1 := Nat.ne_of_lt (Nat.lt_succ_self _)
  refine ⟨by rw [upd_ne ne, upd_same], Nat.zero_le _, ne, e2, fun _ => none, (Heap.Ns1.of_empty e3).at fun o q => Heap.get?_push_of_some _ q, fun _ => True.intro, fun y hy => absurd rfl hy⟩

/-- e.f where nothing but the object is asked: through attributeBase (super) and the last hold -/
theorem attr_of {prog : Program} {w : World} {env : Env} {e : Expr} {f : Str} {pos : Pos} {s : Shared} {Q : Value → Shared → Prop} (hb : attributeBase e f env (eval e env) = eval e env)
    (h : wpAny (model prog w) A (eval e env) (fun o s₁ => wpAny (model prog w) A (getAttr o f true) Q E s₁) E s) : wpAny (model prog w) A (eval (.Attribute e f pos) env) Q E s :=
  Attribute_any_ h (by rw [arm_eval_Attribute, hb])
end

/-! ### readings and rules -/
/-- e.f, an attribute of the instance -/
def tFld (K : PySem.W.Frag) (ta : TE) (f : Str) : TE := fun σ H Q => ta σ H fun x H1 => ∃ a C dx fs v, x = .ref a ∧ H1 a = some (.ins C dx fs) ∧ Cls K C ∧ NoAttr K C f ∧ fs.lookup f = some v ∧ Q v H1
/-- e.f = value -/
def sFld (K : PySem.W.Frag) (ta tv : TE) (f : Str) : TS := fun D σ H => tv σ H fun y H1 => ta σ H1 fun x H2 => ∃ a C dx fs, x = .ref a ∧ H2 a = some (.ins C dx fs) ∧ Cls K C ∧ NoAttr K C f ∧ fs.length < 1000 ∧
  D.nx σ (upd H2 a (.ins C dx (putF f y fs)))
section
variable {X : Cx} {o e value : Expr} {f : Str} {pos pos' tpos : Pos} {ta tv : TE}
theorem pe_fld (he : PE X e ta) (hb : attributeBase e f X.env (eval e X.env) = eval e X.env) : PE X (.Attribute e f pos) (tFld X.K ta f) := by
  intro pins s σ H Q I h
  refine attr_of hb (thn (he pins s σ H _ I h) fun u s1 ⟨x, H1, I1, rx, a, C, dx, fs, v, ex, ea, c, n, l, q⟩ => ?_)
  subst ex
  obtain rfl : u = Value.ref a := rx
  exact getattr_ok I1 ea c n l fun u' s2 I2 ru => ⟨v, H1, I2, ru, q⟩
theorem ps_fld (ha : PE X o ta) (hv : PE X value tv) (hs : swapsWith value (some (.Attribute o f pos')) pos.line X.env = pure false) : PS X (.Assign [.Attribute o f pos'] value pos) (sFld X.K ta tv f) := by
  intro pins s σ H D I h
  refine plainObj_wpAny_Assign_Attribute (thn (hv pins s σ H _ I h) fun u s1 ⟨y, H1, I1, ry, q⟩ => thn (ha pins s1 σ H1 _ I1 q) fun ov s2 ⟨x, H2, I2, rx, a, C, dx, fs, ex, ea, c, n, l, q2⟩ => ?_) hs
  subst ex
  obtain rfl : ov = Value.ref a := rx
  exact setattr_ok I2 ea c n l ry fun s3 I3 => ⟨σ, _, I3, q2⟩
end

/-! ### isinstance -/
section
variable {X : Cx} {pins : List (Addr × Obj)} {σ : St} {H : Hp} {s : Shared} {A : Around} {E : Value → Shared → Prop} {Q : Value → Shared → Prop} {c : Value} {b : Bool}
/-- the type of a value, as the fragment's deciders take it; for an instance its class -/
inductive TyOf (K : PySem.W.Frag) (H : Hp) : V → Value → Prop where
  | non : TyOf K H .non (.type "NoneType")
  | bl (x : Bool) : TyOf K H (.bl x) (.type "bool")
  | int (i : Int) : TyOf K H (.int i) (.type "int")
  | str (x : Str) : TyOf K H (.str x) (.type "str")
  | flt (x : UInt64) : TyOf K H (.flt x) (.type "float")
  | lst {a : Addr} {xs : List V} (e : H a = some (.lst xs)) : TyOf K H (.ref a) (.type "list")
  | frz {a : Addr} {o : Obj} {xs : List V} (e : H a = some (.frz o (.lst xs))) : TyOf K H (.ref a) (.type "list")
  | tup {a : Addr} {xs : List V} (e : H a = some (.tup xs)) : TyOf K H (.ref a) (.type "tuple")
  | dK {a : Addr} {kvs : List (Key × V)} (e : H a = some (.dK kvs)) : TyOf K H (.ref a) (.type "dict")
  | dT {a : Addr} {kvs : List (List Key × V)} (e : H a = some (.dT kvs)) : TyOf K H (.ref a) (.type "dict")
  | ins {a C dx : Addr} {fs : List (Str × V)} (e : H a = some (.ins C dx fs)) (cl : Cls K C) (ha : PySem.W.findIn K (.ref C) "__class__" = some (some (.builtin "object.__class__")))
      (hn : PySem.W.specialIn K (.builtin "object.__class__") "__get__" = some (some (.builtin "getset_descriptor.__get__"))) (htk : PySem.W.takesIn K (.builtin "object.__class__") = some true)
      (hm : PySem.W.mroIn K C (.type "object") = some true) : TyOf K H (.ref a) (.ref C)
/-- isinstance(x, c) for one class c, a built-in or an own one: kitOne's answer -/
theorem isinst_ok {x : V} {u t : Value} (I : Inv X pins σ H s) (rx : RelV x u) (ty : TyOf X.K H x t) (e : PySem.W.kitOne X.K t c = some b) (h : ∀ tk, Q (.bool b) { s with toks := tk }) :
    wpAny (model X.prog X.w) A (call (.builtin "isinstance") [u, c]) Q E s := by
  cases ty with
  | non => cases (show u = Value.none from rx); exact PySem.W.kia_one PySem.W.kitx_none I.kIn True.intro e (fun z => nomatch z) h
  | bl y => cases (show u = Value.bool y from rx); exact PySem.W.kia_one PySem.W.kitx_bool I.kIn True.intro e (fun z => nomatch z) h
  | int i => obtain ⟨t, q⟩ := (show ∃ t, u = Value.int i t from rx); cases q; exact PySem.W.kia_one PySem.W.kitx_int I.kIn True.intro e (fun z => nomatch z) h
  | str y => obtain ⟨t, q⟩ := (show ∃ t, u = Value.str y t from rx); cases q; exact PySem.W.kia_one PySem.W.kitx_str I.kIn True.intro e (fun z => nomatch z) h
  | flt y => obtain ⟨t, q⟩ := (show ∃ t, u = Value.float y t from rx); cases q; exact PySem.W.kia_one PySem.W.kitx_float I.kIn True.intro e (fun z => nomatch z) h
  | @lst a xs ea =>
    cases (show u = Value.ref a from rx)
    obtain ⟨_, _, n, _, h1⟩ := (show ObjOk X.prog X.w H s.heap a (.lst xs) from I.hok a _ ea)
    exact PySem.W.kia_one PySem.W.kitx_list I.kIn ⟨_, h1, rfl⟩ e (fun z => nomatch z) h
  | @frz a ob xs ea =>
    cases (show u = Value.ref a from rx)
    obtain ⟨_, _, _, n, _, h1⟩ := (show ObjOk X.prog X.w H s.heap a (.frz ob (.lst xs)) from I.hok a _ ea)
    exact PySem.W.kia_one PySem.W.kitx_list I.kIn ⟨_, h1, rfl⟩ e (fun z => nomatch z) h
  | @tup a xs ea =>
    cases (show u = Value.ref a from rx)
    obtain ⟨_, _, _, p⟩ := (show ObjOk X.prog X.w H s.heap a (.tup xs) from I.hok a _ ea)
    obtain ⟨o, h1, h2, _⟩ := p
    exact PySem.W.kia_one PySem.W.kitx_tuple I.kIn ⟨o, h1, h2⟩ e (fun z => nomatch z) h
  | @dK a kvs ea =>
    cases (show u = Value.ref a from rx)
    obtain ⟨_, _, vs, _, p⟩ := (show ObjOk X.prog X.w H s.heap a (.dK kvs) from I.hok a _ ea)
    obtain ⟨o, es, ep, h1, h2, _⟩ := p
    exact PySem.W.kia_one PySem.W.kitx_dict I.kIn ⟨o, h1, h2.1⟩ e (fun z => nomatch z) h
  | @dT a kvs ea =>
    cases (show u = Value.ref a from rx)
    obtain ⟨_, _, xs, _, o, es, ep, h1, h2, _⟩ := (show ObjOk X.prog X.w H s.heap a (.dT kvs) from I.hok a _ ea)
    exact PySem.W.kia_one PySem.W.kitx_dict I.kIn ⟨o, h1, h2.1⟩ e (fun z => nomatch z) h
  | @ins a C dx fs ea cl ha hn htk hm =>
    cases (show u = Value.ref a from rx)
    obtain ⟨mA, O, _⟩ := ins_get I.hok ea
    obtain ⟨od, J, _⟩ := O.look
    exact PySem.W.kia_one (PySem.W.kitx_own (cl.get _) cl.hd ha hn htk hm) I.kIn J e (fun z => nomatch z) h
end
end L2

namespace L2
open PySem PySem.Spec PyProof.Rows

/-! ### room -/
structure Room (k : Nat) (A : Around) : Prop where
  hd : A.handled = none
  dp : A.depth + 3 * k + 5 < recursionLimit
  un : A.units + 16 * k + 200 < cLine
theorem Room.mono {j k : Nat} {A : Around} (r : Room k A) (h : j ≤ k) : Room j A := ⟨r.hd, by have := r.dp; omega, by have := r.un; omega⟩
theorem Room.deeper {k : Nat} {A : Around} (r : Room (k + 1) A) (env : Env) : Room k (A.deeper env) :=
  ⟨r.hd, by have := r.dp; show A.depth + 1 + 3 * k + 5 < _; omega, by have := r.un; show A.units + 3 + 16 * k + 200 < _; omega⟩
theorem make_depth {A : Around} {C : Addr} {us : List Value} {kw : List (Str × Value)} : (A.under (.builtin "type.__call__" ⟨.ref C :: us, kw⟩)).depth = A.depth + 1 := by
  first | rfl | simp [Around.under, Code.weight, Code.isCreation, Code.isGuard, Code.isCaller, Code.frames, Code.isFrame, guardIds]
theorem make_units {A : Around} {C : Addr} {us : List Value} {kw : List (Str × Value)} : (A.under (.builtin "type.__call__" ⟨.ref C :: us, kw⟩)).units = A.units + 1 := by
  first | rfl | simp [Around.under, Code.cUnits, Code.frames, Code.isFrame]
theorem Room.make {k : Nat} {A : Around} (r : Room (k + 1) A) (C : Addr) (us : List Value) (kw : List (Str × Value)) : Room k (A.under (.builtin "type.__call__" ⟨.ref C :: us, kw⟩)) :=
  ⟨r.hd, by have := r.dp; rw [make_depth]; omega, by have := r.un; rw [make_units]; omega⟩
theorem Room.depth {k : Nat} {A : Around} (r : Room k A) : A.depth < recursionLimit := by have := r.dp; omega
/-! ### argument lists and displays -/
def tNil : TA := fun _ H Q => Q [] H
def tCons (ta : TE) (tr : TA) : TA := fun σ H Q => ta σ H fun x H1 => tr σ H1 fun xs H2 => Q (x :: xs) H2
section
variable {X : Cx} {e : Expr} {es : List Expr} {te : TE} {t : TA} {pos : Pos}
theorem pa_nil : PA X [] tNil := fun _ _ _ _ H Q I h => Calls.spliced_nil ⟨[], H, I, .nil, h⟩
theorem pa_cons (ha : PE X e te) (hr : PA X es t) (hs : starEach (e :: es) X.env = (false, eval e X.env) :: starEach es X.env := by rfl) : PA X (e :: es) (tCons te t) := by
  intro pos pins s σ H Q I h
  rw [hs]
  show wpAny _ _ (spliced ((false, eval e X.env) :: backTo pos (starEach es X.env))) _ _ s
  refine Calls.spliced_cons (thn (ha pins s σ H _ I h) fun u s1 ⟨x, H1, I1, r1, q1⟩ => ?_)
  exact thn (hr pos pins s1 σ H1 _ I1 q1) fun us s2 ⟨xs, H2, I2, r2, q2⟩ => ⟨x :: xs, H2, I2, .cons r1 r2, q2⟩

/-- a tuple, a list of written items -/
def tTup (t : TA) : TE := fun σ H Q => t σ H fun xs H1 => xs.length ≤ sizeLine ∧ ∀ p, H1 p = none → Q (.ref p) (upd H1 p (.tup xs))
def tLst (t : TA) : TE := fun σ H Q => t σ H fun xs H1 => xs.length ≤ sizeLine ∧ ∀ p, H1 p = none → Q (.ref p) (upd H1 p (.lst xs))
theorem pe_tup {x1} (h : PA X es t) : PE X (.Tuple es x1 pos) (tTup t) := by
  intro pins s σ H Q I hq
  refine wpAny_Tuple_spliced (thn (h pos pins s σ H _ I hq) fun us s1 ⟨xs, H1, I1, r, z, q⟩ => ⟨by rw [← r.length]; exact z, ?_⟩)
  have hf : H1 s1.heap.objs.size = none := I1.hok.fresh (Nat.le_refl _)
  refine ⟨.ref s1.heap.objs.size, upd H1 s1.heap.objs.size (.tup xs), I1.laid (t' := s1.toks) (fun b u e => Heap.get?_push_of_some _ e) (Nat.le_refl _) ?_, rfl, q _ hf⟩
  exact ⟨z, us, r, ⟨_, Heap.get?_push_size _ rfl, rfl, _, rfl⟩⟩
theorem pe_lst (h : PA X es t) : PE X (.List es pos) (tLst t) := by
  intro pins s σ H Q I hq
  refine wpAny_List_spliced (thn (h pos pins s σ H _ I hq) fun us s1 ⟨xs, H1, I1, r, z, q⟩ => ⟨by rw [← r.length]; exact z, ?_⟩)
  have hf : H1 s1.heap.objs.size = none := I1.hok.fresh (Nat.le_refl _)
  refine ⟨.ref s1.heap.objs.size, upd H1 s1.heap.objs.size (.lst xs), I1.laid (t' := s1.toks) (fun b u e => Heap.get?_push_of_some _ e) (Nat.le_refl _) ?_, rfl, q _ hf⟩
  exact ⟨z, us, 0, r, Heap.get?_push_size _ rfl⟩
end

/-! ### what a def promises -/
/-- a def's promise: the bound arguments in the parameters' order, the heap, the wanted end, the wanted exception -/
abbrev Sp := List V → Hp → VK → XK → Prop
/-- how an exception lies behind a call (file 08 gives it): the callers' frames, abstract heap and state ahead of the call, the wish, the exception, the state -/
abbrev CXT := List Env → Hp → Shared → XK → Value → Shared → Prop

/-- the state at a call -/
structure Env0 (P : Program) (w : World) (K : PySem.W.Frag) (mg : Str → Option Value) (base : Heap) (A : Around) (outer : List Env) (s : Shared) (H : Hp) : Prop where
  frames : A.frames = some outer
  mod : Mod K mg base
  bs : ∀ b o, base.get? b = some o → s.heap.get? b = some o ∧ H b = none
  bsz : base.objs.size ≤ s.heap.objs.size
  funs : s.heap.FunFrames base outer
  frf : ∀ b ∈ frs outer, H b = none
  hok : HOk P w H s.heap
  bare : AllBare s.gens
/-- a call's end -/
def CE (outer : List Env) (P : Program) (w : World) (H : Hp) (s : Shared) (Q : VK) (u : Value) (s' : Shared) : Prop :=
  ∃ v H', s'.os = s.os ∧ AllBare s'.gens ∧ Un (frs outer) [] H H' s.heap s'.heap ∧ HOk P w H' s'.heap ∧ RelV v u ∧ Q v H'
def CR (CX : CXT) (outer : List Env) (P : Program) (w : World) (H : Hp) (s : Shared) (Q : VK) (E : XK) (r : Result) (s' : Shared) : Prop :=
  match r with
  | .ok (.ret u) => CE outer P w H s Q u s'
  | .ok _ => False
  | .error e => CX outer H s E e s'
structure FnOk (P : Program) (w : World) (K : PySem.W.Frag) (mg : Str → Option Value) (base : Heap) (CX : CXT) (k : Nat) (f : Addr) (fd : FuncData) (ps : List Str) (sp : Sp) : Prop where
  len : ∀ vs H Q E, sp vs H Q E → vs.length = ps.length
  run : ∀ (A : Around) (outer : List Env) (s : Shared) (H : Hp) (args : Args) (us : List Value) (vs : List V) (Q : VK) (E : XK), Room k A → Env0 P w K mg base A outer s H → BindsTo s fd args (ps.zip us) → Vals vs us → sp vs H Q E →
    codeAny (model P w) A (.call (.ref f) args) (CR CX outer P w H s Q E) s
theorem FnOk.mono {P : Program} {w : World} {K : PySem.W.Frag} {mg : Str → Option Value} {base : Heap} {CX : CXT} {j k : Nat} {f : Addr} {fd : FuncData} {ps : List Str} {sp : Sp} (F : FnOk P w K mg base CX j f fd ps sp) (h : j ≤ k) :
    FnOk P w K mg base CX k f fd ps sp := ⟨F.len, fun A outer s H args us vs Q E hr => F.run A outer s H args us vs Q E (hr.mono h)⟩
/-- a weaker promise -/
theorem FnOk.imp {P : Program} {w : World} {K : PySem.W.Frag} {mg : Str → Option Value} {base : Heap} {CX : CXT} {k : Nat} {f : Addr} {fd : FuncData} {ps : List Str} {sp sp' : Sp} (F : FnOk P w K mg base CX k f fd ps sp)
    (h : ∀ vs H Q E, sp' vs H Q E → sp vs H Q E) : FnOk P w K mg base CX k f fd ps sp' :=
  ⟨fun vs H Q E q => F.len vs H Q E (h _ _ _ _ q), fun A outer s H args us vs Q E hr he hb hv hs => F.run A outer s H args us vs Q E hr he hb hv (h _ _ _ _ hs)⟩

theorem Env0.make {P : Program} {w : World} {K : PySem.W.Frag} {mg : Str → Option Value} {base : Heap} {A : Around} {outer : List Env} {s : Shared} {H : Hp} (e : Env0 P w K mg base A outer s H) (C : Addr) (us : List Value) (kw : List (Str × Value)) :
    Env0 P w K mg base (A.under (.builtin "type.__call__" ⟨.ref C :: us, kw⟩)) outer s H := ⟨by first | exact e.frames | (simpa [Around.under, Code.envs, Code.isFrame, pushEnvs] using e.frames), e.mod, e.bs, e.bsz, e.funs, e.frf, e.hok, e.bare⟩
section
variable {X : Cx} {pins : List (Addr × Obj)} {σ : St} {H : Hp} {s s' : Shared}
/-- from a body: what a callee wants -/
theorem Inv.env0 (I : Inv X pins σ H s) : Env0 X.prog X.w X.K X.mg X.base X.A X.stack s H :=
  ⟨I.ok.frames, I.ok.mod, I.bs, Nat.le_trans I.ok.bsz I.sz, I.stack, I.stkFree, I.hok, I.bare⟩
/-- behind a call -/
theorem Inv.after {Q : VK} {u : Value} (I : Inv X pins σ H s) (h : CE X.stack X.prog X.w H s Q u s') : EP X pins σ Q u s' := by
  obtain ⟨v, H', os, bare, un, hok, r, q⟩ := h
  obtain ⟨hh, g, d, t, os'⟩ := s'
  obtain rfl : os' = s.os := os
  exact ⟨v, H', I.call (h' := hh) (g' := g) (d' := d) (t' := t) (ch := []) un hok bare (fun b z => absurd z (by simp)), r, q⟩
end

/-! ### calls -/
/-- f(..): the written arguments, then the defaults dvs; E: what is wanted of an exception -/
def tCall (sp : Sp) (dvs : List V) (E : XK) (t : TA) : TE := fun σ H Q => t σ H fun vs H1 => sp (vs ++ dvs) H1 Q E
/-- C(..): a new instance and its dict, then __init__ -/
def tMake (C : Addr) (sp : Sp) (dvs : List V) (E : XK) (t : TA) : TE := fun σ H Q => t σ H fun vs H1 => ∀ x dx, H1 x = none → H1 dx = none → dx ≠ x →
  sp (.ref x :: (vs ++ dvs)) (upd (upd H1 dx (.own x)) x (.ins C dx [])) (fun v H2 => v = .non ∧ Q (.ref x) H2) E

/-- how the parameters are bound: us the positional arguments, kw the keywords' values by name, ds the defaults that fill up -/
def Binds (K : PySem.W.Frag) (fd : FuncData) (ps : List Str) (ds : List Value) : Prop :=
  ∀ (s : Shared) (us : List Value), K.In s.heap → (us ++ ds).length = ps.length → BindsTo s fd ⟨us, []⟩ (ps.zip (us ++ ds))
/-- every parameter is given -/
theorem Binds.all {K : PySem.W.Frag} {fd : FuncData} {ps : List Str} (h : ∀ us : List Value, us.length = ps.length → bindArgs fd ⟨us, []⟩ = pure (ps.zip us)) : Binds K fd ps [] := fun s us _ hl => by
  rw [List.append_nil] at hl ⊢
  exact .of_eq (h us hl)

/-- an exception of a callee reaches what this body wants of exceptions -/
def Passes (CX : CXT) (X : Cx) (E : XK) : Prop := ∀ (pins : List (Addr × Obj)) (σ : St) (H : Hp) (s : Shared) (e : Value) (s' : Shared), Inv X pins σ H s → CX X.stack H s E e s' → X.xe e s'

section
variable {X : Cx} {CX : CXT} {k : Nat} {f C : Addr} {fd : FuncData} {ps : List Str} {sp : Sp} {dvs : List V} {ds : List Value} {E : XK} {x m : Str} {p pos apos : Pos} {e o : Expr} {es : List Expr} {ta : TE} {t : TA}

/-- the callee runs -/
theorem run_fn {pins : List (Addr × Obj)} {σ : St} {H : Hp} {s : Shared} {Q : VK} {us : List Value} {vs : List V} (F : FnOk X.prog X.w X.K X.mg X.base CX k f fd ps sp) (hr : Room k X.A) (hb : Binds X.K fd ps ds) (hd : Vals dvs ds) (hx : Passes CX X E)
    (I : Inv X pins σ H s) (r : Vals vs us) (h : sp (vs ++ dvs) H Q E) : wpAny (model X.prog X.w) X.A (call (.ref f) us) (EP X pins σ Q) X.xe s := by
  have r2 : Vals (vs ++ dvs) (us ++ ds) := r.append hd
  have hl : (us ++ ds).length = ps.length := by rw [← r2.length]; exact F.len _ _ _ _ h
  refine wpAny_call (codeAny_mono (F.run X.A X.stack s H ⟨us, []⟩ (us ++ ds) (vs ++ dvs) Q E hr I.env0 (hb s us I.kIn hl) r2 h) fun r s' hq => ?_)
  cases r with
  | error e => exact hx pins σ H s e s' I hq
  | ok fl =>
    cases fl with
    | ret u => exact I.after hq
    | next => exact False.elim hq
    | brk => exact False.elim hq
    | cont => exact False.elim hq

theorem pe_call (F : FnOk X.prog X.w X.K X.mg X.base CX k f fd ps sp) (hr : Room k X.A) (hg : Gl X x) (hm : X.mg x = some (.ref f)) (hk : PySem.W.keepIn X.K (.ref f) = true) (hb : Binds X.K fd ps ds) (hd : Vals dvs ds) (hx : Passes CX X E)
    (ha : PA X (e :: es) t) (hdb : (x == ("__debug__" : Str)) = false := by decide) (he : starEach (e :: es) X.env = (false, eval e X.env) :: starEach es X.env := by rfl) (hpl : (backTo pos (starEach es X.env)).any (·.1) = false := by rfl) :
    PE X (.Call (.Name x p) (e :: es) [] pos) (tCall sp dvs E t) := by
  intro pins s σ H Q I h
  refine wpAny_Call_Name_kw (ld_glob I hg hm ?_ hdb)
  refine PySem.W.callWith_K (h₀ := X.base) I.ok.mod.kin hk (thn (ha pos pins s σ H _ I h) fun us s1 ⟨vs, H1, I1, r, q⟩ => ⟨I1.kIn, ?_⟩) he hpl
  exact run_fn F hr hb hd hx I1 r q
/-- what a class must have to be made -/
structure Mk (K : PySem.W.Frag) (C f : Addr) : Prop where
  makes : PySem.W.makesIn K C = true
  init : PySem.W.findIn K (.ref C) "__init__" = some (some (.ref f))
  fn : PySem.W.isFn K (.ref f) = true
  kp : PySem.W.keepIn K (.ref C) = true

theorem run_make {pins : List (Addr × Obj)} {σ : St} {H : Hp} {s : Shared} {Q : VK} {us : List Value} {vs : List V} (M : Mk X.K C f) (F : FnOk X.prog X.w X.K X.mg X.base CX k f fd ps sp) (hr : Room (k + 1) X.A) (hb : Binds X.K fd ps ds) (hd : Vals dvs ds)
    (hx : Passes CX X E) (I : Inv X pins σ H s) (r : Vals vs us)
    (h : ∀ x dx, H x = none → H dx = none → dx ≠ x → sp (.ref x :: (vs ++ dvs)) (upd (upd H dx (.own x)) x (.ins C dx [])) (fun v H2 => v = .non ∧ Q (.ref x) H2) E) :
    wpAny (model X.prog X.w) X.A (call (.ref C) us) (EP X pins σ Q) X.xe s := by
  have hq := h (s.heap.objs.size + 1) s.heap.objs.size (I.hok.fresh (Nat.le_succ _)) (I.hok.fresh (Nat.le_refl _)) (Nat.ne_of_lt (Nat.lt_succ_self _))
  have I2 := Inv.made (C := C) I
  have r2 : Vals (V.ref (s.heap.objs.size + 1) :: (vs ++ dvs)) (Value.ref (s.heap.objs.size + 1) :: (us ++ ds)) := .cons rfl (r.append hd)
  have hl : (Value.ref (s.heap.objs.size + 1) :: us ++ ds).length = ps.length := by
    have e := r2.length
    rw [F.len _ _ _ _ hq] at e
    exact e.symm
  refine wpAny_call (make_map (f := f) I.kIn M.makes M.init (beq_iff_eq.mp M.fn) (codeAny_mono (F.run _ X.stack _ _ ⟨Value.ref (s.heap.objs.size + 1) :: us, []⟩ (Value.ref (s.heap.objs.size + 1) :: (us ++ ds)) _ _ E (hr.make C us [])
    (I2.env0.make C us []) (hb _ (Value.ref (s.heap.objs.size + 1) :: us) I2.kIn hl) r2 hq) fun r s' hq' => ?_))
  cases r with
  | error e => exact hx pins σ _ _ e s' I2 hq'
  | ok fl =>
    cases fl with
    | ret u =>
      obtain ⟨v, H', I3, rv, ev, q3⟩ := I2.after hq'
      subst ev
      exact ⟨rv, ⟨V.ref (s.heap.objs.size + 1), H', I3, rfl, q3⟩⟩
    | next => exact False.elim hq'
    | brk => exact False.elim hq'
    | cont => exact False.elim hq'
theorem pe_make (M : Mk X.K C f) (F : FnOk X.prog X.w X.K X.mg X.base CX k f fd ps sp) (hr : Room (k + 1) X.A) (hg : Gl X x) (hm : X.mg x = some (.ref C)) (hb : Binds X.K fd ps ds) (hd : Vals dvs ds) (hx : Passes CX X E)
    (ha : PA X (e :: es) t) (hdb : (x == ("__debug__" : Str)) = false := by decide) (he : starEach (e :: es) X.env = (false, eval e X.env) :: starEach es X.env := by rfl) (hpl : (backTo pos (starEach es X.env)).any (·.1) = false := by rfl) :
    PE X (.Call (.Name x p) (e :: es) [] pos) (tMake C sp dvs E t) := by
  intro pins s σ H Q I h
  refine wpAny_Call_Name_kw (ld_glob I hg hm ?_ hdb)
  refine PySem.W.callWith_K (h₀ := X.base) I.ok.mod.kin M.kp (thn (ha pos pins s σ H _ I h) fun us s1 ⟨vs, H1, I1, r, q⟩ => ⟨I1.kIn, ?_⟩) he hpl
  exact run_make M F hr hb hd hx I1 r q
end

/-! ### keywords -/
section
variable {X : Cx} {CX : CXT} {k : Nat} {f C : Addr} {fd : FuncData} {ps ks : List Str} {sp : Sp} {E : XK} {x m : Str} {p pos apos kpos : Pos} {e o : Expr} {es : List Expr} {kws : List Keyword} {te ta : TE} {t tk : TA} {nm : Option Str}
variable {g : List Value → List Value → List Value} {gV : List V → List V → List V}
end

/-! ### a def's body keeps its promise -/
/-- names: the parameters first -/
structure FnScope (N P : List Str) (sc : Scope) : Prop where
  kind : sc.kind = .function
  co : sc.isCoroutine = false
  gen : sc.isGenerator = false
  nd : N.Nodup
  pre : N.take P.length = P
  par : ∀ x ∈ P, sc.names.lookup x = some .local ∨ sc.names.lookup x = some .cell
  nofree : ∀ y ∈ sc.names, y.2 ≠ .free

theorem bindL_out {kindOf : Str → Option NameKind} {x : Str} : ∀ {binds : List (Str × Value)} {m : Str → Option Value}, (∀ v, (x, v) ∉ binds) → bindL kindOf binds m x = m x
  | [], _, _ => rfl
  | (n, v) :: r, m, h => by
    unfold bindL
    rw [bindL_out fun w hw => h w (List.mem_cons_of_mem _ hw)]
    split
    · have : x ≠ n := by rintro rfl; exact h v List.mem_cons_self
      simp [this]
    · rfl
theorem bindC_out {kindOf : Str → Option NameKind} {x : Str} : ∀ {binds : List (Str × Value)} {m : Str → Option Value}, (∀ v, (x, v) ∉ binds) → bindC kindOf binds m x = m x
  | [], _, _ => rfl
  | (n, v) :: r, m, h => by
    unfold bindC
    rw [bindC_out fun w hw => h w (List.mem_cons_of_mem _ hw)]
    split
    · rfl
    · have : x ≠ n := by rintro rfl; exact h v List.mem_cons_self
      simp [this]
theorem bindL_get {kindOf : Str → Option NameKind} {x : Str} {v : Value} : ∀ {P : List Str} {vs : List Value} {i : Nat} {m : Str → Option Value}, P.Nodup → P[i]? = some x → vs[i]? = some v → kindOf x = some .local →
    bindL kindOf (P.zip vs) m x = some v
  | [], _, _, _, _, h, _, _ => by simp at h
  | _ :: _, [], _, _, _, _, h, _ => by simp at h
  | p :: P, w :: vs, 0, m, nd, h1, h2, hk => by
    simp at h1 h2; subst h1; subst h2
    show bindL kindOf ((p, w) :: P.zip vs) m p = _
    unfold bindL
    rw [bindL_out fun v hv => (List.nodup_cons.mp nd).1 (List.of_mem_zip hv).1, if_pos hk]
    simp
  | p :: P, w :: vs, i + 1, m, nd, h1, h2, hk => by
    show bindL kindOf ((p, w) :: P.zip vs) m x = _
    unfold bindL
    exact bindL_get (i := i) (List.nodup_cons.mp nd).2 (by simpa using h1) (by simpa using h2) hk
theorem bindC_get {kindOf : Str → Option NameKind} {x : Str} {v : Value} : ∀ {P : List Str} {vs : List Value} {i : Nat} {m : Str → Option Value}, P.Nodup → P[i]? = some x → vs[i]? = some v → kindOf x ≠ some .local →
    bindC kindOf (P.zip vs) m x = some v
  | [], _, _, _, _, h, _, _ => by simp at h
  | _ :: _, [], _, _, _, _, h, _ => by simp at h
  | p :: P, w :: vs, 0, m, nd, h1, h2, hk => by
    simp at h1 h2; subst h1; subst h2
    show bindC kindOf ((p, w) :: P.zip vs) m p = _
    unfold bindC
    rw [bindC_out fun v hv => (List.nodup_cons.mp nd).1 (List.of_mem_zip hv).1, if_neg hk]
    simp
  | p :: P, w :: vs, i + 1, m, nd, h1, h2, hk => by
    show bindC kindOf ((p, w) :: P.zip vs) m x = _
    unfold bindC
    exact bindC_get (i := i) (List.nodup_cons.mp nd).2 (by simpa using h1) (by simpa using h2) hk

/-- the names' values at the entry -/
def start (N : List Str) (vs : List V) : St := vs.map some ++ List.replicate (N.length - vs.length) none

/-- the context of a def's body, at its entry; an exception leaves the frame, then lies as CX says -/
def cxOf (CX : CXT) (P : Program) (w : World) (K : PySem.W.Frag) (mg : Str → Option Value) (base : Heap) (N : List Str) (qual : Str) (scope : Scope) (f : Addr) (cd : Value) (A : Around) (outer : List Env) (s : Shared) (H : Hp) (E : XK) : Cx where
  prog := P
  w := w
  K := K
  mg := mg
  base := base
  A := A.deeper (envOfC qual scope s.heap.objs.size f cd)
  N := N
  s₀ := s
  H₀ := H
  env := envOfC qual scope s.heap.objs.size f cd
  outer := outer
  stack := envOfC qual scope s.heap.objs.size f cd :: outer
  ex := []
  calm := true
  fn := fun _ => true
  pn := []
  xe := fun e s' => wpAny (model P w) (A.deeper (envOfC qual scope s.heap.objs.size f cd)) (leaving (envOfC qual scope s.heap.objs.size f cd) e) (fun _ s'' => CX outer H s E e s'') (fun e' s'' => CX outer H s E e' s'') s'

theorem cell_has {sc : Scope} {n : Nat} {x : Str} (h : sc.names.lookup x = some .cell) : ∃ c, (cellsFrom n sc.names []).lookup x = some c := by
  have q := PySem.W.cellsFrom_some sc.names n [] (.inl h)
  exact Option.isSome_iff_exists.mp q

theorem inv_start {CX : CXT} {P : Program} {w : World} {K : PySem.W.Frag} {mg : Str → Option Value} {base : Heap} {N ps : List Str} {qual : Str} {scope : Scope} {f : Addr} {cd : Value} {A : Around} {outer : List Env} {s s1 : Shared} {H : Hp} {E : XK} {us : List Value} {vs : List V}
    (S : FnScope N ps scope) (hd : A.handled = none) (e0 : Env0 P w K mg base A outer s H) (hl : vs.length = ps.length) (r : Vals vs us)
    (x : InCallC s s.heap.objs.size (bindL (envOfC qual scope s.heap.objs.size f cd).kindOf (ps.zip us) fun _ => none) (cellsFrom (s.heap.objs.size + 1) scope.names []) (bindC (envOfC qual scope s.heap.objs.size f cd).kindOf (ps.zip us) fun _ => none) s1) :
    Inv (cxOf CX P w K mg base N qual scope f cd A outer s H E) [] (start N vs) H s1 := by
  have hpl : ps.length ≤ N.length := by have := congrArg List.length S.pre; rw [List.length_take] at this; omega
  obtain ⟨h1, tk, rfl, hk⟩ := x.done
  have noA : ∀ b : Addr, b ∉ (cxOf CX P w K mg base N qual scope f cd A outer s H E).ex := fun b z => absurd (show b ∈ ([] : List Addr) from z) (by simp)
  refine ⟨⟨e0.mod, S.kind, rfl, rfl, Nat.le_refl _, fun y z c h1 h2 => ?_, fun y hy => ?_, fun y c _ h => ?_, fun _ => hd, Around.frames_deeper e0.frames, .inr ⟨rfl, rfl⟩, fun b z => absurd z (noA b), e0.bs, e0.bsz, fun b _ _ => noA b, fun b z => absurd z (noA b), e0.funs, e0.frf⟩,
    rfl, e0.bare, Un.kept hk, ⟨_, x.toInCall.ns, fun i y v h1 h2 h3 => ?_⟩, fun y c h => ⟨_, x.cell y c h⟩, e0.hok.fresh (Nat.le_refl _), fun y c h => ?_, fun p hp => absurd (show p ∈ ([] : List (Addr × Obj)) from hp) (by simp), e0.hok.kept hk, ?_⟩
  · exact name_of_addr x.apart (PySem.mem_of_lookup h1) (PySem.mem_of_lookup h2)
  · have hy : scope.names.lookup y = some .cell ∨ scope.names.lookup y = some .free := hy
    rcases hy with hy | hy
    · exact cell_has hy
    · exact absurd rfl (S.nofree _ (PySem.mem_of_lookup hy))
  · exact Nat.le_of_lt (x.above y c (PySem.mem_of_lookup h))
  · have hi : i < vs.length := by
      unfold start at h2
      by_cases hi : i < vs.length
      · exact hi
      · rw [List.getElem?_append_right (by simpa using hi)] at h2
        rw [List.getElem?_replicate] at h2
        split at h2 <;> cases h2
    have ha : vs[i]? = some v := by
      unfold start at h2
      rw [List.getElem?_append_left (by simpa using hi), List.getElem?_map] at h2
      cases e : vs[i]? with
      | none => rw [e] at h2; cases h2
      | some a => rw [e] at h2; cases h2; rfl
    obtain ⟨u, hu, rv⟩ := r.get ha
    have hp : ps[i]? = some y := by
      rw [← S.pre, List.getElem?_take_of_lt (by omega)]; exact h1
    have ndP : ps.Nodup := by rw [← S.pre]; exact S.nd.sublist (List.take_sublist _ _)
    refine ⟨u, rv, ?_⟩
    rcases S.par y (List.mem_of_getElem? hp) with k | k
    · exact .inl ⟨k, bindL_get ndP hp hu k⟩
    · obtain ⟨c, e⟩ := cell_has (n := s.heap.objs.size + 1) k
      refine .inr ⟨.inl k, c, e, ?_⟩
      have q := x.cell y c e
      rw [bindC_get ndP hp hu (by show scope.names.lookup y ≠ _; rw [k]; decide)] at q
      exact q
  · exact e0.hok.fresh (Nat.le_of_lt (x.above y c (PySem.mem_of_lookup h)))
  · unfold start
    show _ = N.length
    rw [List.length_append, List.length_map, List.length_replicate]
    omega

/-- THE RULE: a def (or a method) of the text, by its body. The body's reading t is chosen for each entry; it is run at the parameters' values -/
theorem fn_of {CX : CXT} {P : Program} {w : World} {K : PySem.W.Frag} {mg : Str → Option Value} {base : Heap} {k : Nat} {f : Addr} {name qual : Str} {params : Arguments} {body : List Stmt} {scope : Scope} {dV kV doc pm cdv ct oc : Value} {an od : Option Addr}
    {osl : Array (Option Value)} {N ps : List Str} {sp : Sp} (lk : K.lookup f = some ⟨oc, od, .func (PySem.W.fnOf name qual params body scope dV kV doc pm an cdv ct), osl⟩) (hcd : PySem.W.codeIn K cdv qual = true) (S : FnScope N ps scope)
    (len : ∀ vs H Q E, sp vs H Q E → vs.length = ps.length)
    (hbody : ∀ (A : Around) (outer : List Env) (s : Shared) (H : Hp) (vs : List V) (Q : VK) (E : XK), Room k (A.deeper (envOfC qual scope s.heap.objs.size f cdv)) → sp vs H Q E →
      ∃ t, PSs (cxOf CX P w K mg base N qual scope f cdv A outer s H E) body t ∧ t { nx := fun _ H' => Q .non H', rt := Q } (start N vs) H) :
    FnOk P w K mg base CX (k + 1) f (PySem.W.fnOf name qual params body scope dV kV doc pm an cdv ct) ps sp := by
  refine ⟨len, fun A outer s H args us vs Q E hr e0 hb r hsp => ?_⟩
  have hl := len _ _ _ _ hsp
  have KX : K.In s.heap := e0.mod.kin.keeps fun b o e => (e0.bs b o e).1
  have lim : s.heap.NoLimit := e0.mod.nolimit.keeps fun b o e => (e0.bs b o e).1
  have hkind : ∀ y ∈ ps.zip us, scope.names.lookup y.1 = some .local ∨ (scope.names.lookup y.1 = some .cell ∧ ((cellsFrom (s.heap.objs.size + 1) scope.names []).lookup y.1).isSome = true) := fun ⟨n, v⟩ hy => by
    rcases S.par n (List.of_mem_zip hy).1 with q | q
    · exact .inl q
    · exact .inr ⟨q, PySem.W.cellsFrom_some _ _ _ (.inl q)⟩
  refine codeAny_call_function hr.depth (KX _ _ lk) rfl S.co S.gen rfl (PySem.W.codeRec_of KX hcd) (hb _ _ _ _ ?_)
  refine wpAny_newFunctionEnv_cells S.kind hkind fun env he s1 x => ?_
  subst he
  refine ⟨lim.keeps x.toInCall.keep, codeAny_func ?_⟩
  obtain ⟨t, ht, hq⟩ := hbody A outer s H vs Q E (hr.deeper _) hsp
  have I : Inv (cxOf CX P w K mg base N qual scope f cdv A outer s H E) [] (start N vs) H s1 := inv_start S hr.hd e0 hl r x
  refine wpAny_mono (ht [] s1 (start N vs) H _ I hq) (fun fl s' hs => ?_) fun e s' hs => hs
  have fin : ∀ {σ' : St} {H' : Hp} {v : V} {u : Value}, Inv (cxOf CX P w K mg base N qual scope f cdv A outer s H E) [] σ' H' s' → RelV v u → Q v H' → CE outer P w H s Q u s' :=
    fun {σ' H' v u} J rv q => ⟨v, H', J.os, J.bare, J.base, J.hok, rv, q⟩
  cases fl with
  | ret u =>
    obtain ⟨v, σ', H', J, rv, q⟩ := hs
    exact fin J rv q
  | next =>
    obtain ⟨σ', H', J, q⟩ := hs
    exact fin (v := V.non) (u := Value.none) J rfl q
  | brk =>
    obtain ⟨_, _, _, q⟩ := hs
    exact False.elim q
  | cont =>
    obtain ⟨_, _, _, q⟩ := hs
    exact False.elim q
end L2

namespace L2
open PySem PySem.Spec PyProof.Rows
section
variable {X : Cx} {x : Str} {p pos : Pos} {e : Expr} {es : List Expr} {t : TA} {id T : String} {r : List V → Hp → VK → Prop}

def tCB (r : List V → Hp → VK → Prop) (t : TA) : TE := fun σ H Q => t σ H fun vs H1 => r vs H1 Q
/-- f(e, ..), f a built-in function -/
theorem pe_callB (hc : CallR X (.builtin id) r) (hg : Gl X x) (hm : X.mg x = none) (hv : bootBuiltins x = some (.builtin id)) (ha : PA X (e :: es) t) (hn : x ≠ "__name__" := by decide) (hdb : (x == ("__debug__" : Str)) = false := by decide)
    (he : starEach (e :: es) X.env = (false, eval e X.env) :: starEach es X.env := by rfl) (hpl : (backTo pos (starEach es X.env)).any (·.1) = false := by rfl) : PE X (.Call (.Name x p) (e :: es) [] pos) (tCB r t) := by
  intro pins s σ H Q I h
  refine wpAny_Call_Name_kw (ld_blt I hg hm hv ?_ hn hdb)
  exact PyProof.Rows.callWith_builtin1 (thn (ha pos pins s σ H _ I h) fun us s1 ⟨vs, H1, I1, r1, q1⟩ => hc pins s1 σ H1 vs us Q I1 r1 q1) he hpl
/-- T(e, ..), T a built-in type -/
theorem pe_callTy (hc : CallR X (.type T) r) (hg : Gl X x) (hm : X.mg x = none) (hv : bootBuiltins x = some (.type T)) (ha : PA X (e :: es) t) (hn : x ≠ "__name__" := by decide) (hdb : (x == ("__debug__" : Str)) = false := by decide)
    (he : starEach (e :: es) X.env = (false, eval e X.env) :: starEach es X.env := by rfl) (hpl : (backTo pos (starEach es X.env)).any (·.1) = false := by rfl) : PE X (.Call (.Name x p) (e :: es) [] pos) (tCB r t) := by
  intro pins s σ H Q I h
  refine wpAny_Call_Name_kw (ld_blt I hg hm hv ?_ hn hdb)
  exact PyProof.Rows.callWith_type1 (thn (ha pos pins s σ H _ I h) fun us s1 ⟨vs, H1, I1, r1, q1⟩ => hc pins s1 σ H1 vs us Q I1 r1 q1) he hpl
end
end L2

namespace HT
open PySem PyProof.Rows

section
open PySem.SeqAt
open PySem.AutoSeq1 (wpAny_loadPart')
open PySem.MeetsSeq PySem.MeetsSeq2 PySem.MeetsSeq3

end

section
variable {prog : Program} {w : World} {A : Around} {E : Value → Shared → Prop} {s : Shared}

/-- t + u, t not empty -/
theorem cat_tup {t b : Addr} {vs ws : List Value} {Q : Value → Shared → Prop} (ht : IsTup s.heap t vs.toArray) (hb : IsTup s.heap b ws.toArray) (hv : vs ≠ [])
    (h1 : ws = [] → Q (.ref t) s) (h2 : ws ≠ [] → Q (.ref s.heap.objs.size) { s with heap := s.heap.push { cls := .type "tuple", data := .seq (vs ++ ws).toArray } })
    (hsz : vs.length + ws.length ≤ sizeLine) : wpAny (model prog w) A (binaryOp .Add (.ref t) (.ref b)) Q E s := by
  obtain ⟨⟨cls, dd, data, sl⟩, ho, hc, n, hd⟩ := id ht
  obtain ⟨⟨cls2, dd2, data2, sl2⟩, ho2, hc2, n2, hd2⟩ := id hb
  simp only at hc hd hc2 hd2
  subst hc hd hc2 hd2
  have e : vs.toArray ++ ws.toArray = (vs ++ ws).toArray := by simp
  by_cases hw : ws = []
  · exact concat_meets ⟨_, ho, rfl⟩ ⟨_, ho2, rfl⟩ noFill_tuple_add seq_tuple_add PySem.F.slot_tuple_add PySem.F.entry_tuple_add (PySem.F.args_tuple_add_2 _ _)
      (tuple_addW1 t b vs.toArray ws.toArray n n2 dd dd2 sl sl2 (by simpa using hv) (by simp [hw])) ⟨ho, ho2, h1 hw⟩
  · refine concat_meets ⟨_, ho, rfl⟩ ⟨_, ho2, rfl⟩ noFill_tuple_add seq_tuple_add PySem.F.slot_tuple_add PySem.F.entry_tuple_add (PySem.F.args_tuple_add_2 _ _)
      (tuple_addW2 t b vs.toArray ws.toArray n n2 dd dd2 sl sl2 (by simpa using hv) (by simpa using hw) (by rw [List.size_toArray, List.size_toArray]; exact hsz)) ⟨ho, ho2, ?_⟩
    rw [e]
    exact h2 hw

/-! ### t[a:b], not the whole -/
/-- a slice's bound as a place among n (d where it is left out) -/
def sIx (n d : Nat) : Option Int → Nat
  | none => d
  | some v => if v < 0 then (v + (n : Int)).toNat else min v.toNat n
end
end HT

namespace L2
open PySem PySem.Spec PyProof.Rows

/-! ### the parts of a slice -/
abbrev TO := St → Hp → (Option Int → Hp → Prop) → Prop
/-- a slice's part (left out, or an int) -/
def PO (X : Cx) (e : Option Expr) (t : TO) : Prop :=
  ∀ (pins : List (Addr × Obj)) (s : Shared) (σ : St) (H : Hp) (Q : Option Int → Hp → Prop), Inv X pins σ H s → t σ H Q →
    wpAny (model X.prog X.w) X.A (evalPart e X.env) (fun u s' => ∃ o H', Inv X pins σ H' s' ∧ IsPart u o ∧ Q o H') X.xe s
def tNoPart : TO := fun _ H Q => Q none H
def tPart (t : TE) : TO := fun σ H Q => t σ H fun x H1 => ∃ i, x = .int i ∧ Q (some i) H1

section
variable {X : Cx} {e : Expr} {te : TE} {lo hi : Option Expr} {tl th : TO} {pos p2 : Pos}

theorem po_none : PO X none tNoPart := by
  intro pins s σ H Q I h
  rw [evalPart_none]
  exact wpAny_pure ⟨none, H, I, .none, h⟩
theorem po_some (h : PE X e te) : PO X (some e) (tPart te) := by
  intro pins s σ H Q I hw
  rw [evalPart_some]
  refine thn (h pins s σ H _ I hw) fun u s1 ⟨x, H1, I1, r1, q1⟩ => ?_
  obtain ⟨i, rfl, q⟩ := q1
  obtain ⟨t, rfl⟩ := r1
  exact ⟨some i, H1, I1, .int i t, q⟩

/-- what a slice of a value is, by values: the slice object stands at sl -/
def SlR (X : Cx) (r : V → Option Int → Option Int → Hp → VK → Prop) : Prop :=
  ∀ (pins : List (Addr × Obj)) (s : Shared) (σ : St) (H : Hp) (x : V) (v vl vu : Value) (lo hi : Option Int) (sl : Addr) (Q : VK), Inv X pins σ H s → RelV x v → s.heap.IsSliceOf sl vl vu .none → IsPart vl lo → IsPart vu hi → r x lo hi H Q →
    ∃ T id, typeLookup (.type T) "__getitem__" = pure (some (.builtin id)) ∧ s.TypeIs v T ∧ wpAny (model X.prog X.w) X.A (getItem v (.ref sl)) (EP X pins σ Q) X.xe s
def tSl (r : V → Option Int → Option Int → Hp → VK → Prop) (te : TE) (tl th : TO) : TE := fun σ H Q => te σ H fun x H1 => tl σ H1 fun l H2 => th σ H2 fun u H3 => r x l u H3 Q
/-- a[lo:hi], any a -/
theorem pe_slice {r : V → Option Int → Option Int → Hp → VK → Prop} (hr : SlR X r) (he : PE X e te) (hl : PO X lo tl) (hu : PO X hi th) : PE X (.Subscript e (.Slice lo hi none p2) pos) (tSl r te tl th) := by
  intro pins s σ H Q I h
  refine Subscript_ (thn (he pins s σ H _ I h) fun v s1 ⟨x, H1, I1, r1, q1⟩ => ?_)
  refine wpAny_Slice (thn (hl pins s1 σ H1 _ I1 q1) fun vl s2 ⟨l, H2, I2, pl, q2⟩ => thn (hu pins s2 σ H2 _ I2 q2) fun vu s3 ⟨u, H3, I3, pu, q3⟩ => ?_)
  rw [evalPart_none]
  refine wpAny_pure ?_
  have I4 : Inv X pins σ H3 { s3 with heap := s3.heap.push { cls := .type "slice", data := .fields #[vl, vu, .none] } } := I3.kept (t' := s3.toks) fun b ob q => Heap.get?_push_of_some _ q
  obtain ⟨T, id, hT, ht, hg⟩ := hr pins { s3 with heap := s3.heap.push { cls := .type "slice", data := .fields #[vl, vu, .none] } } σ H3 x v vl vu l u s3.heap.objs.size Q I4 r1 (Heap.IsSliceOf.new ..) pl pu q3
  show wpAny (model X.prog X.w) X.A (subscriptTail e (.Slice lo hi none p2) v (.ref s3.heap.objs.size)) (EP X pins σ Q) X.xe { s3 with heap := s3.heap.push { cls := .type "slice", data := .fields #[vl, vu, .none] } }
  exact tail_any (ops := [.ref s3.heap.objs.size, v]) ht hT hg (by with_unfolding_all rfl)

/-- the items of xs[lo:hi] -/
def cutV (xs : List V) (lo hi : Option Int) : List V := (xs.drop (HT.sIx xs.length 0 lo)).take (HT.sIx xs.length xs.length hi - HT.sIx xs.length 0 lo)
theorem cutV_length (xs : List V) (lo hi : Option Int) : (cutV xs lo hi).length ≤ xs.length := by
  unfold cutV
  rw [List.length_take, List.length_drop]
  omega
/-! ### t < u, t + u -/
/-- t + u, t not empty: u empty gives t itself -/
def rCatT (K : PySem.W.Frag) : R2 := fun x y H Q => ∃ a b xs ys, x = .ref a ∧ y = .ref b ∧ SqT K H a xs ∧ SqT K H b ys ∧ xs ≠ [] ∧ xs.length + ys.length ≤ sizeLine ∧
  (ys = [] → Q (.ref a) H) ∧ (ys ≠ [] → ∀ p, H p = none → Q (.ref p) (upd H p (.tup (xs ++ ys))))
theorem Vals.nil_iff {xs : List V} {us : List Value} (r : Vals xs us) : us = [] ↔ xs = [] := by
  cases r with
  | nil => simp
  | cons _ _ => simp
theorem op_catT : OpR X (binaryOp .Add) (rCatT X.K) := by
  intro pins s σ H x y v u Q I rx ry h
  obtain ⟨a, b, xs, ys, rfl, rfl, ha, hb, hx, hz, q1, q2⟩ := h
  cases rx
  cases ry
  obtain ⟨its, r1, p1, _⟩ := I.tuple ha
  obtain ⟨its2, r2, p2, _⟩ := I.tuple hb
  refine HT.cat_tup p1 p2 (fun z => hx (r1.nil_iff.mp z)) (fun z => ⟨.ref a, H, I, rfl, q1 (r2.nil_iff.mp z)⟩) (fun z => ?_) (by rw [← r1.length, ← r2.length]; exact hz)
  refine ⟨.ref s.heap.objs.size, _, I.laid (t' := s.toks) (o := .tup (xs ++ ys)) (fun b ob q => Heap.get?_push_of_some _ q) (Nat.le_refl _) ?_, rfl, q2 (fun w => z (r2.nil_iff.mpr w)) _ (I.hok.fresh (Nat.le_refl _))⟩
  exact ⟨by rw [List.length_append]; exact hz, _, r1.append r2, IsTup.new _ _⟩
end
end L2

namespace L2
open PySem PySem.Spec PyProof.Rows

/-! ### places -/
/-- the place that an index of any sign means -/
def ixN (n : Nat) (i : Int) : Option Nat := if 0 ≤ i then (if i < n then some i.toNat else none) else if -(n : Int) ≤ i then some (i + n).toNat else none
def atI {α : Type} (xs : List α) (i : Int) : Option α := (ixN xs.length i).bind fun j => xs[j]?
theorem ixN_seq {n : Nat} {i : Int} {j : Nat} (h : ixN n i = some j) : seqIndex? i n = some j ∧ j < n ∧ -(n : Int) ≤ i ∧ i < n := by
  unfold ixN at h
  by_cases h0 : 0 ≤ i
  · rw [if_pos h0] at h
    by_cases h1 : i < n
    · rw [if_pos h1] at h
      have e : i.toNat = j := Option.some.inj h
      exact ⟨by rw [seqIndex_of h0 h1, e], by omega, by omega, h1⟩
    · rw [if_neg h1] at h; cases h
  · rw [if_neg h0] at h
    by_cases h1 : -(n : Int) ≤ i
    · rw [if_pos h1] at h
      have e : (i + n).toNat = j := Option.some.inj h
      exact ⟨by rw [seqIndex_neg (by omega) h1, e], by omega, h1, by omega⟩
    · rw [if_neg h1] at h; cases h
theorem atI_get {α : Type} {xs : List α} {i : Int} {v : α} (h : atI xs i = some v) : ∃ j, seqIndex? i xs.length = some j ∧ xs[j]? = some v ∧ j < xs.length ∧ -(xs.length : Int) ≤ i ∧ i < xs.length := by
  unfold atI at h
  cases e : ixN xs.length i with
  | none => rw [e] at h; cases h
  | some j =>
    rw [e] at h
    obtain ⟨h1, h2, h3, h4⟩ := ixN_seq e
    exact ⟨j, h1, h, h2, h3, h4⟩
theorem atI_nat {α : Type} {xs : List α} {j : Nat} {v : α} (h : xs[j]? = some v) : atI xs (j : Int) = some v := by
  have hj : j < xs.length := (List.getElem?_eq_some_iff.mp h).1
  have e : ixN xs.length (j : Int) = some j := by
    unfold ixN
    rw [if_pos (by omega), if_pos (by omega)]; simp
  unfold atI; rw [e]; exact h
/-! ### what may be subscripted -/
/-- what stands as an index of a plain subscript -/
def PlainIx (b : Expr) : Prop := ∀ o i, subscripted b false o i = operate [o, i] (getItem o i)
/-- a subscript by values -/
def IxR (X : Cx) (r : R2) : Prop :=
  ∀ (value slice : Expr) (pins : List (Addr × Obj)) (s : Shared) (σ : St) (H : Hp) (x y : V) (v u : Value) (Q : VK), Inv X pins σ H s → RelV x v → RelV y u → r x y H Q →
    subscripted slice false v u = operate [v, u] (getItem v u) → wpAny (model X.prog X.w) X.A (subscriptTail value slice v u) (EP X pins σ Q) X.xe s
/-- a call of a builtin's method by values: the receiver, the arguments -/
def MtR (X : Cx) (id : String) (r : V → List V → Hp → VK → Prop) : Prop :=
  ∀ (pins : List (Addr × Obj)) (s : Shared) (σ : St) (H : Hp) (x : V) (xs : List V) (v : Value) (us : List Value) (Q : VK), Inv X pins σ H s → RelV x v → Vals xs us → r x xs H Q →
    wpAny (model X.prog X.w) X.A (call (.builtin id) (v :: us)) (EP X pins σ Q) X.xe s
section
variable {X : Cx} {a b : Expr} {ta tb : TE} {pos : Pos}
/-- a[b] -/
theorem pe_ix {r : R2} (hr : IxR X r) (ha : PE X a ta) (hb : PE X b tb) (hs : PlainIx b) : PE X (.Subscript a b pos) (tOp r ta tb) := by
  intro pins s σ H Q I h
  exact Subscript_ (binT ha hb I h fun v u s2 x y H2 I2 rx ry q => hr a b pins s2 σ H2 x y v u Q I2 rx ry q (hs _ _))

def rIxL (K : PySem.W.Frag) : R2 := fun x y H Q => ∃ p xs i v, x = .ref p ∧ y = .int i ∧ SqL K H p xs ∧ atI xs i = some v ∧ Q v H
def rIxT (K : PySem.W.Frag) : R2 := fun x y H Q => ∃ p xs i v, x = .ref p ∧ y = .int i ∧ SqT K H p xs ∧ atI xs i = some v ∧ Q v H
def rIxS : R2 := fun x y H Q => ∃ z i c, x = .str z ∧ y = .int i ∧ z.length ≤ sizeLine ∧ atI z.cps.toList i = some c ∧ Q (.str ⟨#[c]⟩) H
theorem ix_list : IxR X (rIxL X.K) := by
  intro value slice pins s σ H x y v u Q I rx ry h hs
  obtain ⟨p, xs, i, z, rfl, rfl, hq, he, q⟩ := h
  cases rx
  obtain ⟨t, rfl⟩ := ry
  obtain ⟨its, r, pl, hz⟩ := I.list hq
  obtain ⟨j, h1, h2, h3, h4, h5⟩ := atI_get he
  obtain ⟨w, ew, rw'⟩ := r.get h2
  have hl := r.length
  have hn := line63
  have fin : EP X pins σ Q w s := ⟨z, H, I, rw', q⟩
  by_cases h0 : 0 ≤ i
  · have hj : i.toNat = j := by
      rw [seqIndex_of h0 h5] at h1
      exact Option.some.inj h1
    exact item_listR pl.isList h0 (by omega) (by rw [hj]; simpa using ew) fin hs
  · have hj : (i + (its.toArray.size : Int)).toNat = j := by
      rw [seqIndex_neg (by omega) h4] at h1
      rw [List.size_toArray, ← hl]
      exact Option.some.inj h1
    exact subscriptTail_builtinR (x := w) pl.isList.typeIs slot_list_getitem.lookup
      (wpAny_getItem_list_neg (Q := fun r s' => r = w ∧ EP X pins σ Q r s') pl.isList (by omega) (by rw [List.size_toArray] <;> omega) (by omega) (by rw [hj]; simpa using ew) ⟨rfl, fin⟩) hs
theorem ix_tup : IxR X (rIxT X.K) := by
  intro value slice pins s σ H x y v u Q I rx ry h hs
  obtain ⟨p, xs, i, z, rfl, rfl, hq, he, q⟩ := h
  cases rx
  obtain ⟨t, rfl⟩ := ry
  obtain ⟨its, r, pl, hz⟩ := I.tuple hq
  obtain ⟨j, h1, h2, h3, h4, h5⟩ := atI_get he
  obtain ⟨w, ew, rw'⟩ := r.get h2
  have hl := r.length
  have hn := line63
  have fin : EP X pins σ Q w s := ⟨z, H, I, rw', q⟩
  exact subscriptTail_builtinR (x := w) pl.typeIs slot_tuple_getitem.lookup
    (getItem_tuple (j := j) (Q := fun r s' => r = w ∧ EP X pins σ Q r s') pl (by omega) (by omega) (by rw [List.size_toArray, ← hl]; exact h1) (by simpa using ew) ⟨rfl, fin⟩) hs
theorem ix_str : IxR X rIxS := by
  intro value slice pins s σ H x y v u Q I rx ry h hs
  obtain ⟨z, i, c, rfl, rfl, hz, he, q⟩ := h
  obtain ⟨t, rfl⟩ := rx
  obtain ⟨t', rfl⟩ := ry
  obtain ⟨j, h1, h2, h3, h4, h5⟩ := atI_get he
  have hl : z.cps.toList.length = z.length := by simp [Str.length]
  rw [hl] at h1 h4 h5
  have hn := line63
  exact tail_any (typeIs_str s z t) slot_str_getitem.lookup (getItem_str (c := c) (by
    have e1 : decide (i < -(2 ^ 63 : Int)) = false := decide_eq_false (by omega)
    have e2 : decide (i ≥ 2 ^ 63) = false := decide_eq_false (by omega)
    rw [e1, e2, Bool.or_false]) (by rw [h1]; simpa using h2) ⟨.str ⟨#[c]⟩, H, I.tok _, ⟨_, rfl⟩, q⟩) hs
/-! ### xs[i] = v, any sign -/
/-- the list's object behind a store -/
theorem mapSeq_set (its : List Value) (n j : Nat) (u : Value) : Obj.mapSeq (·.setIfInBounds j u) { cls := .type "list", data := .seq its.toArray n } = { cls := .type "list", data := .seq (its.set j u).toArray n } := by
  simp [Obj.mapSeq]
theorem Inv.lst {pins : List (Addr × Obj)} {σ : St} {H : Hp} {s : Shared} {p : Addr} {xs : List V} (I : Inv X pins σ H s) (h : H p = some (.lst xs)) :
    ∃ (its : List Value) (n : Nat), Vals xs its ∧ s.heap.get? p = some { cls := .type "list", data := .seq its.toArray n } ∧ xs.length ≤ sizeLine := by
  obtain ⟨z, its, n, r, e⟩ := I.hok p _ h
  exact ⟨its, n, r, e, z⟩
/-- the list at p is written by an update of its object -/
theorem Inv.lstUpd {pins : List (Addr × Obj)} {σ : St} {H : Hp} {s : Shared} {p : Addr} {xs ys : List V} {its its' : List Value} {n n' : Nat} {f : Obj → Obj} (I : Inv X pins σ H s) (h : H p = some (.lst xs))
    (ho : s.heap.get? p = some { cls := .type "list", data := .seq its.toArray n }) (hf : f { cls := .type "list", data := .seq its.toArray n } = { cls := .type "list", data := .seq its'.toArray n' }) (r : Vals ys its') (hz : ys.length ≤ sizeLine) (t : Nat) :
    Inv X pins σ (upd H p (.lst ys)) { s with heap := s.heap.update p f, toks := t } := by
  have e : (s.heap.update p f).get? p = some { cls := .type "list", data := .seq its'.toArray n' } := by
    rw [Heap.get?_update_self f ho (by rw [hf] <;> rfl), hf]
  refine I.write (x := p) (e := p) (by rw [h]; trivial) (.inl rfl) (fun b u hb q => (Heap.get?_update_other _ _ (Ne.symm hb)).trans q) ⟨_, e⟩ ?_
  exact ⟨hz, its', n', r, e⟩
def rSetL : V → V → V → Hp → (Hp → Prop) → Prop := fun o i v H Q => ∃ p xs k j, o = .ref p ∧ i = .int k ∧ H p = some (.lst xs) ∧ ixN xs.length k = some j ∧ Q (upd H p (.lst (xs.set j v)))
theorem set_list : PSet X rSetL := by
  intro pins s σ H o i v ov iv u Q I ro ri rv h
  obtain ⟨p, xs, k, j, rfl, rfl, hp, hj, q⟩ := h
  cases ro
  obtain ⟨t, rfl⟩ := ri
  obtain ⟨its, n, r, ho, hz⟩ := I.lst hp
  obtain ⟨h1, h2, h3, h4⟩ := ixN_seq hj
  have hl := r.length
  have hn := line63
  have I' : Inv X pins σ (upd H p (.lst (xs.set j v))) { s with heap := s.heap.update p (Obj.mapSeq (·.setIfInBounds j u)) } :=
    I.lstUpd hp ho (mapSeq_set its n j u) (r.set rv j) (by rw [List.length_set]; exact hz) s.toks
  by_cases h0 : 0 ≤ k
  · have hk : k.toNat = j := by
      rw [seqIndex_of h0 h4] at h1
      exact Option.some.inj h1
    exact PySem.W.ki_setAt ho h0 (by omega) (by rw [List.size_toArray, ← hl]; exact h4) (by rw [hk]; exact ⟨_, I', q⟩)
  · have hk : (k + (its.toArray.size : Int)).toNat = j := by
      rw [seqIndex_neg (by omega) h3] at h1
      rw [List.size_toArray, ← hl]
      exact Option.some.inj h1
    exact PySem.W.ki_setBack ho (by omega) (by rw [List.size_toArray, ← hl]; exact h3) (by omega) (by rw [hk]; exact ⟨_, I', q⟩)

/-! ### slices -/
theorem slice_bounds (lo hi : Option Int) (n : Nat) : (sliceBounds lo hi none n).1 = ((HT.sIx n 0 lo : Nat) : Int) ∧ (sliceBounds lo hi none n).2.1 = ((HT.sIx n n hi : Nat) : Int) ∧ (sliceBounds lo hi none n).2.2 = 1 := by
  refine ⟨?_, ?_, rfl⟩
  · cases lo with
    | none => simp [sliceBounds, HT.sIx]
    | some i =>
      simp only [sliceBounds, HT.sIx, Option.getD_none, show (1 : Int) > 0 by decide, if_true]
      by_cases h : i < 0
      · simp only [h, if_true] <;> omega
      · simp only [h, if_false] <;> omega
  · cases hi with
    | none => simp [sliceBounds, HT.sIx]
    | some i =>
      simp only [sliceBounds, HT.sIx, Option.getD_none, show (1 : Int) > 0 by decide, if_true]
      by_cases h : i < 0
      · simp only [h, if_true] <;> omega
      · simp only [h, if_false] <;> omega
theorem slicePick_cut (its : List Value) (lo hi : Option Int) : slicePick its.toArray lo hi none = ((its.drop (HT.sIx its.length 0 lo)).take (HT.sIx its.length its.length hi - HT.sIx its.length 0 lo)).toArray := by
  obtain ⟨h1, h2, h3⟩ := slice_bounds lo hi its.toArray.size
  unfold slicePick
  rw [h1, h2, h3]
  simp only [sliceRange_one, pick_run, List.size_toArray] <;> rfl
/-- xs[lo:hi] of a list: a new list -/
def rSlL (K : PySem.W.Frag) : V → Option Int → Option Int → Hp → VK → Prop := fun x lo hi H Q => ∃ a xs, x = .ref a ∧ SqL K H a xs ∧ ∀ p, H p = none → Q (.ref p) (upd H p (.lst (cutV xs lo hi)))
theorem sl_list : SlR X (rSlL X.K) := by
  intro pins s σ H x v vl vu lo hi sl Q I rx hs pl pu h
  obtain ⟨a, xs, rfl, hx, q⟩ := h
  cases rx
  obtain ⟨its, r, ht, hz⟩ := I.list hx
  have hlen := r.length
  refine ⟨"list", _, slot_list_getitem.lookup, ht.isList.typeIs, ?_⟩
  refine wpAny_getItem_list_slice ht.isList hs pl pu .none (by simp) ?_ (by rw [List.size_toArray] <;> omega)
  rw [slicePick_cut, ← hlen]
  refine ⟨.ref s.heap.objs.size, _, I.laid (t' := s.toks) (o := .lst (cutV xs lo hi)) (fun b ob q => Heap.get?_push_of_some _ q) (Nat.le_refl _) ?_, rfl, q _ (I.hok.fresh (Nat.le_refl _))⟩
  exact ⟨Nat.le_trans (cutV_length xs lo hi) hz, _, 0, (r.drop (HT.sIx xs.length 0 lo)).take (HT.sIx xs.length xs.length hi - HT.sIx xs.length 0 lo), Heap.get?_push_size _ rfl⟩

/-! ### in, not in: flat items -/
def flatV : V → Bool
  | .non => true
  | .bl _ => true
  | .int _ => true
  | .str _ => true
  | _ => false
/-- == of flat values -/
def eqV : V → V → Bool
  | .non, .non => true
  | .bl a, .bl b => a == b
  | .bl a, .int b => (if a then 1 else 0) == b
  | .int a, .bl b => a == (if b then 1 else 0)
  | .int a, .int b => a == b
  | .str a, .str b => a == b
  | _, _ => false
theorem eqAt_V {A : Around} {s : Shared} {y x : V} {u v : Value} (ry : RelV y u) (rx : RelV x v) (fy : flatV y = true) (fx : flatV x = true) : SeqAt.EqAt A s u v (eqV y x) := by
  cases y with
  | non =>
    cases ry
    cases x with
    | non => cases rx; exact SeqAt.EqAt.same _
    | bl b => cases rx; exact SeqAt.EqAt.none_bool b
    | int b => obtain ⟨t, rfl⟩ := rx; exact SeqAt.EqAt.none_int b t
    | str b => obtain ⟨t, rfl⟩ := rx; exact SeqAt.EqAt.none_str b t
    | _ => exact absurd (show false = true from fx) Bool.false_ne_true
  | bl a =>
    cases ry
    cases x with
    | non => cases rx; exact SeqAt.EqAt.bool_none a
    | bl b => cases rx; exact SeqAt.EqAt.bool_bool a b
    | int b => obtain ⟨t, rfl⟩ := rx; exact SeqAt.EqAt.bool_int a b t
    | str b => obtain ⟨t, rfl⟩ := rx; exact SeqAt.EqAt.bool_str a b t
    | _ => exact absurd (show false = true from fx) Bool.false_ne_true
  | int a =>
    obtain ⟨t', rfl⟩ := ry
    cases x with
    | non => cases rx; exact SeqAt.EqAt.int_none a t'
    | bl b => cases rx; exact SeqAt.EqAt.int_bool a t' b
    | int b => obtain ⟨t, rfl⟩ := rx; exact SeqAt.EqAt.int_int a t' b t
    | str b => obtain ⟨t, rfl⟩ := rx; exact SeqAt.EqAt.int_str a t' b t
    | _ => exact absurd (show false = true from fx) Bool.false_ne_true
  | str a =>
    obtain ⟨t', rfl⟩ := ry
    cases x with
    | non => cases rx; exact SeqAt.EqAt.str_none a t'
    | bl b => cases rx; exact SeqAt.EqAt.str_bool a t' b
    | int b => obtain ⟨t, rfl⟩ := rx; exact SeqAt.EqAt.str_int a t' b t
    | str b => obtain ⟨t, rfl⟩ := rx; exact SeqAt.EqAt.str_str a t' b t
    | _ => exact absurd (show false = true from fx) Bool.false_ne_true
  | _ => exact absurd (show false = true from fy) Bool.false_ne_true
/-- the items' answers, read off the values (a value's own answer does not lean on its token) -/
def eqU (x : V) (u : Value) : Bool := match u with
  | .none => eqV .non x
  | .bool b => eqV (.bl b) x
  | .int i _ => eqV (.int i) x
  | .str z _ => eqV (.str z) x
  | _ => false
theorem eqU_of {x y : V} {u : Value} (r : RelV y u) (f : flatV y = true) : eqU x u = eqV y x := by
  cases y with
  | non => cases r; rfl
  | bl b => cases r; rfl
  | int i => obtain ⟨t, rfl⟩ := r; rfl
  | str z => obtain ⟨t, rfl⟩ := r; rfl
  | _ => exact absurd (show false = true from f) Bool.false_ne_true
theorem any_eqU {x : V} : ∀ {xs : List V} {us : List Value}, Vals xs us → xs.all flatV = true → us.any (eqU x) = xs.any fun y => eqV y x
  | _, _, .nil, _ => rfl
  | y :: xs, u :: us, .cons r t, f => by
    rw [List.all_cons, Bool.and_eq_true] at f
    rw [List.any_cons, List.any_cons, eqU_of r f.1, any_eqU t f.2]
theorem mem_eqAt {A : Around} {s : Shared} {x : V} {v : Value} (rx : RelV x v) (fx : flatV x = true) : ∀ {xs : List V} {us : List Value}, Vals xs us → xs.all flatV = true → ∀ u ∈ us, SeqAt.EqAt A s u v (eqU x u)
  | _, _, .nil, _ => fun u hu => by cases hu
  | y :: xs, u :: us, .cons r t, f => fun u' hu => by
    rw [List.all_cons, Bool.and_eq_true] at f
    rcases List.mem_cons.mp hu with rfl | hu
    · rw [eqU_of r f.1]; exact eqAt_V r rx f.1 fx
    · exact mem_eqAt rx fx t f.2 u' hu
def inV (x : V) (xs : List V) : Bool := xs.any fun y => eqV y x
/-- x in a list or tuple of flat items -/
def rIn (K : PySem.W.Frag) (neg : Bool) : R2 := fun x y H Q => ∃ p xs, y = .ref p ∧ (SqL K H p xs ∨ SqT K H p xs) ∧ flatV x = true ∧ xs.all flatV = true ∧ Q (.bl (if neg then !inV x xs else inV x xs)) H
theorem op_in_seq : OpR X (compareOp .In) (rIn X.K false) := by
  intro pins s σ H x y v u Q I rx ry h
  obtain ⟨p, xs, rfl, hq, fx, fs, q⟩ := h
  cases ry
  rcases hq with hq | hq
  · obtain ⟨its, r, pl, hz⟩ := I.list hq
    refine SeqAt.in_listAt (eqU x) pl.isList (fun w hw => mem_eqAt rx fx r fs w (by simpa using hw)) ⟨.bl _, H, I, rfl, ?_⟩
    rw [show its.toArray.any (eqU x) = its.any (eqU x) by simp, any_eqU r fs]
    exact q
  · obtain ⟨its, r, pl, hz⟩ := I.tuple hq
    refine SeqAt.in_tupleAt (eqU x) pl (fun w hw => mem_eqAt rx fx r fs w (by simpa using hw)) ⟨.bl _, H, I, rfl, ?_⟩
    rw [show its.toArray.any (eqU x) = its.any (eqU x) by simp, any_eqU r fs]
    exact q
/-! ### len, list(x), tuple(x) of any list or tuple that is read -/
theorem call_len_seq : CallR X (.builtin "len") (fun xs H Q => ∃ p ys, xs = [.ref p] ∧ (SqL X.K H p ys ∨ SqT X.K H p ys) ∧ Q (.int ys.length) H) := by
  intro pins s σ H xs us Q I r h
  obtain ⟨p, ys, rfl, hq, q⟩ := h
  obtain ⟨u, rfl, rx⟩ := vals1 r
  cases rx
  have hn := line63
  rcases hq with hq | hq
  · obtain ⟨its, r', pl, hz⟩ := I.list hq
    have hlen := r'.length
    exact Calls.call_len_list pl.isList (by simp only [List.size_toArray] <;> omega) ⟨.int ys.length, H, I.tok _, ⟨s.toks + 1, by rw [List.size_toArray, hlen]⟩, q⟩
  · obtain ⟨its, r', pl, hz⟩ := I.tuple hq
    have hlen := r'.length
    exact len_tuple pl (by simp only [List.size_toArray] <;> omega) ⟨.int ys.length, H, I.tok _, ⟨s.toks + 1, by rw [List.size_toArray, hlen]⟩, q⟩
theorem call_len_str : CallR X (.builtin "len") (fun xs H Q => ∃ z, xs = [.str z] ∧ z.length ≤ sizeLine ∧ Q (.int z.length) H) := by
  intro pins s σ H xs us Q I r h
  obtain ⟨z, rfl, hz, q⟩ := h
  obtain ⟨u, rfl, t, rfl⟩ := vals1 r
  have hn := line63
  exact len_str (by omega) ⟨.int z.length, H, I.tok _, ⟨_, rfl⟩, q⟩
theorem call_tuple_of : CallR X (.type "tuple") (fun xs H Q => ∃ p ys, xs = [.ref p] ∧ ((SqL X.K H p ys ∧ ∀ l, H l = none → Q (.ref l) (upd H l (.tup ys))) ∨ (SqT X.K H p ys ∧ Q (.ref p) H))) := by
  intro pins s σ H xs us Q I r h
  obtain ⟨p, ys, rfl, h⟩ := h
  obtain ⟨u, rfl, rx⟩ := vals1 r
  cases rx
  rcases h with ⟨hq, q⟩ | ⟨hq, q⟩
  · obtain ⟨its, r', pl, hz⟩ := I.list hq
    have hlen := r'.length
    refine call_tuple_list pl.isList (fun h' kp => ?_) (by simp only [List.size_toArray] <;> omega)
    have I1 : Inv X pins σ H { s with heap := h' } := I.kept (t' := s.toks) kp
    have I2 : Inv X pins σ (upd H h'.objs.size (.tup ys)) { s with heap := h'.push { cls := .type "tuple", data := .seq its.toArray } } :=
      I1.laid (t' := s.toks) (fun b o e => Heap.get?_push_of_some _ e) (Nat.le_refl _) (show ObjOk X.prog X.w _ _ _ (.tup ys) from ⟨hz, its, r', IsTup.new _ _⟩)
    exact ⟨.ref h'.objs.size, _, I2, rfl, q _ (I1.hok.fresh (Nat.le_refl _))⟩
  · obtain ⟨its, r', pl, hz⟩ := I.tuple hq
    exact call_tuple_same pl ⟨.ref p, H, I, rfl, q⟩

/-! ### the call of a builtin's method: o.m(..) -/
/-- the value is of that builtin type -/
def tyV (K : PySem.W.Frag) (T : String) (x : V) (H : Hp) : Prop := match x with
  | .str _ => T = "str"
  | .int _ => T = "int"
  | .ref p => (T = "list" ∧ ∃ xs, SqL K H p xs) ∨ (T = "tuple" ∧ ∃ o, K.lookup p = some o ∧ o.cls = .type "tuple" ∧ o.dict = none) ∨
      (T = "dict" ∧ ((∃ kvs, H p = some (.dK kvs)) ∨ ∃ kvs, H p = some (.dT kvs))) ∨ (T = "set" ∧ ∃ S n, H p = some (.set S n))
  | _ => False
theorem tyV_is {pins : List (Addr × Obj)} {σ : St} {H : Hp} {s : Shared} {T : String} {x : V} {v : Value} (I : Inv X pins σ H s) (r : RelV x v) (ty : tyV X.K T x H) :
    s.TypeIs v T ∧ ∀ a, v = .ref a → ∃ ob, s.heap.get? a = some ob ∧ ob.dict = none := by
  cases x with
  | str z =>
    obtain ⟨t, rfl⟩ := r
    cases (show T = "str" from ty)
    exact ⟨typeIs_str s z t, fun _ e => nomatch e⟩
  | int i =>
    obtain ⟨t, rfl⟩ := r
    cases (show T = "int" from ty)
    exact ⟨typeIs_int s i t, fun _ e => nomatch e⟩
  | ref p =>
    cases r
    rcases ty with ⟨rfl, xs, hq⟩ | ⟨rfl, o, hk, hc, hd⟩ | ⟨rfl, hk⟩ | ⟨rfl, S, n, hk⟩
    · obtain ⟨its, _, pl, _⟩ := I.list hq
      refine ⟨pl.isList.typeIs, fun a e => ?_⟩
      cases e
      obtain ⟨o, n, e, c, hd, _⟩ := pl
      exact ⟨o, e, hd⟩
    · refine ⟨⟨o, I.kIn p o hk, hc⟩, fun a e => ?_⟩
      cases e
      exact ⟨o, I.kIn _ o hk, hd⟩
    · have z : ∃ o, s.heap.get? p = some o ∧ o.ExactDict := by
        rcases hk with ⟨kvs, hk⟩ | ⟨kvs, hk⟩
        · obtain ⟨_, _, _, _, o, _, _, e, ex, _⟩ := I.hok p _ hk
          exact ⟨o, e, ex⟩
        · obtain ⟨_, _, _, _, o, _, _, e, ex, _⟩ := I.hok p _ hk
          exact ⟨o, e, ex⟩
      obtain ⟨o, e, ex⟩ := z
      refine ⟨⟨o, e, ex.1⟩, fun a e2 => ?_⟩
      cases e2
      exact ⟨o, e, ex.2.1⟩
    · obtain ⟨o, _, _, _, e, ex, _⟩ := I.hok p _ hk
      refine ⟨⟨o, e, ex.1⟩, fun a e2 => ?_⟩
      cases e2
      exact ⟨o, e, ex.2.1⟩
  | _ => exact False.elim ty
def tBM (K : PySem.W.Frag) (T : String) (r : V → List V → Hp → VK → Prop) (to : TE) (t : TA) : TE := fun σ H Q => to σ H fun x H1 => tyV K T x H1 ∧ t σ H1 fun xs H2 => r x xs H2 Q
variable {o e : Expr} {es : List Expr} {to : TE} {t : TA} {name : Str} {apos cpos : Pos} {T id : String} {r : V → List V → Hp → VK → Prop}
theorem pe_bm (pa : PlainAttrs T) (slot : Slot T name id) (hty : typeOf (.builtin id) = pure (.type "method_descriptor")) (hm : MtR X id r) (ho : PE X o to) (ha : PA X (e :: es) t)
    (hbase : attributeBase o name X.env (eval o X.env) = eval o X.env := by rfl)
    (hfew : ((backTo cpos (starEach (e :: es) X.env)).all (fun x => !x.1) && (backToKw cpos (keywordEach [] X.env)).all (fun x => x.1.isSome)
      && decide ((e :: es).length + ([] : List Keyword).length + (if ([] : List Keyword).isEmpty then 0 else 1) < 30)) = true := by rfl)
    (hline : (apos.endLine == cpos.line) = true := by rfl) (hs : starEach (e :: es) X.env = (false, eval e X.env) :: starEach es X.env := by rfl) (hplain : (backTo cpos (starEach es X.env)).any (·.1) = false := by rfl) :
    PE X (.Call (.Attribute o name apos) (e :: es) [] cpos) (tBM X.K T r to t) := by
  intro pins s σ H Q I h
  refine wpAny_Call_method_late hbase hfew hline rfl (thn (ho pins s σ H _ I h) fun v s1 ⟨x, H1, I1, r1, ty, q1⟩ => ?_)
  obtain ⟨h1, h2⟩ := tyV_is I1 r1 ty
  refine ⟨T, id, pa, slot, hty, h1, h2, ?_⟩
  have hA := ha cpos pins s1 σ H1 _ I1 q1
  rw [hs] at hA ⊢
  refine Calls.callWith_builtin (by show (false || (backTo cpos (starEach es X.env)).any (·.1)) = false; rw [hplain] <;> rfl) (Calls.evalArgs_plain ?_)
  exact thn hA fun us s2 ⟨vs, H2, I2, r2, q2⟩ => hm pins s2 σ H2 x vs v us Q I2 r1 r2 q2
/- xs.append(e), list.index on a module's tuple .. are MtR facts of 06m -/
end
end L2

namespace L2
open PySem PySem.Spec PyProof.Rows

def MtM (X : Cx) (id : String) (r : V → List V → Hp → VK → Prop) : Prop :=
  ∀ (pins : List (Addr × Obj)) (s : Shared) (σ : St) (H : Hp) (x : V) (xs : List V) (v : Value) (us : List Value) (Q : VK), Inv X pins σ H s → RelV x v → Vals xs us → r x xs H Q →
    wpAny (model X.prog X.w) X.A (call (.builtin id) (v :: us)) (EP X pins σ Q) X.xe s

/-! ### lists of values -/
theorem Vals.one : ∀ {x : V} {us : List Value}, Vals [x] us → ∃ u, us = [u] ∧ RelV x u
  | _, _, .cons r .nil => ⟨_, rfl, r⟩
section
variable {X : Cx} {pins : List (Addr × Obj)} {σ : St} {H : Hp} {s : Shared} {l b : Addr} {xs ys zs : List V}

/-! ### the two steps: a tracked list is rewritten, a new list is laid -/
theorem Inv.lset {its its' : List Value} {n : Nat} {f : Array Value → Array Value} {t' : Nat} (I : Inv X pins σ H s) (hH : H l = some (.lst xs))
    (e : s.heap.get? l = some { cls := .type "list", data := .seq its.toArray n }) (hf : f its.toArray = its'.toArray) (hv : Vals ys its') (hz : ys.length ≤ sizeLine) :
    Inv X pins σ (upd H l (.lst ys)) { s with heap := s.heap.update l (Obj.mapSeq f), toks := t' } := by
  have q := PySem.IsL.update e f
  rw [hf] at q
  refine I.write (x := l) (e := l) (by rw [hH]; exact trivial) (.inl rfl) (fun b' u hb hu => (Heap.get?_update_other s.heap (Obj.mapSeq f) (Ne.symm hb)).trans hu) ⟨_, q⟩ ?_
  exact ⟨hz, its', _, hv, q⟩
theorem Inv.lnew {its : List Value} {t' : Nat} (I : Inv X pins σ H s) (hv : Vals ys its) (hz : ys.length ≤ sizeLine) :
    Inv X pins σ (upd H s.heap.objs.size (.lst ys)) { s with heap := s.heap.push { cls := .type "list", data := .seq its.toArray }, toks := t' } :=
  I.laid (fun _ _ q => Heap.get?_push_of_some _ q) (Nat.le_refl _) ⟨hz, its, 0, hv, Heap.get?_push_size _ rfl⟩
theorem Inv.fresh (I : Inv X pins σ H s) : H s.heap.objs.size = none := I.hok.fresh (Nat.le_refl _)
theorem Inv.lstM (I : Inv X pins σ H s) (hH : H l = some (.lst xs)) : xs.length ≤ sizeLine ∧ ∃ (its : List Value) (n : Nat), Vals xs its ∧ xs.length = its.length ∧ s.heap.get? l = some { cls := .type "list", data := .seq its.toArray n } := by
  obtain ⟨z, its, n, r, e⟩ := I.hok l _ hH
  exact ⟨z, its, n, r, r.length, e⟩

theorem notLongL {n : Nat} (h : n ≤ sizeLine) : Builtin.List.listTooLong n = false := by
  unfold Builtin.List.listTooLong
  exact decide_eq_false (by omega)
end

section
variable {X : Cx}

/-! ### methods -/
def rAppend : V → List V → Hp → VK → Prop := fun x vs H Q => ∃ l xs y, x = .ref l ∧ vs = [y] ∧ H l = some (.lst xs) ∧ xs.length < sizeLine ∧ Q .non (upd H l (.lst (xs ++ [y])))
theorem mt_append : MtM X "list.append" rAppend := by
  intro pins s σ H x vs v us Q I rx rv h
  obtain ⟨l, xs, y, rfl, rfl, hH, hz, q⟩ := h
  cases rx
  obtain ⟨u, rfl, ru⟩ := rv.one
  obtain ⟨z, its, n, r, hl, e⟩ := I.lstM hH
  refine call_meets F.slot_list_append ⟨_, e, rfl⟩ F.entry_list_append (F.args_list_append_2 _ _) (PySem.list_append l its.toArray n u (by rw [List.size_toArray]; omega)) ⟨e, ?_⟩
  refine ⟨.non, _, I.lset (its' := its ++ [u]) hH e (by simp) (r.append (.cons ru .nil)) ?_, rfl, q⟩
  rw [List.length_append, List.length_singleton]
  omega

def rExtend : V → List V → Hp → VK → Prop := fun x vs H Q => ∃ l b xs zs, x = .ref l ∧ vs = [.ref b] ∧ H l = some (.lst xs) ∧ H b = some (.lst zs) ∧ xs.length + zs.length ≤ sizeLine ∧ Q .non (upd H l (.lst (xs ++ zs)))
theorem mt_extend : MtM X "list.extend" rExtend := by
  intro pins s σ H x vs v us Q I rx rv h
  obtain ⟨l, b, xs, zs, rfl, rfl, hH, hB, hz, q⟩ := h
  cases rx
  obtain ⟨u, rfl, ru⟩ := rv.one
  cases ru
  obtain ⟨z, its, n, r, hl, e⟩ := I.lstM hH
  obtain ⟨z2, its2, n2, r2, hl2, e2⟩ := I.lstM hB
  have hsz : its.toArray.size + its2.toArray.size ≤ sizeLine := by rw [List.size_toArray, List.size_toArray]; omega
  have hlong : ¬ (!its.toArray.isEmpty && Builtin.List.listTooLong (its.toArray.size + its2.toArray.size)) = true := by
    rw [notLongL hsz, Bool.and_false]
    exact Bool.false_ne_true
  refine call_meets F.slot_list_extend ⟨_, e, rfl⟩ F.entry_list_extend (F.args_list_extend_2 _ _)
    (AutoSeq1.list_extend_list_list_0 l its.toArray n b its2.toArray n2 hlong (by rw [List.size_toArray]; omega) (by omega)) ⟨e, e2, ?_⟩
  refine ⟨.non, _, I.lset (its' := its ++ its2) hH e (by simp) (r.append r2) ?_, rfl, q⟩
  rw [List.length_append]
  omega

/-! ### list + list, list += list, list * int -/
/-! ### del xs[i] -/
end

/-! ### xs[a:b] = ys -/
section
variable {prog : Program} {w : World} {A : Around} {E : Value → Shared → Prop} {s : Shared}
set_option maxRecDepth 100000 in
end

section
variable {X : Cx}
end
end L2

namespace L2
open PySem PySem.Spec PyProof.Rows

/-! ### lists of pairs as tables -/
section
variable {κ : Type} [DecidableEq κ]
def valV (kvs : List (κ × V)) (k : κ) : Option V := (kvs.find? fun kv => decide (kv.1 = k)).map (·.2)
/-- in its place, or at the end -/
def putK (kvs : List (κ × V)) (k : κ) (v : V) : List (κ × V) :=
  if (kvs.any fun kv => decide (kv.1 = k)) = true then kvs.map (fun kv => if kv.1 = k then (kv.1, v) else kv) else kvs ++ [(k, v)]
theorem valV_nil {k : κ} : valV ([] : List (κ × V)) k = none := rfl
theorem valV_pos {p : κ × V} {r : List (κ × V)} {k : κ} (e : p.1 = k) : valV (p :: r) k = some p.2 := by simp [valV, List.find?_cons, e]
theorem valV_neg {p : κ × V} {r : List (κ × V)} {k : κ} (e : ¬ p.1 = k) : valV (p :: r) k = valV r k := by simp [valV, List.find?_cons, e]
theorem valV_any (k : κ) : ∀ kvs : List (κ × V), (kvs.any fun kv => decide (kv.1 = k)) = (valV kvs k).isSome
  | [] => rfl
  | p :: r => by
    rw [List.any_cons]
    by_cases e : p.1 = k
    · simp only [valV_pos e, decide_eq_true e, Bool.true_or, Option.isSome_some]
    · rw [valV_neg e, decide_eq_false e, Bool.false_or]; exact valV_any k r
theorem valV_map (k j : κ) (y : V) : ∀ kvs : List (κ × V), valV (kvs.map fun kv => if kv.1 = k then (kv.1, y) else kv) j = (valV kvs j).map fun x => if j = k then y else x
  | [] => rfl
  | p :: r => by
    have ih := valV_map k j y r
    rw [List.map_cons]
    by_cases h : p.1 = k
    · rw [if_pos h]
      by_cases e : p.1 = j
      · rw [valV_pos (p := (p.1, y)) e, valV_pos e, Option.map_some, if_pos (e.symm.trans h)]
      · rw [valV_neg (p := (p.1, y)) e, valV_neg e, ih]
    · rw [if_neg h]
      by_cases e : p.1 = j
      · rw [valV_pos (p := p) e, valV_pos e, Option.map_some, if_neg (fun z => h (e.trans z))]
      · rw [valV_neg (p := p) e, valV_neg e, ih]
theorem valV_snoc (k j : κ) (y : V) : ∀ kvs : List (κ × V), valV kvs k = none → valV (kvs ++ [(k, y)]) j = if j = k then some y else valV kvs j
  | [], _ => by
    by_cases e : k = j
    · rw [if_pos e.symm]; exact valV_pos (p := (k, y)) e
    · rw [if_neg (fun z => e z.symm)]; exact valV_neg (p := (k, y)) e
  | p :: r, hn => by
    rw [List.cons_append]
    have hk : ¬ p.1 = k := fun z => by rw [valV_pos z] at hn; cases hn
    rw [valV_neg hk] at hn
    have ih := valV_snoc k j y r hn
    by_cases e : p.1 = j
    · rw [valV_pos e, valV_pos e, if_neg (fun z => hk (e.trans z))]
    · rw [valV_neg e, valV_neg e, ih]
theorem valV_put (kvs : List (κ × V)) (k j : κ) (y : V) : valV (putK kvs k y) j = if j = k then some y else valV kvs j := by
  unfold putK
  by_cases a : (kvs.any fun kv => decide (kv.1 = k)) = true
  · rw [if_pos a, valV_map]
    rw [valV_any] at a
    by_cases e : j = k
    · obtain ⟨x, hx⟩ := Option.isSome_iff_exists.mp a
      rw [if_pos e, e, hx, Option.map_some, if_pos rfl]
    · rw [if_neg e]
      cases valV kvs j with
      | none => rfl
      | some x => rw [Option.map_some, if_neg e]
  · rw [if_neg a]
    refine valV_snoc k j y kvs ?_
    rw [valV_any] at a
    cases q : valV kvs k with
    | none => rfl
    | some x => rw [q] at a; exact (a rfl).elim
theorem length_putK (kvs : List (κ × V)) (k : κ) (v : V) : (putK kvs k v).length ≤ kvs.length + 1 := by
  unfold putK
  split
  · rw [List.length_map]; omega
  · rw [List.length_append, List.length_cons, List.length_nil]; omega
theorem putK_new {kvs : List (κ × V)} {k : κ} (v : V) (h : valV kvs k = none) : putK kvs k v = kvs ++ [(k, v)] := by
  unfold putK
  rw [valV_any, h]
  exact if_neg (by decide)

theorem RelO.isSome_eq {o : Option V} {u : Option Value} (r : RelO o u) : o.isSome = u.isSome := by
  cases o with
  | none => cases u with
    | none => rfl
    | some _ => exact (show False from r).elim
  | some _ => cases u with
    | none => exact (show False from r).elim
    | some _ => rfl
theorem RelO.getD {o : Option V} {u : Option Value} {d : V} {d' : Value} (r : RelO o u) (rd : RelV d d') : RelV (o.getD d) (u.getD d') := by
  cases o with
  | none => cases u with
    | none => exact rd
    | some _ => exact (show False from r).elim
  | some _ => cases u with
    | none => exact (show False from r).elim
    | some _ => exact r

/-- raw tables of the same keys -/
theorem KV.val {kvs : List (κ × V)} {vs : List (κ × Value)} (r : KV kvs vs) (k : κ) : RelO (valV kvs k) (valueAt vs k) := by
  unfold KV at r
  induction r with
  | nil => exact True.intro
  | @cons p q ps qs h t ih =>
    obtain ⟨h1, h2⟩ := h
    by_cases e : p.1 = k
    · have e' : q.1 = k := h1.symm.trans e
      have b : valueAt (q :: qs) k = some q.2 := by simp [valueAt, List.find?_cons, e']
      rw [valV_pos e, b]; exact h2
    · have e' : ¬ q.1 = k := fun z => e (h1.trans z)
      have b : valueAt (q :: qs) k = valueAt qs k := by simp [valueAt, List.find?_cons, e']
      rw [valV_neg e, b]; exact ih
theorem KV.any {kvs : List (κ × V)} {vs : List (κ × Value)} (r : KV kvs vs) (k : κ) : (kvs.any fun kv => decide (kv.1 = k)) = vs.any fun kv => decide (kv.1 = k) := by
  unfold KV at r
  induction r with
  | nil => rfl
  | cons h t ih => rw [List.any_cons, List.any_cons, ih, h.1]
theorem KV.repl {kvs : List (κ × V)} {vs : List (κ × Value)} (r : KV kvs vs) (k : κ) {y : V} {u : Value} (ry : RelV y u) :
    KV (kvs.map fun kv => if kv.1 = k then (kv.1, y) else kv) (vs.map fun kv => if kv.1 = k then (kv.1, u) else kv) := by
  unfold KV at r ⊢
  induction r with
  | nil => exact .nil
  | @cons p q ps qs h t ih =>
    rw [List.map_cons, List.map_cons]
    refine .cons ?_ ih
    obtain ⟨h1, h2⟩ := h
    by_cases e : p.1 = k
    · rw [if_pos e, if_pos (h1.symm.trans e)]; exact ⟨h1, ry⟩
    · rw [if_neg e, if_neg (fun z => e (h1.trans z))]; exact ⟨h1, h2⟩
theorem KV.put {kvs : List (κ × V)} {vs : List (κ × Value)} (r : KV kvs vs) (k : κ) {y : V} {u : Value} (ry : RelV y u) : KV (putK kvs k y) (stored vs k u) := by
  unfold putK stored
  rw [r.any k]
  by_cases e : (vs.any fun kv => decide (kv.1 = k)) = true
  · rw [if_pos e, if_pos e]; exact r.repl k ry
  · rw [if_neg e, if_neg e]; exact Paired.snoc r ⟨rfl, ry⟩
theorem KV.length {kvs : List (κ × V)} {vs : List (κ × Value)} (r : KV kvs vs) : kvs.length = vs.length := Paired.length r
end


/-! ### a tracked dict, its keys ints and texts or tuples of these -/
theorem kV_is {P : Program} {w : World} {k : Key} {u : Value} (r : RelV (kV k) u) : (mixKind P w).is k u = true := by
  cases k with
  | inl i => obtain ⟨t, e⟩ := (show ∃ t, u = Value.int i t from r); subst e; exact mixKind_int P w i t
  | inr x => obtain ⟨t, e⟩ := (show ∃ t, u = Value.str x t from r); subst e; exact mixKind_str P w x t
theorem items_are {P : Program} {w : World} : ∀ {ks : List Key} {us : List Value}, Vals (ks.map kV) us → ItemsAre (mixKind P w) ks us
  | [], _, r => by rw [List.map_nil] at r; cases r; exact .nil
  | k :: ks, _, r => by
    rw [List.map_cons] at r
    cases r with
    | cons h t => exact .cons (kV_is h) (items_are t)

/-- raw entries of a dict with tuple keys -/
abbrev KT (H : Hp) : List (List Key × V) → List (List Key × Addr × Value) → Prop := Paired fun p q => p.1 = q.1 ∧ H q.2.1 = some (.tup (p.1.map kV)) ∧ RelV p.2 q.2.2
theorem KT.val {H : Hp} {kvs : List (List Key × V)} {xs : List (List Key × Addr × Value)} (r : KT H kvs xs) (k : List Key) : RelO (valV kvs k) ((atKey xs k).map (·.2)) := by
  induction r with
  | nil => exact True.intro
  | @cons p q ps qs h t ih =>
    obtain ⟨h1, _, h2⟩ := h
    by_cases e : p.1 = k
    · have e' : q.1 = k := h1.symm.trans e
      have b : atKey (q :: qs) k = some q.2 := by simp [atKey, List.find?_cons, e']
      rw [valV_pos e, b]; exact h2
    · have e' : ¬ q.1 = k := fun z => e (h1.trans z)
      have b : atKey (q :: qs) k = atKey qs k := by simp [atKey, List.find?_cons, e']
      rw [valV_neg e, b]; exact ih
theorem KT.repl {H : Hp} {kvs : List (List Key × V)} {xs : List (List Key × Addr × Value)} (r : KT H kvs xs) (k : List Key) {y : V} {u : Value} (ry : RelV y u) :
    KT H (kvs.map fun kv => if kv.1 = k then (kv.1, y) else kv) (xs.map (putAt k u)) := by
  induction r with
  | nil => exact .nil
  | @cons p q ps qs h t ih =>
    rw [List.map_cons, List.map_cons]
    refine .cons ?_ ih
    obtain ⟨h1, h2, h3⟩ := h
    unfold putAt
    by_cases e : p.1 = k
    · rw [if_pos e, if_pos (h1.symm.trans e)]; exact ⟨h1, h2, ry⟩
    · rw [if_neg e, if_neg (fun z => e (h1.trans z))]; exact ⟨h1, h2, h3⟩
theorem KT.put {H : Hp} {kvs : List (List Key × V)} {xs : List (List Key × Addr × Value)} (r : KT H kvs xs) (k : List Key) {b : Addr} {y : V} {u : Value} (hb : H b = some (.tup (k.map kV))) (ry : RelV y u) :
    KT H (putK kvs k y) (storedH xs k b u) := by
  have e : (kvs.any fun kv => decide (kv.1 = k)) = (atKey xs k).isSome := by
    rw [valV_any, (r.val k).isSome_eq, Option.isSome_map]
  unfold putK storedH
  rw [e]
  by_cases q : (atKey xs k).isSome = true
  · rw [if_pos q, if_pos q]; exact r.repl k ry
  · rw [if_neg q, if_neg q]; exact Paired.snoc r ⟨rfl, hb, ry⟩
theorem KT.keeps {H H' : Hp} {kvs : List (List Key × V)} {xs : List (List Key × Addr × Value)} (r : KT H kvs xs) (ht : ∀ b ys, H b = some (.tup ys) → H' b = some (.tup ys)) : KT H' kvs xs :=
  Paired.mapP r fun _ _ z => ⟨z.1, ht _ _ z.2.1, z.2.2⟩

section
variable {P : Program} {w : World} {H : Hp} {h : Heap} {a : Addr}
theorem rd_of {u : HO} (ok : HOk P w H h) (e : Rd H a u) : ObjOk P w H h a u := e.ok ok
theorem dk_rd {kvs : List (Key × V)} (ok : HOk P w H h) (e : Rd H a (.dK kvs)) : kvs.length ≤ sizeLine ∧ (a == sysModules) = false ∧ ∃ vs, KV kvs vs ∧ h.DictOf (mixKind P w) a vs :=
  show ObjOk P w H h a (.dK kvs) from rd_of ok e
theorem dk_of {kvs : List (Key × V)} (ok : HOk P w H h) (e : H a = some (.dK kvs)) : kvs.length ≤ sizeLine ∧ (a == sysModules) = false ∧ ∃ vs, KV kvs vs ∧ h.DictOf (mixKind P w) a vs := dk_rd ok (.inl e)
/-- a tracked tuple of ints and texts is a key -/
theorem key_of {ks : List Key} (ok : HOk P w H h) (e : H a = some (.tup (ks.map kV))) : (tupleKind (mixKind P w)).is h ks a := by
  obtain ⟨_, its, r, o, h1, h2, n, h3⟩ := (show ObjOk P w H h a (.tup (ks.map kV)) from ok a _ e)
  exact ⟨o, its.toArray, n, h1, h2, h3, by simpa using items_are r⟩
theorem dt_rd {kvs : List (List Key × V)} (ok : HOk P w H h) (e : Rd H a (.dT kvs)) : kvs.length ≤ sizeLine ∧ (a == sysModules) = false ∧
    ∃ xs, KT H kvs xs ∧ h.DictOfH (tupleKind (mixKind P w)) a xs := by
  obtain ⟨z, y, xs, r, o, es, ep, h1, h2, h3, h4, h5⟩ := (show ObjOk P w H h a (.dT kvs) from rd_of ok e)
  refine ⟨z, y, xs, r, o, es, ep, h1, h2, h3, h4, fun x hx => ?_, h5⟩
  have all : ∀ {l : List (List Key × V)} {m : List (List Key × Addr × Value)}, KT H l m → ∀ x ∈ m, (tupleKind (mixKind P w)).is h x.1 x.2.1 := by
    intro l m q
    induction q with
    | nil => intro x hx; exact nomatch hx
    | @cons p q ps qs hq t ih =>
      intro x hx
      rcases List.mem_cons.mp hx with e | hx
      · subst e
        exact key_of ok (by rw [← hq.1]; exact hq.2.1)
      · exact ih x hx
  exact all r x hx
theorem dt_of {kvs : List (List Key × V)} (ok : HOk P w H h) (e : H a = some (.dT kvs)) : kvs.length ≤ sizeLine ∧ (a == sysModules) = false ∧
    ∃ xs, KT H kvs xs ∧ h.DictOfH (tupleKind (mixKind P w)) a xs := dt_rd ok (.inl e)
end

/-- what the dict at a holds at the key y -/
def DGet (H : Hp) (a : Addr) (y : V) (r : Option V) : Prop :=
  (∃ kvs k, Rd H a (.dK kvs) ∧ y = kV k ∧ r = valV kvs k) ∨ ∃ kvs k b, Rd H a (.dT kvs) ∧ y = .ref b ∧ H b = some (.tup (k.map kV)) ∧ r = valV kvs k
/-- the heap behind a[y] = v -/
def DPut (H : Hp) (a : Addr) (y v : V) (H' : Hp) : Prop :=
  (∃ kvs k, H a = some (.dK kvs) ∧ y = kV k ∧ kvs.length < sizeLine ∧ H' = upd H a (.dK (putK kvs k v))) ∨
  ∃ kvs k b, H a = some (.dT kvs) ∧ y = .ref b ∧ H b = some (.tup (k.map kV)) ∧ kvs.length < sizeLine ∧ H' = upd H a (.dT (putK kvs k v))
theorem DGet.k {H : Hp} {a : Addr} {kvs : List (Key × V)} {k : Key} (e : H a = some (.dK kvs)) : DGet H a (kV k) (valV kvs k) := .inl ⟨kvs, k, .inl e, rfl, rfl⟩
theorem DPut.k {H : Hp} {a : Addr} {kvs : List (Key × V)} {k : Key} {v : V} (e : H a = some (.dK kvs)) (hl : kvs.length < sizeLine) : DPut H a (kV k) v (upd H a (.dK (putK kvs k v))) := .inl ⟨kvs, k, e, rfl, hl, rfl⟩
section
variable {X : Cx} {pins : List (Addr × Obj)} {σ : St} {H : Hp} {s : Shared} {a : Addr} {y v : V} {u r : Value} {o : Option V} {A : Around} {E : Value → Shared → Prop}

theorem Inv.big (I : Inv X pins σ H s) : sysModules < s.heap.objs.size := by
  have h : mainGlobals < s.heap.objs.size := (I.mod.glob.keeps I.bk).lt
  exact Nat.lt_trans (by decide) h

/-- d[y], there -/
theorem d_getItem {Q : Value → Shared → Prop} (hu : A.units + 1 < cLine) (I : Inv X pins σ H s) (g : DGet H a y (some v)) (ry : RelV y u) (h : ∀ w' s', Inv X pins σ H s' → RelV v w' → Q w' s') :
    wpAny (model X.prog X.w) A (getItem (.ref a) u) Q E s := by
  rcases g with ⟨kvs, k, e, ey, l⟩ | ⟨kvs, k, b, e, ey, eb, l⟩
  · subst ey
    obtain ⟨z, hd, vs, rel, dd⟩ := dk_rd I.hok e
    obtain ⟨w', hw, rw'⟩ := RelO.some_of (v := v) (o := valueAt vs k) (by rw [l]; exact rel.val k)
    exact wpAny_getItem_of (kV_is ry) dd.mapOf hw (h w' _ (I.tok _) rw')
  · subst ey
    cases (show u = Value.ref b from ry)
    obtain ⟨z, hd, xs, rel, dd⟩ := dt_rd I.hok e
    obtain ⟨w', hw, rw'⟩ := RelO.some_of (v := v) (o := (atKey xs k).map (·.2)) (by rw [l]; exact rel.val k)
    obtain ⟨p, hp, hp2⟩ := Option.map_eq_some_iff.mp hw
    refine wpAny_getItem_heap (tupleKind_room_in1 hu) (key_of I.hok eb) dd hp ?_
    rw [hp2]
    exact h w' _ (I.tok _) rw'
/-- a dict's object is replaced -/
theorem d_write {h' : Heap} {t' : Nat} {ob : HO} (I : Inv X pins σ H s) (mu : Mut (H a)) (hs : Heap.SameBut a s.heap h') (he : ∃ q, h'.get? a = some q) (new : ObjOk X.prog X.w (upd H a ob) h' a ob) :
    Inv X pins σ (upd H a ob) { s with heap := h', toks := t' } :=
  I.write (x := a) (e := a) mu (.inl rfl) (fun b q hb z => (hs.2 b hb).trans z) he new
theorem dk_new {P : Program} {w : World} {H' : Hp} {h' : Heap} {kvs : List (Key × V)} {vs : List (Key × Value)} (z : kvs.length ≤ sizeLine) (hd : (a == sysModules) = false) (rel : KV kvs vs) (dd : h'.DictOf (mixKind P w) a vs) :
    ObjOk P w H' h' a (.dK kvs) := ⟨z, hd, vs, rel, dd⟩
/-- d[y] = v -/
theorem d_setItem {H' : Hp} {Q : Unit → Shared → Prop} (hu : A.units + 1 < cLine) (I : Inv X pins σ H s) (g : DPut H a y v H') (ry : RelV y u) (rv : RelV v r) (h : ∀ s', Inv X pins σ H' s' → Q () s') :
    wpAny (model X.prog X.w) A (setItem (.ref a) u r) Q E s := by
  rcases g with ⟨kvs, k, e, ey, l, eH⟩ | ⟨kvs, k, b, e, ey, eb, l, eH⟩
  · subst ey eH
    obtain ⟨z, hd, vs, rel, dd⟩ := dk_of I.hok e
    have hz : vs.length ≤ sizeLine := by rw [← rel.length]; exact z
    have hl : (putK kvs k v).length ≤ sizeLine := by have := length_putK kvs k v; omega
    refine wpAny_setItem_pairs (hsz := hz) (kV_is ry) dd fun h' dd' hs => h _ ?_
    have he : ∃ q, h'.get? a = some q := let ⟨q, _, _, hq, _⟩ := dd'; ⟨q, hq⟩
    exact d_write I (by rw [e]; exact True.intro) hs he (dk_new hl hd (rel.put k rv) dd')
  · subst ey eH
    cases (show u = Value.ref b from ry)
    obtain ⟨z, hd, xs, rel, dd⟩ := dt_of I.hok e
    have hz : xs.length ≤ sizeLine := by rw [← Paired.length rel]; exact z
    have hl : (putK kvs k v).length ≤ sizeLine := by have := length_putK kvs k v; omega
    refine wpAny_setItem_heap (hsz := hz) (tupleKind_room_in1 hu) (key_of I.hok eb) dd fun h' dd' hs => h _ ?_
    obtain ⟨q, es, ep, hq, h2, h3, h4, _, h5⟩ := dd'
    refine d_write I (by rw [e]; exact True.intro) hs ⟨q, hq⟩ ⟨hl, hd, _, (rel.put k eb rv).keeps fun c ys ec => ?_, q, es, ep, hq, h2, h3, h4, h5⟩
    rw [upd_ne (ne_of ec e (fun z => nomatch z))]
    exact ec
end

section
variable {X : Cx} {pins : List (Addr × Obj)} {σ : St} {H : Hp} {s : Shared} {a : Addr} {kvs : List (Key × V)} {k : Key} {u : Value} {A : Around} {E : Value → Shared → Prop}
/-- len(d) -/
theorem d_len {Q : Value → Shared → Prop} (I : Inv X pins σ H s) (e : Rd H a (.dK kvs)) (h : ∀ t s', Inv X pins σ H s' → Q (.int kvs.length t) s') : wpAny (model X.prog X.w) A (call (.builtin "len") [.ref a]) Q E s := by
  obtain ⟨z, hd, vs, rel, dd⟩ := dk_rd I.hok e
  refine call_len_dict hd dd (by rw [← rel.length]; rw [sizeLine_eq] at z; omega) ?_
  rw [← rel.length]
  exact h _ _ (I.tok _)
end


/-! ### readings and rules -/
/-- the element of a subscription, not a slice -/
def NoSl (i : Expr) : Prop := ∀ ov iv, subscripted i false ov iv = operate [ov, iv] (getItem ov iv)
theorem subD_of {prog : Program} {w : World} {A : Around} {E : Value → Shared → Prop} {s : Shared} {env : Env} {value slice : Expr} {pos : Pos} {T id : String} {Q : Value → Shared → Prop}
    (hl : typeLookup (.type T) "__getitem__" = pure (some (.builtin id))) (hs : NoSl slice)
    (h : wpAny (model prog w) A (eval value env) (fun o s₁ => wpAny (model prog w) A (eval slice env) (fun i s₂ => s₂.TypeIs o T ∧ wpAny (model prog w) A (getItem o i) Q E s₂) E s₁) E s) :
    wpAny (model prog w) A (eval (.Subscript value slice pos) env) Q E s := by
  refine Subscript_ (wpAny_mono h (fun o s₁ h₁ => wpAny_mono h₁ (fun i s₂ h₂ => ?_) fun _ _ x => x) fun _ _ x => x)
  obtain ⟨hT, h₂⟩ := h₂
  unfold subscriptTail
  refine wpAny_bind ?_
  rw [getitemInPython_of_ne hT.not_modules]
  refine wpAny_bind (wpAny_specialOf hT hl ?_)
  have fin : wpAny (model prog w) A (subscripted slice false o i) (fun r s₃ => wpAny (model prog w) A (letTemporaryGo value o r >>= fun _ => pure r) Q E s₃) E s₂ := by
    rw [hs o i]
    exact wpAny_operating (wpAny_mono h₂ (fun r s₃ h₃ => wpAny_bind (wpAny_letTemporaryGo (wpAny_pure h₃))) fun _ _ x => x)
  first
    | exact wpAny_pure (wpAny_bind fin)
    | exact wpAny_bind (wpAny_pure (wpAny_bind fin))
    | exact wpAny_bind fin

theorem dict_typeIs {X : Cx} {pins : List (Addr × Obj)} {σ : St} {H : Hp} {s : Shared} {a : Addr} {y : V} {o : Option V} (I : Inv X pins σ H s) (g : DGet H a y o) : s.TypeIs (.ref a) "dict" := by
  rcases g with ⟨kvs, k, e, _, _⟩ | ⟨kvs, k, b, e, _, _, _⟩
  · obtain ⟨_, _, vs, _, dd⟩ := dk_rd I.hok e
    exact dd.typeIs
  · obtain ⟨_, _, xs, _, dd⟩ := dt_rd I.hok e
    exact dd.typeIs
/-- d[y] -/
def tDGet (td ty : TE) : TE := fun σ H Q => td σ H fun x H1 => ty σ H1 fun y H2 => ∃ a v, x = .ref a ∧ DGet H2 a y (some v) ∧ Q v H2
/-- d[y] = v -/
def sDPut (td ty tv : TE) : TS := fun D σ H => tv σ H fun v H1 => td σ H1 fun x H2 => ty σ H2 fun y H3 => ∃ a H4, x = .ref a ∧ DPut H3 a y v H4 ∧ D.nx σ H4
section
variable {X : Cx} {o i e value : Expr} {pos pos' tpos : Pos} {td ty tv : TE}
theorem pe_dget (hu : X.A.units + 1 < cLine) (ho : PE X o td) (hi : PE X i ty) (hs : NoSl i) : PE X (.Subscript o i pos) (tDGet td ty) := by
  intro pins s σ H Q I h
  refine subD_of PySem.F.slot_dict_getitem.lookup hs (thn (ho pins s σ H _ I h) fun u s1 ⟨x, H1, I1, rx, q1⟩ => thn (hi pins s1 σ H1 _ I1 q1) fun iv s2 ⟨y, H2, I2, ry, a, v, ex, g, q2⟩ => ?_)
  subst ex
  obtain rfl : u = Value.ref a := rx
  exact ⟨dict_typeIs I2 g, d_getItem hu I2 g ry fun w' s3 I3 rw' => ⟨v, H2, I3, rw', q2⟩⟩
theorem ps_dput (hu : X.A.units + 1 < cLine) (ho : PE X o td) (hi : PE X i ty) (hv : PE X value tv) (hs : swapsWith value (some (.Subscript o i pos')) pos.line X.env = pure false) :
    PS X (.Assign [.Subscript o i pos'] value pos) (sDPut td ty tv) := by
  intro pins s σ H D I h
  refine wpAny_Assign_Subscript (thn (hv pins s σ H _ I h) fun r s1 ⟨v, H1, I1, rv, q1⟩ => thn (ho pins s1 σ H1 _ I1 q1) fun u s2 ⟨x, H2, I2, rx, q2⟩ => thn (hi pins s2 σ H2 _ I2 q2) fun iv s3 ⟨y, H3, I3, ry, a, H4, ex, g, q3⟩ => ?_) hs
  subst ex
  obtain rfl : u = Value.ref a := rx
  exact d_setItem hu I3 g ry rv fun s4 I4 => ⟨σ, H4, I4, q3⟩
end


/-! ### displays -/
theorem dk_empty {P : Program} {w : World} {H : Hp} (h : Heap) (hb : sysModules < h.objs.size) : ObjOk P w H (h.push { cls := .type "dict", data := .dict #[] }) h.objs.size (.dK []) :=
  ⟨Nat.zero_le _, beq_eq_false_iff_ne.mpr (Ne.symm (Nat.ne_of_lt hb)), [], .nil, Heap.DictOf.new h⟩
/-- {}, to be a dict of the kind that is wanted -/
def tDNewK : TE := fun _ H Q => ∀ p, H p = none → Q (.ref p) (upd H p (.dK []))
section
variable {X : Cx} {pos : Pos}
theorem pe_dnewK : PE X (.Dict [] [] pos) tDNewK := fun pins s σ H Q I h =>
  wpAny_Dict_empty ⟨.ref s.heap.objs.size, _, I.laid (a := s.heap.objs.size) (o := .dK []) (t' := s.toks) (fun _ _ q => Heap.get?_push_of_some _ q) (Nat.le_refl _) (dk_empty s.heap I.big), rfl, h _ (I.hok.fresh (Nat.le_refl _))⟩
end

/-- the pairs of a display, from the left -/
def tPairs : List (TE × TE) → St → Hp → (List (V × V) → Hp → Prop) → Prop
  | [], _, H, Q => Q [] H
  | (tk, tv) :: r, σ, H, Q => tk σ H fun x H1 => tv σ H1 fun y H2 => tPairs r σ H2 fun ps H3 => Q ((x, y) :: ps) H3
abbrev VV : List (V × V) → List (Value × Value) → Prop := Paired fun p q => RelV p.1 q.1 ∧ RelV p.2 q.2
def PPs (X : Cx) (pos : Pos) (keys : List (Option Expr)) (values : List Expr) (trs : List (TE × TE)) : Prop :=
  ∀ (pins : List (Addr × Obj)) (s : Shared) (σ : St) (H : Hp) (Q : List (V × V) → Hp → Prop), Inv X pins σ H s → tPairs trs σ H Q →
    wpAny (model X.prog X.w) X.A (evalPairs (pairTrees keys values X.env pos)) (fun vs s' => ∃ ps H', Inv X pins σ H' s' ∧ VV ps vs ∧ Q ps H') X.xe s
theorem pps_nil {X : Cx} {pos : Pos} : PPs X pos [] [] [] := fun pins s σ H Q I h => pairTrees_nil_walk ⟨[], H, I, .nil, h⟩
theorem pps_cons {X : Cx} {pos : Pos} {k v : Expr} {ks : List (Option Expr)} {vs : List Expr} {tk tv : TE} {trs : List (TE × TE)} (hk : PE X k tk) (hv : PE X v tv) (hr : PPs X pos ks vs trs) :
    PPs X pos (some k :: ks) (v :: vs) ((tk, tv) :: trs) := fun pins s σ H Q I h =>
  pairTrees_cons_walk (thn (hk pins s σ H _ I h) fun u s1 ⟨x, H1, I1, rx, q1⟩ => thn (hv pins s1 σ H1 _ I1 q1) fun w2 s2 ⟨y, H2, I2, ry, q2⟩ =>
    thn (hr pins s2 σ H2 _ I2 q2) fun ws s3 ⟨ps, H3, I3, rel, q3⟩ => ⟨(x, y) :: ps, H3, I3, .cons ⟨rx, ry⟩ rel, q3⟩)

def mergeK (kvs more : List (Key × V)) : List (Key × V) := more.foldl (fun acc kv => putK acc kv.1 kv.2) kvs
theorem KV.merge : ∀ {more : List (Key × V)} {rs : List (Key × Value)} {kvs : List (Key × V)} {vs : List (Key × Value)}, KV more rs → KV kvs vs → KV (mergeK kvs more) (merged vs rs) := by
  intro more rs kvs vs r
  unfold KV at r
  induction r generalizing kvs vs with
  | nil => intro q; exact q
  | @cons p q ps qs h t ih =>
    intro r0
    have e : KV (putK kvs p.1 p.2) (stored vs q.1 q.2) := by
      have := r0.put p.1 h.2
      rw [← h.1]; exact this
    exact ih e
theorem length_mergeK : ∀ (more kvs : List (Key × V)), (mergeK kvs more).length ≤ kvs.length + more.length
  | [], kvs => by show kvs.length ≤ kvs.length + 0; omega
  | p :: r, kvs => by
    have h1 := length_mergeK r (putK kvs p.1 p.2)
    have h2 := length_putK kvs p.1 p.2
    show (mergeK (putK kvs p.1 p.2) r).length ≤ _
    rw [List.length_cons]; omega
theorem carries_of {P : Program} {w : World} : ∀ {kvs : List (Key × V)} {ws : List (Value × Value)}, VV (kvs.map fun kv => (kV kv.1, kv.2)) ws → ∃ rs, Carries (mixKind P w) ws rs ∧ KV kvs rs
  | [], _, r => by rw [List.map_nil] at r; cases r; exact ⟨[], True.intro, .nil⟩
  | p :: kvs, _, r => by
    rw [List.map_cons] at r
    cases r with
    | @cons a b as bs h t =>
      obtain ⟨rs, c, q⟩ := carries_of (P := P) (w := w) t
      obtain ⟨b1, b2⟩ := b
      exact ⟨(p.1, b2) :: rs, ⟨kV_is h.1, rfl, c⟩, .cons ⟨rfl, h.2⟩ q⟩
/-- {k: v, ..} with keys ints and texts; the new dict stands empty while the pairs are made -/
def tDisp (trs : List (TE × TE)) : TE := fun σ H Q => ∀ p, H p = none → tPairs trs σ (upd H p (.dK [])) fun ps H2 => H2 p = some (.dK []) ∧ ∃ kvs : List (Key × V), ps = kvs.map (fun kv => (kV kv.1, kv.2)) ∧ kvs.length ≤ 15 ∧ Q (.ref p) (upd H2 p (.dK (mergeK [] kvs)))
theorem pe_disp {X : Cx} {pos : Pos} {keys : List (Option Expr)} {values : List Expr} {trs : List (TE × TE)} (h : PPs X pos keys values trs) (hall : keys.all (·.isSome) = true) (hl : keys.length = values.length) (h0 : keys ≠ [])
    (h15 : keys.length ≤ 15) : PE X (.Dict keys values pos) (tDisp trs) := by
  intro pins s σ H Q I q
  have hn := I.hok.fresh (Nat.le_refl s.heap.objs.size)
  have I1 := I.laid (a := s.heap.objs.size) (o := .dK []) (h' := s.heap.push { cls := .type "dict", data := .dict #[] }) (t' := s.toks) (fun _ _ q => Heap.get?_push_of_some _ q) (Nat.le_refl _) (dk_empty s.heap I.big)
  refine wpAny_Dict_walk (knd := mixKind X.prog X.w) hall hl h0 h15 (thn (h pins _ σ _ _ I1 (q _ hn)) fun ws s2 ⟨ps, H2, I2, rel, e, kvs, ep, lk, q2⟩ => ?_)
  subst ep
  obtain ⟨rs, c, rk⟩ := carries_of (P := X.prog) (w := X.w) rel
  obtain ⟨z, hd, vs0, r0, dd⟩ := dk_of I2.hok e
  cases r0
  refine ⟨rs, c, dd, fun h' dd' hs => ⟨.ref s.heap.objs.size, _, ?_, rfl, q2⟩⟩
  have hz : (mergeK [] kvs).length ≤ sizeLine := by
    have h1 := length_mergeK kvs []
    rw [List.length_nil] at h1
    rw [sizeLine_eq]; omega
  have he : ∃ q, h'.get? s.heap.objs.size = some q := let ⟨q, _, _, hq, _⟩ := dd'; ⟨q, hq⟩
  exact d_write I2 (by rw [e]; exact True.intro) hs he (dk_new hz hd (rk.merge .nil) dd')


/-! ### methods -/
/-- a method call o.m(e) of a built-in, with one argument: what must be seen of the text -/
structure M1 (X : Cx) (o : Expr) (m : Str) (apos : Pos) (e : Expr) (cpos : Pos) : Prop where
  base : attributeBase o m X.env (eval o X.env) = eval o X.env
  few : ((backTo cpos (starEach [e] X.env)).all (fun x => !x.1) && (backToKw cpos (keywordEach [] X.env)).all (fun x => x.1.isSome)
    && decide (([e] : List Expr).length + ([] : List Keyword).length + (if ([] : List Keyword).isEmpty then 0 else 1) < 30)) = true
  line : (apos.endLine == cpos.line) = true
  trees : backTo cpos (starEach [e] X.env) = [(false, eval e X.env)]
/-- a is a dict, whatever its keys -/
def IsD (H : Hp) (a : Addr) : Prop := (∃ kvs, Rd H a (.dK kvs)) ∨ ∃ kvs, Rd H a (.dT kvs)
theorem isD_at {X : Cx} {pins : List (Addr × Obj)} {σ : St} {H : Hp} {s : Shared} {a : Addr} (I : Inv X pins σ H s) (d : IsD H a) :
    s.TypeIs (.ref a) "dict" ∧ (∀ b, Value.ref a = .ref b → ∃ ob, s.heap.get? b = some ob ∧ ob.dict = none) ∧ (a == sysModules) = false := by
  rcases d with ⟨kvs, e⟩ | ⟨kvs, e⟩
  · obtain ⟨_, hd, vs, _, dd⟩ := dk_rd I.hok e
    refine ⟨dd.typeIs, fun b q => ?_, hd⟩
    cases q
    obtain ⟨ob, _, _, h1, h2, _⟩ := dd
    exact ⟨ob, h1, h2.2.1⟩
  · obtain ⟨_, hd, xs, _, dd⟩ := dt_rd I.hok e
    refine ⟨dd.typeIs, fun b q => ?_, hd⟩
    cases q
    obtain ⟨ob, _, _, h1, h2, _⟩ := dd
    exact ⟨ob, h1, h2.2.1⟩

section
variable {X : Cx} {pins : List (Addr × Obj)} {σ : St} {H : Hp} {s : Shared} {a : Addr} {y d : V} {u r : Value} {o : Option V} {A : Around} {E : Value → Shared → Prop}
/-- d.get(y) -/
theorem d_get1 {Q : Value → Shared → Prop} (hu : A.units + 1 < cLine) (I : Inv X pins σ H s) (g : DGet H a y o) (ry : RelV y u) (h : ∀ w' s', Inv X pins σ H s' → RelV (o.getD .non) w' → Q w' s') :
    wpAny (model X.prog X.w) A (call (.builtin "dict.get") [.ref a, u]) Q E s := by
  rcases g with ⟨kvs, k, e, ey, l⟩ | ⟨kvs, k, b, e, ey, eb, l⟩
  · subst ey
    obtain ⟨z, hd, vs, rel, dd⟩ := dk_rd I.hok e
    refine call_meetsIn PySem.F.slot_dict_get dd.typeIs PySem.F.entry_dict_get (PySem.F.args_dict_get_2 _ _) (meets_dict_get (mixKind X.prog X.w) a (kV_is ry) hd) ⟨_, dd.mapOf, h _ _ (I.tok _) ?_⟩
    rw [l]
    exact (rel.val k).getD rfl
  · subst ey
    cases (show u = Value.ref b from ry)
    obtain ⟨z, hd, xs, rel, dd⟩ := dt_rd I.hok e
    refine call_meetsIn PySem.F.slot_dict_get dd.typeIs PySem.F.entry_dict_get (PySem.F.args_dict_get_2 _ _) (meetsH_dict_get (tupleKind (mixKind X.prog X.w)) a b hd) ⟨tupleKind_room_in1 hu, k, xs, key_of I.hok eb, dd, h _ _ (I.tok _) ?_⟩
    rw [l]
    exact (rel.val k).getD rfl
end

def tDGet1 (td ty : TE) : TE := fun σ H Q => td σ H fun x H1 => ∃ a, x = .ref a ∧ IsD H1 a ∧ ty σ H1 fun y H2 => ∃ o, DGet H2 a y o ∧ Q (o.getD .non) H2
section
variable {X : Cx} {o e f : Expr} {apos cpos : Pos} {td ty tx : TE}
theorem pe_dget1 (hu : X.A.units + 1 < cLine) (ho : PE X o td) (he : PE X e ty) (m : M1 X o "get" apos e cpos) : PE X (.Call (.Attribute o "get" apos) [e] [] cpos) (tDGet1 td ty) := by
  intro pins s σ H Q I h
  refine wpAny_Call_method m.base m.few m.line PySem.F.plainAttrs_dict PySem.F.slot_dict_get PySem.F.type_dict_get (thn (ho pins s σ H _ I h) fun u s1 ⟨x, H1, I1, rx, a, ex, d, q1⟩ => ?_)
  subst ex
  obtain rfl : u = Value.ref a := rx
  obtain ⟨t1, t2, _⟩ := isD_at I1 d
  refine ⟨t1, t2, ?_⟩
  rw [m.trees]
  refine Calls.callWith_builtin rfl (Calls.evalArgs_plain (Calls.spliced_cons (thn (he pins s1 σ H1 _ I1 q1) fun iv s2 ⟨y, H2, I2, ry, ov, g, q2⟩ => Calls.spliced_nil ?_)))
  exact d_get1 hu I2 g ry fun w' s3 I3 rw' => ⟨_, H2, I3, rw', q2⟩
end

/-! ### dict(d): a copy -/
section
variable {X : Cx} {pins : List (Addr × Obj)} {σ : St} {H : Hp} {s : Shared} {a : Addr} {kvs : List (Key × V)} {A : Around} {E : Value → Shared → Prop}
end


section
variable {X : Cx} {pins : List (Addr × Obj)} {σ : St} {H : Hp} {s : Shared} {a : Addr} {y : V} {u : Value} {A : Around} {E : Value → Shared → Prop}
end
end L2

namespace Att
open PySem PySem.W PySem.Calls PyProof.Rows

/-! ### the script -/
theorem ints_of_wellAll {P : Params} {h : Heap} : ∀ (ns : List Int) (vs : List Value), WellAll P h vs (ns.map WData.int) → IntsAre vs ns := by
  intro ns
  induction ns with
  | nil =>
    intro vs w
    rw [List.map_nil] at w
    cases w
    exact .nil
  | cons n ns ih =>
    intro vs w
    rw [List.map_cons] at w
    cases w with
    | cons a b =>
      cases a
      exact .cons _ _ (ih _ b)

theorem script_of {l : OpenLaw} {n : Nat} (hn : l.most = some n) {P : Params} {h : Heap} {args : List WData} {vals : List Value}
    (hpre : l.row.toRowW.claim.pre args = true) (hwl : WellAll P h vals args) :
    ∃ a vs ns, vals = [Value.ref a] ∧ args = [WData.list (ns.map WData.int)] ∧ h.get? a = some { cls := .type "list", data := .seq vs.toArray } ∧ IntsAre vs ns ∧ ns.length ≤ n := by
  have hsh : WShape.hasAll [] args [.list .int] = true := (pre_splitW hpre).1
  have hc : l.pre.holds [] { args := args } = true := (pre_splitW hpre).2
  obtain ⟨d, r, rfl, h1, h2⟩ := hasAllW_cons hsh
  obtain rfl := hasAllW_nil h2
  obtain ⟨xs, rfl, h3⟩ := hasW_list h1
  obtain ⟨ns, rfl⟩ := items_int h3
  have hlen : ns.length ≤ n := by
    unfold OpenLaw.pre at hc
    have h4 : (WTm.not (.lt (.lit (.int (n : Int))) (.len (.arg 0)))).holds [] { args := [.list (ns.map .int)] } = true := by
      have h4 := (holds_andW hc).1
      rw [hn] at h4
      exact h4
    have h5 := condW_of h4 (w_not (w_lt w_lit (w_len_list (w_arg rfl))))
    rw [List.length_map] at h5
    refine Nat.le_of_not_lt fun q => ?_
    have q' : (n : Int) < ((ns.length : Nat) : Int) := by omega
    first
      | (rw [decide_eq_true q'] at h5; exact absurd h5 (by decide))
      | (simp at h5; omega)
  cases hwl with
  | cons w1 w2 =>
    cases w2
    cases w1 with
    | list ho hall => exact ⟨_, _, ns, rfl, rfl, ho, ints_of_wellAll ns _ hall, hlen⟩

theorem post_true (l : OpenLaw) (args : List WData) : l.row.toRowW.claim.post args (.bool true) args = true :=
  postW_of (r := l.row.toRowW) (X := (true == true))
    (show WShape.has [] (.bool true) .bool = true by first | rfl | decide | simp [WShape.has, WShape.arms, WShape.armsAll])
    (show (WTm.eq .res (.lit (.bool true))).value [] { args := args, res := some (.bool true), after := args } = some (.bool (true == true)) from w_eq_bool (w_res rfl) w_lit) rfl

/-! ### the attachment: holds_open's last premise (the goal 'hc' behind k_head) from a wpAny of the law's body -/
/-- the same from a codeAny of the CALL (for a layer whose function contracts speak of calls) -/
theorem attach_call {l : OpenLaw} {n : Nat} {q : Program} {loose : List Str} {XP : (Str → Option Value) → Heap → Prop} {YP : World → Heap → Prop} {d : DefRec}
    (hn : l.most = some n) (hdf : d.params.defaults = [])
    (call : ∀ (w : World) (s₀ s₁ : Shared) (mg mb : Str → Option Value) (fa : Addr) (o : Obj) (pm cd doc : Value) (a : Addr) (vs : List Value) (ns : List Int),
      Ground q loose [] XP w s₀ mg mb s₁.heap → YP w s₁.heap →
      s₁.heap.get? fa = some o → o.data = .func (docDef d.name d.params d.body d.scope pm cd doc) → s₁.heap.CodeRec cd d.name → mg d.name = some (.ref fa) →
      s₁.heap.get? a = some { cls := .type "list", data := .seq vs.toArray } → IntsAre vs ns → ns.length ≤ n → s₁.gens = #[] →
      codeAny (model l.prog w) callerA (.call (.ref fa) ⟨[.ref a], []⟩) (fun r s' => r = .ok (.ret (.bool true)) ∧ OldK s₁.heap s'.heap ∧ s'.os = s₁.os ∧ AllBare s'.gens) s₁) :
    WalkO q loose XP YP l.row.toRowW d [] (fun f vs => PySem.call f vs) := by
  intro w s₀ s₁ mg mb G Y fa o pm cd doc dV kV ho hd hcd hD hmg hg args vals as hpre hlay hrd hwl hlo
  obtain rfl : dV = .none := Dflts.none hD hdf
  obtain rfl : kV = .none := Dflts.noKw hD
  obtain ⟨a, vs, ns, rfl, rfl, hobj, hints, hlen⟩ := script_of hn hpre hwl
  refine enter_call (codeAny_mono (call w s₀ s₁ mg mb fa o pm cd doc a vs ns G Y ho (fd_plain hd) hcd hmg hobj hints hlen hg) fun r s' hq => ?_)
  obtain ⟨rfl, h2, h3, h4⟩ := hq
  exact ⟨.inl ⟨.bool true, .bool true, [], rfl, fun _ => rfl, .bool true, post_true l _, fun _ => ⟨List.Pairwise.nil, fun _ hm => (nomatch hm)⟩⟩, h2, h3, h4⟩

/-! ### rules over ANY heap (no ledger) from facts about the written part K: the library's own take a ledger (News) for what they write -/
section
variable {prog : Program} {w : World} {A : Around} {E : Value → Shared → Prop} {s : Shared} {K : Frag}

/-! the whole heap as the ledger: makes every rule that writes through a ledger a rule over any heap -/
end
end Att

namespace L2
open PySem PySem.Spec PyProof.Rows

theorem vals_ints : ∀ {vs : List Value} {ns : List Int}, IntsAre vs ns → Vals (ns.map V.int) vs
  | _, _, .nil => .nil
  | _, _, .cons n t h => .cons ⟨t, rfl⟩ (vals_ints h)

/-- nothing is tracked but the script, known to the object (or it is an object of the module) -/
def Only (H : Hp) : Prop := ∀ b, H b = none ∨ ∃ o xs, H b = some (.frz o (.lst xs))

/-- THE HEAD: the law's promise, at the heap behind the top. F, the promise of the law's def, may use that base is part of the heap (so K.In base, base.Ns mainGlobals mg stand in Mod) -/
theorem law_call {P : Program} {w : World} {K : PySem.W.Frag} {mg mb : Str → Option Value} {CX : CXT} {k : Nat} {fa a : Addr} {fd : FuncData} {x : Str} {sp : Sp} {s₁ : Shared} {vs : List Value} {ns : List Int}
    (KX : K.In s₁.heap) (hns : s₁.heap.Ns mainGlobals mg) (hb : s₁.heap.Ns builtinsNs mb) (hbb : ∀ x : Str, x ≠ "__name__" → mb x = bootBuiltins x) (hlim : s₁.heap.NoLimit) (hg : s₁.gens = #[])
    (ha : s₁.heap.get? a = some { cls := .type "list", data := .seq vs.toArray }) (hi : IntsAre vs ns) (hl : ns.length ≤ sizeLine) (hr : Room k callerA)
    (F : ∀ base : Heap, K.In base → base.Ns mainGlobals mg → FnOk P w K mg base CX k fa fd [x] sp) (hbind : ∀ (s : Shared) (u : Value), BindsTo s fd ⟨[u], []⟩ [(x, u)])
    (hsp : ∀ H : Hp, Only H → SqL K H a (ns.map V.int) → sp [.ref a] H (fun v _ => v = .bl true) fun _ _ _ => False)
    (hCX : ∀ H e s', CX [] H s₁ (fun _ _ _ => False) e s' → False) :
    codeAny (model P w) callerA (.call (.ref fa) ⟨[.ref a], []⟩) (fun r s' => r = .ok (.ret (.bool true)) ∧ OldK s₁.heap s'.heap ∧ s'.os = s₁.os ∧ AllBare s'.gens) s₁ := by
  have rv := vals_ints hi
  have lenV := hi.length
  -- from an abstract heap in which nothing but the script may be tracked
  have core : ∀ H : Hp, Only H → SqL K H a (ns.map V.int) → HOk P w H s₁.heap → (∀ b, H b ≠ none → b = a) → (H a ≠ none → K.lookup a = none) →
      codeAny (model P w) callerA (.call (.ref fa) ⟨[.ref a], []⟩) (fun r s' => r = .ok (.ret (.bool true)) ∧ OldK s₁.heap s'.heap ∧ s'.os = s₁.os ∧ AllBare s'.gens) s₁ := by
    intro H hO hS hok hA hK
    have base_of : ∀ {b : Addr} {o : Obj}, s₁.heap.get? b = some o → H b = none → (hidT s₁.heap H).get? b = some o := fun e n => hidT_get e n
    have noA : ∀ {b : Addr} {o : Obj} {es : Array DictEntry} {ep : Nat}, s₁.heap.get? b = some o → o.data = .dict es ep → H b = none := fun {b o es ep} e d => by
      cases q : H b with
      | none => rfl
      | some u =>
        have e' : b = a := hA b (by rw [q]; simp)
        subst e'
        rw [ha] at e; cases e
        have d' : Data.seq vs.toArray _ = Data.dict es ep := d
        cases d'
    have nsK : ∀ {b : Addr} {m : Str → Option Value}, s₁.heap.Ns b m → (hidT s₁.heap H).Ns b m := fun {b m} ⟨o, es, ep, e, d, r⟩ => ⟨o, es, ep, base_of e (noA e d), d, r⟩
    have hKb : K.In (hidT s₁.heap H) := fun b o e => base_of (KX b o e) (by
      cases q : H b with
      | none => rfl
      | some u =>
        have e' : b = a := hA b (by rw [q]; simp)
        subst e'
        rw [hK (by rw [q]; simp)] at e; cases e)
    have hM : Mod K mg (hidT s₁.heap H) := ⟨hKb, nsK hns, ⟨mb, nsK hb, hbb⟩, let ⟨mc, h1, h2⟩ := hlim; ⟨mc, nsK h1, h2⟩⟩
    have e0 : Env0 P w K mg (hidT s₁.heap H) callerA [] s₁ H := ⟨rfl, hM, fun b o e => of_hidT e, Nat.le_of_eq (hidT_size _ _), trivial, fun b hb => absurd (show b ∈ ([] : List Addr) from hb) (by simp), hok, .of_eq hg⟩
    refine codeAny_mono ((F _ hKb (nsK hns)).run callerA [] s₁ H ⟨[.ref a], []⟩ [.ref a] [.ref a] _ _ hr e0 (hbind s₁ (.ref a)) (.cons rfl .nil) (hsp H hO hS)) fun r s' h => ?_
    cases r with
    | error e => exact (hCX H e s' h).elim
    | ok fl =>
      cases fl with
      | next => exact False.elim h
      | brk => exact False.elim h
      | cont => exact False.elim h
      | ret u =>
        obtain ⟨v, H', os, bare, un, hok', r', q⟩ := h
        have q' : v = .bl true := q
        subst q'
        obtain rfl : u = Value.bool true := r'
        refine ⟨rfl, OldK.of_keep fun b o e => ?_, os, bare⟩
        cases q : H b with
        | none => exact un.keep b o e q (by intro z; exact absurd (show b ∈ ([] : List Addr) from z) (by simp)) (by simp)
        | some u =>
          rcases hO b with z | ⟨ob, xs, z⟩
          · rw [q] at z; cases z
          · have z2 := un.frzs b ob _ z
            obtain ⟨e1, _⟩ := hok b _ z
            obtain ⟨e2, _⟩ := hok' b _ z2
            rw [e] at e1; cases e1
            exact e2
  cases hk : K.lookup a with
  | some o =>
    -- the script is one of the module's own objects
    have e := KX a o hk
    rw [ha] at e
    cases e
    refine core (fun _ => none) (fun _ => .inl rfl) (.inr ⟨_, vs.toArray, _, hk, rfl, rfl, rfl, by rw [List.size_toArray, lenV]; exact hl, by simpa using rv⟩) (fun b u z => by have z' : (none : Option HO) = some u := z; cases z') (fun b z => absurd rfl z) fun z => absurd rfl z
  | none =>
    refine core (fun b => if b = a then some (.frz { cls := .type "list", data := .seq vs.toArray } (.lst (ns.map V.int))) else none) (fun b => ?_) (.inl (.inr ⟨{ cls := .type "list", data := .seq vs.toArray }, if_pos rfl⟩)) (fun b u z => ?_) (fun b z => ?_) fun _ => hk
    · by_cases hb : b = a
      · exact .inr ⟨_, _, if_pos hb⟩
      · exact .inl (if_neg hb)
    · by_cases hb : b = a
      · have z' := (if_pos hb).symm.trans z
        cases z'
        subst hb
        exact ⟨ha, by rw [List.length_map]; exact hl, vs, _, rv, ha⟩
      · have z' := (if_neg hb).symm.trans z
        cases z'
    · by_cases hb : b = a
      · exact hb
      · exact absurd (if_neg hb) z
end L2

namespace L2
open PySem PySem.Spec PyProof.Rows

/-- the goal that k_head leaves (case hc), from the law's promise. F gives the function object fd (K's own) once, then the promise over every base -/
theorem walk_of {l : PySem.W.OpenLaw} {n k : Nat} {q : Program} {loose : List Str} {XP : (Str → Option Value) → Heap → Prop} {YP : World → Heap → Prop} {d : DefRec} {K : Params → PySem.W.Frag} {CX : World → CXT} {sp : World → Sp} {x : Str}
    (hn : l.most = some n) (hn2 : n ≤ sizeLine) (hdf : d.params.defaults = []) (hr : Room k callerA)
    (hY : ∀ (w : World) (h : Heap), YP w h → (K w.params).In h)
    (F : ∀ (w : World) (mg : Str → Option Value) (fa : Addr) (h : Heap), (K w.params).In h → h.Ns mainGlobals mg → mg d.name = some (.ref fa) →
      ∃ fd : FuncData, (∀ (s : Shared) (u : Value), BindsTo s fd ⟨[u], []⟩ [(x, u)]) ∧
        ∀ base : Heap, (K w.params).In base → base.Ns mainGlobals mg → FnOk l.prog w (K w.params) mg base (CX w) k fa fd [x] (sp w))
    (hsp : ∀ (w : World) (H : Hp) (a : Addr) (ns : List Int), ns.length ≤ n → Only H → SqL (K w.params) H a (ns.map V.int) → sp w [.ref a] H (fun v _ => v = .bl true) fun _ _ _ => False)
    (hCX : ∀ (w : World) (H : Hp) (s : Shared) (e : Value) (s' : Shared), CX w [] H s (fun _ _ _ => False) e s' → False) :
    PySem.W.WalkO q loose XP YP l.row.toRowW d [] (fun f vs => PySem.call f vs) := by
  refine Att.attach_call hn hdf fun w s₀ s₁ mg mb fa o pm cd doc a vs ns G Y ho hd hcd hmg hobj hints hlen hg => ?_
  have KX := hY w _ Y
  obtain ⟨fd, hb, hF⟩ := F w mg fa _ KX G.T.g hmg
  exact law_call KX G.T.g G.T.b G.T.builtins G.T.nolimit hg hobj hints (Nat.le_trans hlen hn2) hr hF hb (fun H hO hS => hsp w H a ns hlen hO hS) fun H e s' => hCX w H s₁ e s'
end L2

/- THE LAST THEOREM (shape; LID, My.* are yours):
   My.Adr: a structure of the addresses that your layer names (classes, functions); My.Txt K t: a structure (Prop) of the equations over K;
   My.txt_mk : {K} {implicit addresses ..} (e1 : nsIn K mainGlobals "law" = some (some (.ref f))) (e2 : K.lookup f = some ⟨oc, od, .func (fnOf "law" "law" params body scope dV kV doc pm an cdv ct), sl⟩) (e3 : codeIn K cdv "law" = true) .. : ∃ t, My.Txt K t

set_option maxRecDepth 100000 in
set_option maxHeartbeats 0 in
theorem PySem.Challenge.cw_LID_holds : PySem.Challenge.rw_LID.Holds := by
  w_on; o_law; k_head; (case hw => w_witness2)
  k_fill
  refine L2.walk_of (l := PySem.Challenge.rw_LID) (n := 63) (k := 40) (x := "script") (CX := fun w => ..) (sp := fun _ => My.sp_law) rfl (by decide) rfl ⟨rfl, by decide, by decide⟩ (fun w h Y => PySem.W.kIn_of Y) ?F ?S ?C
  case F =>
    intro w mg fa h KX G hmg
    have T : ∃ t, My.Txt (L2.KOf KX) t := by
      dsimp only [L2.KOf]                          -- K must stand as «<heap const> w.params» for k_is
      refine' My.txt_mk ?e1 ?e2 ?e3 ..
      (case e1 => PySem.W.k_is)                    -- in the order: a name -> its address -> its object -> its parts
      (case e2 => PySem.W.k_is)
      ..
    obtain ⟨t, T⟩ := T
    have e0 := hmg.symm.trans (PySem.W.mg_of KX G T.law)
    cases e0                                       -- fa is the law's own address
    exact ⟨_, fun s u => .of_eq rfl, fun base kb nb => My.law_fn T kb nb⟩     -- if «.of_eq rfl» comes too early: refine' ⟨_, ?b, fun base kb nb => My.law_fn T kb nb⟩; exact fun s u => .of_eq rfl
  case S => exact fun w H a ns hl hO hS => ..
  case C => exact ..
(the tactic k_is has no namespace: write k_is) -/

/-! SHORT WORDS over the layer: a def of the text, its body, what a loop and a test want. -/
namespace L2
open PySem PySem.Spec PyProof.Rows

/-! ### the text by places -/
/-- the j-th statement of a class's body -/
def inClass (s : Stmt) (j : Nat) : Stmt := match s with
  | .ClassDef _ _ _ body _ _ _ _ _ _ _ => body.getD j (.Pass ⟨0, 0, 0, 0⟩)
  | _ => .Pass ⟨0, 0, 0, 0⟩
def defArgs (s : Stmt) : Arguments := match s with
  | .FunctionDef _ a _ _ _ _ _ _ _ _ => a
  | _ => { posonlyargs := [], args := [], vararg := none, kwonlyargs := [], kw_defaults := [], kwarg := none, defaults := [] }
def defBody (s : Stmt) : List Stmt := match s with
  | .FunctionDef _ _ b _ _ _ _ _ _ _ => b
  | _ => []
def defScope (s : Stmt) : Scope := match s with
  | .FunctionDef _ _ _ _ _ _ sc _ _ _ => sc
  | _ => { kind := .function, names := [], isGenerator := false, isCoroutine := false }

/-! ### no exception leaves a def -/
abbrev CX0 : CXT := fun _ _ _ _ _ _ => False
abbrev E0 : XK := fun _ _ _ => False
theorem pass0 {X : Cx} : Passes CX0 X E0 := fun _ _ _ _ _ _ _ h => h.elim

/-! ### a def (or method) of the text as it stands behind the top -/
structure Fun (K : PySem.W.Frag) (x qual : Str) (st : Stmt) (f : Addr) (fd : FuncData) : Prop where
  ex : ∃ (oc : Value) (od : Option Addr) (kV doc pm : Value) (an : Option Addr) (cdv ct : Value) (osl : Array (Option Value)),
    fd = PySem.W.fnOf x qual (defArgs st) (defBody st) (defScope st) .none kV doc pm an cdv ct ∧ K.lookup f = some ⟨oc, od, .func fd, osl⟩ ∧ PySem.W.codeIn K cdv qual = true
  kp : PySem.W.keepIn K (.ref f) = true
section
variable {P : Program} {w : World} {K : PySem.W.Frag} {mg : Str → Option Value} {base : Heap}
/-- THE RULE for a def: its body as a term of rules, and the reading of that term -/
theorem Fun.ok {x qual : Str} {st : Stmt} {f : Addr} {fd : FuncData} {N ps : List Str} {k : Nat} {sp : Sp} (F : Fun K x qual st f fd) (S : FnScope N ps (defScope st)) (len : ∀ vs H Q E, sp vs H Q E → vs.length = ps.length)
    (hbody : ∀ (cdv : Value) (A : Around) (outer : List Env) (s : Shared) (H : Hp) (vs : List V) (Q : VK) (E : XK), Room k (A.deeper (envOfC qual (defScope st) s.heap.objs.size f cdv)) → sp vs H Q E →
      ∃ t, PSs (cxOf CX0 P w K mg base N qual (defScope st) f cdv A outer s H E).nox (defBody st) t ∧ t { nx := fun _ H' => Q .non H', rt := Q } (start N vs) H) : FnOk P w K mg base CX0 (k + 1) f fd ps sp := by
  obtain ⟨oc, od, kV, doc, pm, an, cdv, ct, osl, rfl, lk, hcd⟩ := F.ex
  refine fn_of lk hcd S len fun A outer s H vs Q E hr hsp => ?_
  obtain ⟨t, h, q⟩ := hbody cdv A outer s H vs Q E hr hsp
  exact ⟨t, h.nox, q⟩
/-- how its arguments bind (no defaults): h is «fun _ _ _ _ _ _ us hl => match us, hl with | [_, _], _ => rfl», one _ a parameter -/
theorem Fun.binds {x qual : Str} {st : Stmt} {f : Addr} {fd : FuncData} {ps : List Str} (F : Fun K x qual st f fd)
    (h : ∀ (kV doc pm : Value) (an : Option Addr) (cdv ct : Value) (us : List Value), us.length = ps.length → bindArgs (PySem.W.fnOf x qual (defArgs st) (defBody st) (defScope st) .none kV doc pm an cdv ct) ⟨us, []⟩ = pure (ps.zip us)) : Binds K fd ps [] := by
  obtain ⟨oc, od, kV, doc, pm, an, cdv, ct, osl, rfl, lk, hcd⟩ := F.ex
  exact .all (h kV doc pm an cdv ct)
theorem fun_mk {x qual : Str} {st : Stmt} {f : Addr} {oc : Value} {od an : Option Addr} {osl : Array (Option Value)} {kV doc pm cdv ct : Value} (l : K.lookup f = some ⟨oc, od, .func (PySem.W.fnOf x qual (defArgs st) (defBody st) (defScope st) .none kV doc pm an cdv ct), osl⟩)
    (c : PySem.W.codeIn K cdv qual = true) (k : PySem.W.keepIn K (.ref f) = true) : Fun K x qual st f (PySem.W.fnOf x qual (defArgs st) (defBody st) (defScope st) .none kV doc pm an cdv ct) := ⟨⟨oc, od, kV, doc, pm, an, cdv, ct, osl, rfl, l, c⟩, k⟩
end
theorem small1000 {n : Nat} (h : n ≤ 1000) : n < sizeLine := Nat.lt_of_le_of_lt h (by decide)

/-! ### expressions in short: the name that stands in the i-th slot -/
section
variable {X : Cx}
theorem pv (i : Nat) {x : Str} {pos : Pos} (hN : X.N[i]? = some x := by rfl) (hv : Vis X.env.scope x := by first | exact Or.inl rfl | exact Or.inr (Or.inl rfl) | exact Or.inr (Or.inr rfl)) (hd : (x == ("__debug__" : Str)) = false := by decide)
    (hcd : (x == ("__classdict__" : Str)) = false := by decide) : PE X (.Name x pos) (tVar i) := pe_var hN hv hd hcd
end

/-! ### tests -/
theorem iteF {A B : Prop} (h : B) : if false = true then A else B := by
  rw [if_neg Bool.false_ne_true]
  exact h
theorem iteT {A B : Prop} (h : A) : if true = true then A else B := by
  rw [if_pos rfl]
  exact h
theorem ite2 {c A B : Prop} [Decidable c] (h1 : c → A) (h2 : ¬ c → B) : if c then A else B := by
  by_cases h : c
  · rw [if_pos h]
    exact h1 h
  · rw [if_neg h]
    exact h2 h
theorem iteNS {c A B : Prop} [Decidable c] (hc : c) (h : B) : if (!decide c) = true then A else B := by
  rw [decide_eq_true hc]
  exact iteF h

/-! ### heaps -/
/-- all that was tracked is as it was -/
def Same (H H' : Hp) : Prop := ∀ b o, H b = some o → H' b = some o
theorem Same.refl (H : Hp) : Same H H := fun _ _ h => h
theorem Same.trans {H H1 H2 : Hp} (a : Same H H1) (b : Same H1 H2) : Same H H2 := fun c o h => b c o (a c o h)
theorem Same.free {H H' : Hp} (e : Same H H') {l : Addr} (h : H' l = Option.none) : H l = Option.none := by
  cases q : H l with
  | none => rfl
  | some o =>
    rw [e l o q] at h
    cases h
theorem Same.seq {K : PySem.W.Frag} {H H' : Hp} {a : Addr} {xs : List V} (e : Same H H') (h : SqL K H a xs) : SqL K H' a xs := by
  rcases h with (h | ⟨o, h⟩) | h
  · exact .inl (.inl (e _ _ h))
  · exact .inl (.inr ⟨o, e _ _ h⟩)
  · exact .inr h

end L2

namespace L2
open PySem PySem.Spec PyProof.Rows
section
variable {X : Cx}
/-- len of a dict -/
theorem call_lenD : CallR X (.builtin "len") (fun xs H Q => ∃ a kvs, xs = [V.ref a] ∧ H a = some (.dK kvs) ∧ Q (.int kvs.length) H) := by
  intro pins s σ H xs us Q I r h
  obtain ⟨a, kvs, rfl, ha, q⟩ := h
  obtain ⟨u, rfl, ru⟩ := vals1 r
  cases ru
  exact d_len I (.inl ha) fun t s' I' => ⟨.int kvs.length, H, I', ⟨t, rfl⟩, q⟩
end
/-! ### a dict's pairs: keys that differ -/
section
variable {κ : Type} [DecidableEq κ]
theorem valV_not {kvs : List (κ × V)} {k : κ} (h : valV kvs k = none) : ¬ k ∈ kvs.map (·.1) := by
  intro m
  obtain ⟨p, hp, e⟩ := List.mem_map.mp m
  have q : (kvs.any fun kv => decide (kv.1 = k)) = true := List.any_eq_true.mpr ⟨p, hp, decide_eq_true e⟩
  rw [valV_any, h] at q
  exact absurd q (by simp)
theorem nd_snoc : ∀ {l : List κ} {k : κ}, l.Nodup → ¬ k ∈ l → (l ++ [k]).Nodup
  | [], k, _, _ => by simp
  | a :: r, k, h, hk => by
    obtain ⟨h1, h2⟩ := List.nodup_cons.mp h
    show (a :: (r ++ [k])).Nodup
    refine List.nodup_cons.mpr ⟨fun m => ?_, nd_snoc h2 fun m => hk (List.mem_cons.mpr (Or.inr m))⟩
    rcases List.mem_append.mp m with q | q
    · exact h1 q
    · exact hk (List.mem_cons.mpr (Or.inl (List.mem_singleton.mp q).symm))
theorem nd_putK {kvs : List (κ × V)} {k : κ} (v : V) (hn : (kvs.map (·.1)).Nodup) (h : valV kvs k = none) : ((putK kvs k v).map (·.1)).Nodup := by
  rw [putK_new v h, List.map_append]
  exact nd_snoc hn (valV_not h)
end
end L2


set_option Elab.async false
set_option linter.all false
set_option maxRecDepth 100000
set_option maxHeartbeats 4000000
/-! COMPREHENSIONS over the hand layer: [elt for tg in iter], [elt for tg in iter if c], and name = [..] -/
namespace L2
open PySem PySem.Spec PyProof.Rows

/-! ### what a block's closure is -/
def clos (cells : List (Str × Addr)) : List (Str × NameKind) → List (Str × Addr) → List (Str × Addr)
  | [], acc => acc
  | (n, k) :: r, acc => clos cells r (if k == .free then (n, (cells.lookup n).getD 0) :: acc else acc)
theorem clos_go {env : Env} : ∀ (names : List (Str × NameKind)) (acc : List (Str × Addr)), (∀ x ∈ names, x.2 = .free → ∃ c, env.cells.lookup x.1 = some c) →
    (forIn (m := Sem) names acc fun x r => if (x.2 == NameKind.free) = true then (do let a ← cellOf env x.1; pure (ForInStep.yield ((x.1, a) :: r))) else pure (ForInStep.yield r)) = pure (clos env.cells names acc)
  | [], acc, _ => rfl
  | (n, k) :: r, acc, h => by
    have hr : ∀ x ∈ r, x.2 = .free → ∃ c, env.cells.lookup x.1 = some c := fun x hx => h x (List.mem_cons_of_mem _ hx)
    rw [List.forIn_cons]
    by_cases hk : k = .free
    · subst hk
      obtain ⟨c, hc⟩ := h (n, .free) List.mem_cons_self rfl
      have hc : env.cells.lookup n = some c := hc
      have e : cellOf env n = pure c := by unfold cellOf; rw [hc]
      have q := clos_go r ((n, c) :: acc) hr
      show ((do let a ← cellOf env n; pure (ForInStep.yield ((n, a) :: acc))) >>= _) = _
      rw [e]
      refine Eq.trans ?goalA (Eq.trans q ?goalB)
      case goalA => rfl
      case goalB =>
        show _ = pure (clos env.cells r ((n, (env.cells.lookup n).getD 0) :: acc))
        rw [hc]
        rfl
    · have hb : (k == NameKind.free) = false := by simpa using hk
      have q := clos_go r acc hr
      show ((if (k == NameKind.free) = true then _ else _) >>= _) = pure (clos env.cells r (if k == .free then _ else acc))
      rw [hb]
      exact q
theorem closureFor_eq {scope : Scope} {env : Env} (h : ∀ x ∈ scope.names, x.2 = .free → ∃ c, env.cells.lookup x.1 = some c) : closureFor scope env = pure (clos env.cells scope.names []) := by
  have q := clos_go scope.names [] h
  unfold closureFor
  show (forIn scope.names [] _ >>= fun cs => pure cs) = _
  refine Eq.trans (congrArg (fun t => t >>= fun cs => pure cs) (Eq.trans ?_ q)) ?_
  · rfl
  · rfl
theorem clos_lookup {cells : List (Str × Addr)} : ∀ (names : List (Str × NameKind)) (acc : List (Str × Addr)), (∀ y ∈ names, y.2 = .free → ∃ c, cells.lookup y.1 = some c) → (∀ x c, acc.lookup x = some c → cells.lookup x = some c) →
    ∀ x c, (clos cells names acc).lookup x = some c → cells.lookup x = some c
  | [], acc, _, h2 => h2
  | (n, k) :: r, acc, h1, h2 => by
    have hr : ∀ x ∈ r, x.2 = .free → ∃ c, cells.lookup x.1 = some c := fun x hx => h1 x (List.mem_cons_of_mem _ hx)
    refine clos_lookup r _ hr ?_
    intro x c e
    by_cases hk : k = .free
    · subst hk
      obtain ⟨c', hc⟩ := h1 (n, .free) List.mem_cons_self rfl
      have hc : cells.lookup n = some c' := hc
      rw [show (if (NameKind.free == NameKind.free) = true then (n, (cells.lookup n).getD 0) :: acc else acc) = (n, (cells.lookup n).getD 0) :: acc from rfl, hc] at e
      rw [List.lookup_cons] at e
      cases q : x == n with
      | true =>
        rw [q] at e
        have e1 : x = n := by simpa using q
        have e2 : c' = c := Option.some.inj e
        rw [e1, hc, e2]
      | false =>
        rw [q] at e
        exact h2 x c e
    · have hb : (k == NameKind.free) = false := by simpa using hk
      rw [hb] at e
      exact h2 x c e
theorem clos_has {cells : List (Str × Addr)} : ∀ (names : List (Str × NameKind)) (acc : List (Str × Addr)) (x : Str), ((x, NameKind.free) ∈ names ∨ ∃ c, acc.lookup x = some c) → ∃ c, (clos cells names acc).lookup x = some c
  | [], acc, x, h => h.elim (fun z => nomatch z) id
  | (n, k) :: r, acc, x, h => by
    refine clos_has r _ x ?_
    rcases h with h | ⟨c, h⟩
    · rcases List.mem_cons.mp h with e | e
      · have e1 : x = n := congrArg Prod.fst e
        have e2 : NameKind.free = k := congrArg Prod.snd e
        subst e2
        subst e1
        exact .inr ⟨(cells.lookup x).getD 0, by show List.lookup x ((x, _) :: acc) = _; rw [List.lookup_cons, beq_self_eq_true]⟩
      · exact .inl e
    · right
      by_cases hk : (k == NameKind.free) = true
      · rw [if_pos hk, List.lookup_cons]
        cases x == n with
        | true => exact ⟨_, rfl⟩
        | false => exact ⟨c, h⟩
      · rw [if_neg hk]
        exact ⟨c, h⟩

/-! ### an untracked record of ours is tracked; a tracked list is let go -/
section
variable {X : Cx} {pins : List (Addr × Obj)} {σ : St} {H : Hp} {s : Shared} {a : Addr} {o : HO}
theorem Inv.track (I : Inv X pins σ H s) (hn : H a = none) (h0 : X.s₀.heap.objs.size ≤ a) (hL : a ≠ X.env.locals) (h2 : ∀ x c, X.env.cells.lookup x = some c → c ≠ a) (h3 : ∀ p ∈ X.pn ++ pins, p.1 ≠ a)
    (new : ObjOk X.prog X.w (upd H a o) s.heap a o) : Inv X pins σ (upd H a o) s := by
  have old : ∀ b u, X.s₀.heap.get? b = some u → b ≠ a := fun b u e => Nat.ne_of_lt (Nat.lt_of_lt_of_le (Heap.lt_size e) h0)
  have trk : ∀ b u, H b = some u → b ≠ a := fun b u e z => by rw [z, hn] at e; cases e
  refine ⟨I.ok, I.os, I.bare, ⟨I.base.keep, I.base.slot, fun b u e n hx => ?_, I.base.there, fun b xs e => ?_, fun b u v e => ?_, fun b ps e => ?_⟩, I.loc, I.cell, ?_, fun x c e => ?_, fun p hp => ?_, fun b u e => ?_, I.len⟩
  · rw [upd_ne (old b u e)]; exact I.base.free b u e n hx
  · have q := I.base.tups b xs e; rw [upd_ne (trk _ _ q)]; exact q
  · have q := I.base.frzs b u v e; rw [upd_ne (trk _ _ q)]; exact q
  · obtain ⟨m, q⟩ := I.base.tbls b ps e; exact ⟨m, by rw [upd_ne (trk _ _ q)]; exact q⟩
  · rw [upd_ne (Ne.symm hL)]; exact I.free
  · rw [upd_ne (h2 x c e)]; exact I.freeC x c e
  · obtain ⟨e1, e2, e3⟩ := I.pin p hp
    exact ⟨e1, by rw [upd_ne (h3 p hp)]; exact e2, e3⟩
  · by_cases hb : b = a
    · subst hb; rw [upd_same] at e; cases e; exact new
    · rw [upd_ne hb] at e
      exact (I.hok b u e).stay (fun c v _ q => q) (fun c q => by rw [upd_ne (trk _ _ q)]; exact q) fun c xs q => by rw [upd_ne (trk _ _ q)]; exact q
theorem Inv.untrack {ys : List V} (I : Inv X pins σ (upd H a (.lst ys)) s) (hn : H a = none) : Inv X pins σ H s := by
  have off : ∀ b, upd H a (.lst ys) b = none → H b = none := fun b e => by
    by_cases hb : b = a
    · rw [hb, upd_same] at e; cases e
    · rw [upd_ne hb] at e; exact e
  have off2 : ∀ b u, upd H a (.lst ys) b = some u → u ≠ .lst ys → H b = some u := fun b u e ne => by
    by_cases hb : b = a
    · rw [hb, upd_same] at e; cases e; exact absurd rfl ne
    · rw [upd_ne hb] at e; exact e
  refine ⟨I.ok, I.os, I.bare, ⟨I.base.keep, I.base.slot, fun b u e n hx => off _ (I.base.free b u e n hx), I.base.there, fun b xs e => off2 _ _ (I.base.tups b xs e) (by intro z; cases z), fun b u v e => off2 _ _ (I.base.frzs b u v e) (by intro z; cases z), fun b ps e => ?_⟩, I.loc, I.cell, off _ I.free, fun x c e => off _ (I.freeC x c e), fun p hp => ?_, fun b u e => ?_, I.len⟩
  · obtain ⟨m, q⟩ := I.base.tbls b ps e; exact ⟨m, off2 _ _ q (by intro z; cases z)⟩
  · obtain ⟨e1, e2, e3⟩ := I.pin p hp
    exact ⟨e1, off _ e2, e3⟩
  · have hb : b ≠ a := fun z => by rw [z, hn] at e; cases e
    exact (I.hok b u (by rw [upd_ne hb]; exact e)).stay (fun c v _ q => q) (fun c q => off2 _ _ q (by intro z; cases z)) fun c xs q => off2 _ _ q (by intro z; cases z)
end

/-! ### the names of a block: those of the def first, the block's own behind; ms: which of them keep their values inside -/
def maskS : List Bool → St → St
  | [], _ => []
  | _ :: bs, [] => none :: maskS bs []
  | b :: bs, v :: σ => cond b v none :: maskS bs σ
theorem maskS_length : ∀ (ms : List Bool) (σ : St), (maskS ms σ).length = ms.length
  | [], _ => rfl
  | _ :: bs, [] => by show (maskS bs []).length + 1 = bs.length + 1; rw [maskS_length bs []]
  | b :: bs, v :: σ => by show (maskS bs σ).length + 1 = bs.length + 1; rw [maskS_length bs σ]
theorem maskS_get : ∀ {ms : List Bool} {σ : St} {i : Nat} {v : V}, (maskS ms σ)[i]? = some (some v) → ms[i]? = some true ∧ σ[i]? = some (some v)
  | [], _, i, v, h => by simp [maskS] at h
  | b :: bs, [], 0, v, h => by simp [maskS] at h
  | b :: bs, [], i + 1, v, h => by
    have h' : (maskS bs [])[i]? = some (some v) := h
    have q := (maskS_get (ms := bs) (σ := []) (i := i) h').2
    simp at q
  | true :: bs, w :: σ, 0, v, h => ⟨rfl, h⟩
  | false :: bs, w :: σ, 0, v, h => by simp [maskS] at h
  | b :: bs, w :: σ, i + 1, v, h => by
    have h' : (maskS bs σ)[i]? = some (some v) := h
    exact maskS_get (ms := bs) (σ := σ) (i := i) h'
def okMask (sc : Scope) : List Str → List Str → List Bool → Bool
  | [], _, [] => true
  | x :: N, y :: NX, true :: ms => decide (x = y) && decide (sc.names.lookup x ≠ some .local) && okMask sc N NX ms
  | _ :: N, NX, false :: ms => okMask sc N NX.tail ms
  | _, _, _ => false
theorem okMask_len {sc : Scope} : ∀ {N NX : List Str} {ms : List Bool}, okMask sc N NX ms = true → ms.length = N.length
  | [], _, [], _ => rfl
  | x :: N, y :: NX, true :: ms, h => by
    rw [okMask, Bool.and_eq_true] at h
    rw [List.length_cons, List.length_cons, okMask_len h.2]
  | x :: N, [], false :: ms, h => by
    rw [okMask] at h
    rw [List.length_cons, List.length_cons, okMask_len h]
  | x :: N, y :: NX, false :: ms, h => by
    rw [okMask] at h
    rw [List.length_cons, List.length_cons, okMask_len h]
  | [], _, _ :: _, h => by simp [okMask] at h
  | _ :: _, _, [], h => by simp [okMask] at h
  | _ :: _, [], true :: _, h => by simp [okMask] at h
theorem okMask_at {sc : Scope} : ∀ {N NX : List Str} {ms : List Bool} {i : Nat} {x : Str}, okMask sc N NX ms = true → N[i]? = some x → ms[i]? = some true → NX[i]? = some x ∧ sc.names.lookup x ≠ some .local
  | x :: N, y :: NX, true :: ms, 0, z, h, h1, h2 => by
    rw [okMask, Bool.and_eq_true, Bool.and_eq_true] at h
    have e : x = z := Option.some.inj h1
    have e2 : x = y := of_decide_eq_true h.1.1
    subst e
    exact ⟨by rw [← e2]; rfl, of_decide_eq_true h.1.2⟩
  | x :: N, y :: NX, true :: ms, i + 1, z, h, h1, h2 => by
    rw [okMask, Bool.and_eq_true] at h
    exact okMask_at (i := i) h.2 h1 h2
  | x :: N, NX, false :: ms, 0, z, h, h1, h2 => by simp at h2
  | x :: N, [], false :: ms, i + 1, z, h, h1, h2 => by
    rw [okMask] at h
    have q := (okMask_at (i := i) h h1 h2).1
    simp at q
  | x :: N, y :: NX, false :: ms, i + 1, z, h, h1, h2 => by
    rw [okMask] at h
    exact okMask_at (i := i) h h1 h2
  | [], _, [], i, z, h, h1, h2 => by simp at h1
  | [], _, _ :: _, i, z, h, h1, h2 => by simp [okMask] at h
  | _ :: _, _, [], i, z, h, h1, h2 => by simp [okMask] at h
  | _ :: _, [], true :: _, i, z, h, h1, h2 => by simp [okMask] at h
/-- what is asked of a block's scope: closed, by decide +kernel -/
structure CompScope (out sc : Scope) (NX N : List Str) (ms : List Bool) : Prop where
  kind : sc.kind = .function
  nocell : ∀ x ∈ sc.names, x.2 ≠ .cell
  own : ∀ x ∈ sc.names, x.2 = .local → sc.names.lookup x.1 = some .local
  fre : ∀ x ∈ sc.names, x.2 = .free → out.names.lookup x.1 = some .cell ∨ out.names.lookup x.1 = some .free
  nd : N.Nodup
  mask : okMask sc N NX ms = true
/-- a target that stores in the slots ks alone -/
def Sets (g : TG) (ks : List Nat) : Prop := ∀ (x : V) (σ : St) (H : Hp) (Q Q' : St → Hp → Prop), g x σ H Q → (∀ σ2 H2, (σ2.length = σ.length ∧ ∀ i, i ∉ ks → σ2[i]? = σ[i]?) → Q σ2 H2 → Q' σ2 H2) → g x σ H Q'
def SetsL (g : TGs) (ks : List Nat) : Prop := ∀ (x : List V) (σ : St) (H : Hp) (Q Q' : St → Hp → Prop), g x σ H Q → (∀ σ2 H2, (σ2.length = σ.length ∧ ∀ i, i ∉ ks → σ2[i]? = σ[i]?) → Q σ2 H2 → Q' σ2 H2) → g x σ H Q'
theorem sets_name (i : Nat) : Sets (gName i) [i] := fun x σ H Q Q' h k => k _ _ ⟨List.length_set, fun j hj => by
  rw [List.getElem?_set_ne (fun z => hj (by simp [z]))]⟩ h
theorem sets_nil : SetsL gNil [] := fun x σ H Q Q' h k => ⟨h.1, k _ _ ⟨rfl, fun _ _ => rfl⟩ h.2⟩
theorem sets_cons {t : TG} {u : TGs} {ks js : List Nat} (h1 : Sets t ks) (h2 : SetsL u js) : SetsL (gCons t u) (ks ++ js) := fun x σ H Q Q' h k => by
  obtain ⟨v, r, e, q⟩ := h
  refine ⟨v, r, e, h1 v σ H _ _ q fun σ2 H2 f1 q2 => h2 r σ2 H2 _ _ q2 fun σ3 H3 f2 q3 => k σ3 H3 ⟨f2.1.trans f1.1, fun i hi => ?_⟩ q3⟩
  rw [List.mem_append, not_or] at hi
  rw [f2.2 i hi.2, f1.2 i hi.1]
theorem sets_tup {K : PySem.W.Frag} {n : Nat} {t : TGs} {ks : List Nat} (h : SetsL t ks) : Sets (gTup K n t) ks := fun x σ H Q Q' q k => by
  obtain ⟨a, xs, e1, e2, e3, q⟩ := q
  exact ⟨a, xs, e1, e2, e3, h xs σ H _ _ q k⟩
/-! ### the block's context -/
def cxComp (X : Cx) (sc : Scope) (N : List Str) (C : Addr) (ex : List Addr) (s : Shared) (H : Hp) : Cx :=
  { X with N := N, s₀ := s, H₀ := H, env := compEnvC sc (clos X.env.cells sc.names []) C X.env, outer := X.stack, ex := ex, fn := fun _ => false, pn := [], xe := fun _ _ => False }
/-- tests of a comprehension -/
def PTs (X : Cx) (ifs : List Expr) (t : TT) : Prop :=
  ∀ (pins : List (Addr × Obj)) (s : Shared) (σ : St) (H : Hp) (Q : Bool → Hp → Prop), Inv X pins σ H s → t σ H Q →
    wpAny (model X.prog X.w) X.A (forIn ifs true fun c r => if r = true then do let ok ← isTrue c X.env (eval c X.env); pure (ForInStep.yield ok) else pure (ForInStep.yield r)) (TP X pins σ Q) X.xe s
def tYes : TT := fun _ H Q => Q true H
theorem pts_nil {X : Cx} : PTs X [] tYes := fun pins s σ H Q I h => wpAny_tests_nil ⟨H, I, h⟩
theorem pts_one {X : Cx} {c : Expr} {t : TT} (h : PT X c t) : PTs X [c] t := fun pins s σ H Q I q => wpAny_tests_one (h pins s σ H Q I q)

/-- the reading of a comprehension: W, what holds ahead of the turn i (the items made so far, the heap) -/
def tComp (ms : List Bool) (wi : TI) (g : TG) (tc : TT) (te : TE) : TE := fun σ H Q => wi σ H fun J H1 =>
  ∃ W : Nat → Nat → List V → Hp → Prop, (∃ m, W 0 m [] H1) ∧ ∀ i m ys H, W i m ys H →
    (J.stop i H ∧ ∀ D, H D = none → Q (.ref D) (upd H D (.lst ys))) ∨
    (J.go i H ∧ ys.length < sizeLine ∧ ∃ N : List V → Hp → Prop, (∀ ys' H', N ys' H' → ∃ m', m' < m ∧ W (i + 1) m' ys' H') ∧
      ∀ x H', J.yld i H x H' → g x (maskS ms σ) H' fun σ2 H2 => tc σ2 H2 fun b H3 => if b = true then te σ2 H3 fun v H4 => N (ys ++ [v]) H4 else N ys H3)
section
variable {prog : Program} {w : World} {A : Around} {R : Result → Shared → Prop} {s : Shared}
theorem codeAny_compLoop_own {elt target iter : Expr} {ifs : List Expr} {scope : Scope} {pos : Pos} {it acc : Value} {env : Env} (I : Nat → Shared → Prop)
    (turn : ∀ n s, I n s → wpAny (model prog w) A (pyNext it) (fun r s₁ => match r with
      | none => R (.ok .next) s₁
      | some v => wpAny (model prog w) A (letOwnedTupleGo target it v) (fun _ s₁' => wpAny (model prog w) A (assign target env v) (fun _ s₂ =>
          wpAny (model prog w) A (forIn ifs true fun c r => if r = true then do let ok ← isTrue c env (eval c env); pure (ForInStep.yield ok) else pure (ForInStep.yield r)) (fun ok s₃ =>
            if ok = true then wpAny (model prog w) A (eval elt env) (fun x s₄ =>
              wpAny (model prog w) A (call (.builtin "list.append") [acc, x]) (fun _ s₅ => ∃ m, m < n ∧ I m s₅) (fun _ _ => False) s₄) (fun _ _ => False) s₃
            else ∃ m, m < n ∧ I m s₃) (fun _ _ => False) s₂) (fun _ _ => False) s₁') (fun _ _ => False) s₁) (fun _ _ => False) s)
    (n : Nat) (h : I n s) :
    codeAny (model prog w) A (.compLoop (.ListComp elt [⟨target, iter, ifs, 0⟩] scope pos) 0 it acc env) R s := by
  have fe : ∀ {α : Type} {t : Sem α} {Q : α → Shared → Prop} {E : Value → Shared → Prop} {s : Shared}, wpAny (model prog w) A t Q (fun _ _ => False) s → wpAny (model prog w) A t Q E s := fun h => wpAny_mono h (fun _ _ q => q) fun _ _ f => f.elim
  refine codeAny_loop rfl I (fun n s hI => ?_) n h
  show wpAny _ A ((compTurn (.ListComp elt [⟨target, iter, ifs, 0⟩] scope pos) 0 it acc env).onRaise (fun x => do noteFrame x env; theTreesLotGoes x)) _ _ s
  refine wpAny_noted ?_
  rw [compTurn_list]
  refine wpAny_bind (wpAny_standAt (wpAny_bind (wpAny_mono (turn n s hI) (fun r s₁ h₁ => ?_) fun _ _ f => f.elim)))
  cases r with
  | none => exact wpAny_pure h₁
  | some v =>
    refine wpAny_bind (wpAny_mono h₁ (fun _ s₁' h₁' => ?_) fun _ _ f => f.elim)
    refine wpAny_bind (wpAny_mono h₁' (fun _ s₂ h₂ => wpAny_bind (wpAny_mono h₂ (fun ok s₃ h₃ => ?_) fun _ _ f => f.elim)) fun _ _ f => f.elim)
    cases ok with
    | false => exact wpAny_pure ⟨rfl, h₃⟩
    | true =>
      exact wpAny_bind (wpAny_bind (wpAny_mono h₃ (fun x s₄ h₄ => wpAny_bind (wpAny_mono h₄ (fun _ s₅ h₅ => wpAny_pure (wpAny_pure ⟨rfl, h₅⟩)) fun _ _ f => f.elim)) fun _ _ f => f.elim))
end

/-! ### the rule -/
section
variable {X : Cx} {pins : List (Addr × Obj)} {σ : St} {H : Hp} {s s1 : Shared} {out sc : Scope} {N : List Str} {ms : List Bool}
theorem CompScope.cells (S : CompScope out sc X.N N ms) (ho : X.env.scope = out) (ok : X.Ok) : ∀ x ∈ sc.names, x.2 = .free → ∃ c, X.env.cells.lookup x.1 = some c := fun x hx hf => by
  subst ho
  exact ok.has x.1 (S.fre x hx hf)
theorem lookup_mem {α β : Type} [BEq α] [LawfulBEq α] : ∀ {l : List (α × β)} {x : α} {y : β}, l.lookup x = some y → (x, y) ∈ l
  | [], _, _, h => by simp at h
  | (a, b) :: r, x, y, h => by
    rw [List.lookup_cons] at h
    cases q : x == a with
    | true =>
      rw [q] at h
      have e1 : x = a := by simpa using q
      have e2 : b = y := Option.some.inj h
      rw [e1, e2]
      exact List.mem_cons_self
    | false =>
      rw [q] at h
      exact List.mem_cons_of_mem _ (lookup_mem h)
/-- the names of a block as relabelled: local stays; what is seen and not local was free -/
theorem relabel_lookup {env : Env} : ∀ {names : List (Str × NameKind)} {x : Str} {k : NameKind}, (∀ y ∈ names, y.2 ≠ .cell) →
    (names.map fun (n, k) => if (k == NameKind.free && env.scope.kind == .function && env.kindOf n == some .cell) then (n, NameKind.cell) else (n, k)).lookup x = some k → (k = .cell ∨ k = .free) → names.lookup x = some .free
  | [], _, _, _, h, _ => by simp at h
  | (n, k') :: r, x, k, hc, h, hk => by
    have hc' : ∀ y ∈ r, y.2 ≠ .cell := fun y hy => hc y (List.mem_cons_of_mem _ hy)
    have ih := @relabel_lookup env r x k hc'
    have hk' : k' ≠ .cell := hc (n, k') List.mem_cons_self
    replace h : List.lookup x ((if (k' == NameKind.free && env.scope.kind == .function && env.kindOf n == some .cell) = true then (n, NameKind.cell) else (n, k')) :: _) = some k := h
    cases hx : x == n with
    | true =>
      by_cases hb : (k' == NameKind.free && env.scope.kind == .function && env.kindOf n == some .cell) = true
      · rw [Bool.and_eq_true, Bool.and_eq_true] at hb
        have e : k' = .free := by simpa using hb.1.1
        rw [List.lookup_cons, hx, e]
      · rw [if_neg hb, List.lookup_cons, hx] at h
        have e : k' = k := Option.some.inj h
        rw [List.lookup_cons, hx, e]
        rcases hk with z | z
        · exact absurd (e.trans z) hk'
        · rw [z]
    | false =>
      have h2 : List.lookup x (r.map fun (n, k) => if (k == NameKind.free && env.scope.kind == .function && env.kindOf n == some .cell) then (n, NameKind.cell) else (n, k)) = some k := by
        by_cases hb : (k' == NameKind.free && env.scope.kind == .function && env.kindOf n == some .cell) = true
        · rw [if_pos hb, List.lookup_cons, hx] at h; exact h
        · rw [if_neg hb, List.lookup_cons, hx] at h; exact h
      rw [List.lookup_cons, hx]
      exact ih h2 hk
theorem relabel_local {env : Env} : ∀ {names : List (Str × NameKind)} {x : Str},
    (names.map fun (n, k) => if (k == NameKind.free && env.scope.kind == .function && env.kindOf n == some .cell) then (n, NameKind.cell) else (n, k)).lookup x = some .local → names.lookup x = some .local
  | [], _, h => by simp at h
  | (n, k') :: r, x, h => by
    have ih := @relabel_local env r x
    replace h : List.lookup x ((if (k' == NameKind.free && env.scope.kind == .function && env.kindOf n == some .cell) = true then (n, NameKind.cell) else (n, k')) :: _) = some .local := h
    cases hx : x == n with
    | true =>
      by_cases hb : (k' == NameKind.free && env.scope.kind == .function && env.kindOf n == some .cell) = true
      · rw [if_pos hb, List.lookup_cons, hx] at h
        have e : NameKind.cell = .local := Option.some.inj h
        cases e
      · rw [if_neg hb, List.lookup_cons, hx] at h
        rw [List.lookup_cons, hx]
        exact h
    | false =>
      rw [List.lookup_cons, hx]
      refine ih ?_
      by_cases hb : (k' == NameKind.free && env.scope.kind == .function && env.kindOf n == some .cell) = true
      · rw [if_pos hb, List.lookup_cons, hx] at h; exact h
      · rw [if_neg hb, List.lookup_cons, hx] at h; exact h
/-- a block is entered: its frame at C (the accumulator stands apart) -/
theorem Inv.block (I : Inv X pins σ H s) (S : CompScope out sc X.N N ms) (ho : X.env.scope = out) {C : Addr} {ex : List Addr} {t' : Nat} {h1 : Heap} {m : Str → Option Value} (hex : ∀ b ∈ ex, FpOk X pins H b) (hlt : ∀ b ∈ ex, b < s.heap.objs.size)
    (hC : s.heap.objs.size ≤ C) (hn : h1.Ns C m) (kp : ∀ b o, s.heap.get? b = some o → h1.get? b = some o) : Inv (cxComp X sc N C ex s H) [] (maskS ms σ) H { s with heap := h1, toks := t' } := by
  have hcells := S.cells ho I.ok
  have clk : ∀ x c, (clos X.env.cells sc.names []).lookup x = some c → X.env.cells.lookup x = some c := clos_lookup sc.names [] hcells (fun x c e => by simp at e)
  have seen : ∀ x, ((relabel sc X.env).names.lookup x = some .cell ∨ (relabel sc X.env).names.lookup x = some .free) → sc.names.lookup x = some .free := fun x hx => by
    rcases hx with z | z
    · exact relabel_lookup S.nocell z (.inl rfl)
    · exact relabel_lookup S.nocell z (.inr rfl)
  have hasC : ∀ x, sc.names.lookup x = some .free → ∃ c, (clos X.env.cells sc.names []).lookup x = some c := fun x hx => clos_has sc.names [] x (.inl (lookup_mem hx))
  have ok : (cxComp X sc N C ex s H).Ok := by
    refine ⟨I.ok.mod, S.kind, I.ok.glob, I.ok.blt, hC, fun x y c e1 e2 => I.ok.inj x y c (clk x c e1) (clk y c e2), fun x hx => hasC x (seen x hx), fun x c e => (by cases e), I.ok.hd, I.ok.frames, .inl rfl, fun b hb => ⟨?_, fun x c e => (hex b hb).2.2.2.2.1 x c (clk x c e)⟩, I.bs, ?_, fun b o e hb => ?_, fun b hb hb' => ?_, I.stack, I.stkFree⟩
    · exact Nat.ne_of_lt (Nat.lt_of_lt_of_le (hlt b hb) hC)
    · exact Nat.le_trans I.ok.bsz I.sz
    · rcases (hex b hb).2.2.2.1 with z | z
      · exact I.ok.noex b o e z
      · exact absurd (Nat.lt_of_lt_of_le (Heap.lt_size (I.ok.bs b o e).1) z) (Nat.lt_irrefl _)
    · rcases List.mem_cons.mp (I.stkSub b hb') with z | z
      · exact (hex b hb).2.1 z
      · exact (hex b hb).2.2.1 z
  obtain ⟨m0, _, hl0⟩ := I.loc
  refine ⟨ok, rfl, I.bare, Un.kept kp, ⟨m, hn, fun i x v e1 e2 e3 => ?_⟩, fun x c e => ?_, I.hok.fresh hC, fun x c e => I.freeC x c (clk x c e), fun p hp => absurd hp (by show p ∉ ([] ++ [] : List (Addr × Obj)); simp), I.hok.kept kp, ?_⟩
  · obtain ⟨g1, g2⟩ := maskS_get e2
    obtain ⟨g3, g4⟩ := okMask_at S.mask e1 g1
    have e3 : (relabel sc X.env).names.lookup x = some .local ∨ (relabel sc X.env).names.lookup x = some .cell ∨ (relabel sc X.env).names.lookup x = some .free := e3
    rcases e3 with z | z
    · exact absurd (relabel_local z) g4
    · have q := seen x z
      have w := S.fre (x, .free) (lookup_mem q) rfl
      have w : X.env.scope.names.lookup x = some .cell ∨ X.env.scope.names.lookup x = some .free := by rw [ho]; exact w
      obtain ⟨u, r, l⟩ := hl0 i x v g3 g2 (.inr w)
      refine ⟨u, r, ?_⟩
      rcases l with ⟨l, _⟩ | ⟨_, c, hc, o, hco, hcd⟩
      · have l : X.env.scope.names.lookup x = some .local := l
        rcases w with w | w <;> (rw [l] at w; cases w)
      · obtain ⟨c', hc'⟩ := hasC x q
        have e : c' = c := Option.some.inj ((clk x c' hc').symm.trans hc)
        subst e
        exact .inr ⟨z, c', hc', o, kp _ _ hco, hcd⟩
  · obtain ⟨v, o, hco, hcd⟩ := I.cell x c (clk x c e)
    exact ⟨v, o, kp _ _ hco, hcd⟩
  · rw [maskS_length, okMask_len S.mask]; rfl
variable {elt iter tg : Expr} {ifs : List Expr} {pos : Pos} {wi : TI} {g : TG} {tc : TT} {te : TE} {ks : List Nat}
/-- the block runs: RR is what is wanted at its end -/
theorem comp_core {E : Value → Shared → Prop} {RR : Value → Addr → Result → Shared → Prop} {it : Addr} {fp : List Addr} {tn : Nat → Heap → Prop} {J : It} {Qv : VK} (S : CompScope out sc X.N N ms) (ho : X.env.scope = out) (hc : X.calm = true) (hks : ∀ k ∈ ks, ms[k]? = some false) (hst : Sets g ks)
    (hg : ∀ C ex s H, PG (cxComp X sc N C ex s H) tg g) (ht : ∀ C ex s H, PTs (cxComp X sc N C ex s H) ifs tc) (he : ∀ C ex s H, PE (cxComp X sc N C ex s H) elt te)
    (I : Inv X pins σ H s) (T : Turn X.prog X.w X.K tg J fp it tn) (st0 : tn 0 s.heap) (f0 : ∀ b ∈ fp, FpOk X pins H b)
    (h : ∃ W : Nat → Nat → List V → Hp → Prop, (∃ m, W 0 m [] H) ∧ ∀ i m ys H, W i m ys H →
      (J.stop i H ∧ ∀ D, H D = none → Qv (.ref D) (upd H D (.lst ys))) ∨
      (J.go i H ∧ ys.length < sizeLine ∧ ∃ N : List V → Hp → Prop, (∀ ys' H', N ys' H' → ∃ m', m' < m ∧ W (i + 1) m' ys' H') ∧
        ∀ x H', J.yld i H x H' → g x (maskS ms σ) H' fun σ2 H2 => tc σ2 H2 fun b H3 => if b = true then te σ2 H3 fun v H4 => N (ys ++ [v]) H4 else N ys H3))
    (hRR : ∀ D C H' s' m', Inv X pins σ H' s' → H' C = none → s.heap.objs.size ≤ C → s'.heap.Ns C m' → Qv (.ref D) H' → RR (.ref D) C (.ok .next) s') :
    wpAny (model X.prog X.w) X.A (newList []) (fun acc s₃ => wpAny (model X.prog X.w) X.A (newFunctionEnv sc X.env.globals (clos X.env.cells sc.names []) [] X.env.qual none .none (some X.env)) (fun cenv s₄ =>
      codeAny (model X.prog X.w) X.A (.compStart (.ListComp elt [⟨tg, iter, ifs, 0⟩] sc pos) 0 (.ref it) acc { cenv with scope := relabel sc X.env }) (RR acc cenv.locals) s₄) E s₃) E s := by
  obtain ⟨W, ⟨m0, w0⟩, turn⟩ := h
  refine wpAny_newObj_type (wpAny_newFunctionEnv S.nocell (by intro y hy; simp at hy) (fun h₁ hns₁ hsb₁ => ?_) S.kind)
  dsimp only at hns₁ hsb₁ ⊢
  generalize hH2 : s.heap.push { cls := .type "list", dict := none, data := .seq ([] : List Value).toArray } = H2 at hns₁ hsb₁ ⊢
  generalize hDe : s.heap.objs.size = D at hns₁ hsb₁ ⊢
  generalize hCe : H2.objs.size = C at hns₁ hsb₁ ⊢
  have hCD : C = D + 1 := by rw [← hCe, ← hH2, Heap.size_push, hDe]
  have hDs : s.heap.objs.size ≤ D := Nat.le_of_eq hDe
  have hCs : s.heap.objs.size ≤ C := by omega
  have hDC : D ≠ C := by omega
  have below : ∀ b, b < s.heap.objs.size → b ≠ C ∧ b ≠ D := fun b hb => ⟨by omega, by omega⟩
  have old : ∀ b o, s.heap.get? b = some o → h₁.get? b = some o := fun b o e => hsb₁.extBut b o (below b (Heap.lt_size e)).1 (Heap.get?_push_of_some _ (hH2 ▸ Heap.get?_push_of_some _ e))
  have objD : h₁.get? D = some { cls := .type "list", dict := none, data := .seq ([] : List Value).toArray } := hsb₁.extBut _ _ hDC (Heap.get?_push_of_some _ (hH2 ▸ hDe ▸ Heap.get?_push_size _ rfl))
  have flt : ∀ b ∈ fp, b < s.heap.objs.size := fun b hb => by
    obtain ⟨o, e, _⟩ := T.obj 0 _ st0 b hb
    exact Heap.lt_size e
  have hcells := S.cells ho I.ok
  have clk : ∀ x c, (clos X.env.cells sc.names []).lookup x = some c → c < s.heap.objs.size := fun x c e => by
    obtain ⟨v, o, hco, _⟩ := I.cell x c (clos_lookup sc.names [] hcells (fun x c e => by simp at e) x c e)
    exact Heap.lt_size hco
  generalize hX : cxComp X sc N C fp s H = Y
  have hgY : PG Y tg g := hX ▸ hg C fp s H
  have htY : PTs Y ifs tc := hX ▸ ht C fp s H
  have heY : PE Y elt te := hX ▸ he C fp s H
  have Yprog : Y.prog = X.prog := by rw [← hX]; rfl
  have Yw : Y.w = X.w := by rw [← hX]; rfl
  have YK : Y.K = X.K := by rw [← hX]; rfl
  have Ycalm : Y.calm = true := by rw [← hX]; exact hc
  have YA : Y.A = X.A := by rw [← hX]; rfl
  have Yxe : Y.xe = fun _ _ => False := by rw [← hX]; rfl
  have Ypn : Y.pn = [] := by rw [← hX]; rfl
  have Yex : Y.ex = fp := by rw [← hX]; rfl
  have Ys0 : Y.s₀ = s := by rw [← hX]; rfl
  have YH0 : Y.H₀ = H := by rw [← hX]; rfl
  have Yfs : Y.fs = frs X.stack := by rw [← hX]; rfl
  have YL : Y.env.locals = C := by rw [← hX]; rfl
  have Ycl : Y.env.cells = clos X.env.cells sc.names [] := by rw [← hX]; rfl
  have Yenv : Y.env = { (newEnv sc C X.env.globals (clos X.env.cells sc.names []) X.env.qual none .none (some X.env) 0) with scope := relabel sc X.env } := by rw [← hX]; rfl
  have IY0 : ∀ t', Inv Y [] (maskS ms σ) H { s with heap := h₁, toks := t' } := fun t' => by rw [← hX]; exact I.block S ho f0 flt hCs hns₁ old
  have fpY : ∀ {H' : Hp} {ps : List (Addr × Obj)}, (∀ b ∈ fp, H' b = none) → (∀ p ∈ ps, p.1 = D) → ∀ b ∈ fp, FpOk Y ps H' b := fun {H' ps} hn hp b hb => by
    refine ⟨hn b hb, by rw [YL]; exact (below b (flt b hb)).1, fun z => ?_, .inl (by rw [Yex]; exact hb), fun x c e z => ?_, fun p hp' z => ?_⟩
    · rw [Yfs] at z
      rcases List.mem_cons.mp (I.stkSub b z) with y | y
      · exact (f0 b hb).2.1 y
      · exact (f0 b hb).2.2.1 y
    · rw [Ycl] at e
      exact (f0 b hb).2.2.2.2.1 x c (clos_lookup sc.names [] hcells (fun x c e => by simp at e) x c e) z
    · rw [Ypn] at hp'
      exact (below b (flt b hb)).2 (z.symm.trans (hp p hp'))
  have dY : ∀ {H' : Hp} {ps : List (Addr × Obj)}, H' D = none → (∀ p ∈ ps, p.1 ∈ fp) → FpOk Y ps H' D := fun {H' ps} hn hp => by
    refine ⟨hn, by rw [YL]; exact hDC, fun z => ?_, .inr (by rw [Ys0]; exact hDs), fun x c e z => ?_, fun p hp' z => ?_⟩
    · rw [Yfs] at z
      have q : H D = none := I.stkFree D z
      rcases List.mem_cons.mp (I.stkSub D z) with y | y
      · exact (below _ I.lt).2 y.symm
      · exact I.nofs hDs y
    · rw [Ycl] at e
      exact (below c (clk x c e)).2 z
    · rw [Ypn] at hp'
      exact (below p.1 (flt p.1 (hp p hp'))).2 z
  have wk : ∀ {σ6 : St}, (σ6.length = (maskS ms σ).length ∧ ∀ i, i ∉ ks → σ6[i]? = (maskS ms σ)[i]?) → (∀ (i : Nat) v, (maskS ms σ)[i]? = some (some v) → σ6[i]? = some (some v)) := fun {σ6} hf i v e => by
    rw [hf.2 i (fun z => ?_)]
    · exact e
    · have q := (maskS_get e).1
      rw [hks i z] at q
      cases q
  have loop : ∀ t', codeAny (model X.prog X.w) X.A (.compLoop (.ListComp elt [⟨tg, iter, ifs, 0⟩] sc pos) 0 (.ref it) (.ref D) Y.env) (RR (.ref D) C) { s with heap := h₁, toks := t' } := fun t' => by
    refine codeAny_compLoop_own (fun n s' => ∃ i ys H', Inv Y [] (maskS ms σ) H' s' ∧ tn i s'.heap ∧ (∀ b ∈ fp, H' b = none) ∧ H' D = none ∧ (∃ (its : List Value) (n : Nat), Vals ys its ∧ s'.heap.get? D = some { cls := .type "list", data := .seq its.toArray n }) ∧ ys.length ≤ sizeLine ∧ W i n ys H') ?_ m0
      ⟨0, [], H, IY0 t', T.keep _ _ _ st0 (fun b _ o e => old b o e), fun b hb => (f0 b hb).1, I.hok.fresh hDs, ⟨[], _, .nil, objD⟩, Nat.zero_le _, w0⟩
    rintro n s3 ⟨i, ys, H3, I3, st3, fr3, hD3, ⟨its, nn, vs3, ob3⟩, hl3, w3⟩
    rcases turn i n ys H3 w3 with ⟨stop, qn⟩ | ⟨go, hlen, NN, hN, step⟩
    · have z := T.done Y Yprog Yw YK Ycalm i (pinsAt [D] s3.heap) s3 (maskS ms σ) H3 (fun _ _ => False) (I3.pinned (fp := [D]) (pins := []) (fun b hb => ?c1) (fun b hb => ?c2)) (fpY fr3 (fun p hp => ?c3)) st3 stop
      case c1 => rw [List.mem_singleton.mp hb]; exact dY hD3 (fun p hp => absurd hp (by simp))
      case c2 => rw [List.mem_singleton.mp hb]; exact ⟨_, ob3, fun v e => by cases e⟩
      case c3 => exact List.mem_singleton.mp (of_pinsAt hp).1
      rw [YA] at z
      refine wpAny_mono z (fun r s4 hr4 => ?_) fun _ _ f => f
      obtain ⟨hr, I4⟩ := hr4
      subst hr
      obtain ⟨obD, hD4, _⟩ := I4.pin (D, _) (List.mem_append_right _ (mem_pinsAt (List.mem_singleton.mpr rfl) ob3))
      have b4 := I4.base
      rw [Yfs, Yex, YH0, Ys0] at b4
      have hok4 := I4.hok
      rw [Yprog, Yw] at hok4
      have I5 : Inv X pins σ H3 s4 := I.call' (ch := fp) (by rw [I4.os, Ys0]) b4 hok4 I4.bare (fun b hb => ⟨(f0 b hb).2.2.2.1, (f0 b hb).2.1, (f0 b hb).2.2.2.2.1, (f0 b hb).2.2.2.2.2⟩)
      have nC : H3 C = none := by rw [← YL]; exact I4.free
      obtain ⟨m4, hm4, _⟩ := I4.loc
      rw [YL] at hm4
      refine hRR D C (upd H3 D (.lst ys)) s4 m4 (I5.track hD4 (Nat.le_trans I.sz hDs) (fun z => (below _ I.lt).2 z.symm) (fun x c e => ?_) (fun p hp => ?_) ⟨hl3, its, nn, vs3, obD⟩) (by rw [upd_ne (Ne.symm hDC)]; exact nC) hCs hm4 (qn D hD4)
      · obtain ⟨v, o, hco, _⟩ := I.cell x c e
        exact (below c (Heap.lt_size hco)).2
      · exact (below _ (Heap.lt_size (I.pin p hp).1)).2
    · have z := T.item Y Yprog Yw YK Ycalm i (pinsAt [D] s3.heap) s3 (maskS ms σ) H3 (fun _ _ => False) (I3.pinned (fp := [D]) (pins := []) (fun b hb => ?c1) (fun b hb => ?c2)) (fpY fr3 (fun p hp => ?c3)) st3 go
      case c1 => rw [List.mem_singleton.mp hb]; exact dY hD3 (fun p hp => absurd hp (by simp))
      case c2 => rw [List.mem_singleton.mp hb]; exact ⟨_, ob3, fun v e => by cases e⟩
      case c3 => exact List.mem_singleton.mp (of_pinsAt hp).1
      rw [YA] at z
      refine wpAny_mono z (fun r s4 hr4 => ?_) fun _ _ f => f
      obtain ⟨u, hr, h4⟩ := hr4
      subst hr
      refine wpAny_mono h4 (fun _ s5 h5 => ?_) fun _ _ f => f
      obtain ⟨x, H5, I5, r5, y5, st5, fr5⟩ := h5
      have I5' := I5.pinned (fpY fr5 (fun p hp => List.mem_singleton.mp (of_pinsAt hp).1)) (T.obj _ _ st5)
      have q5 := hst x (maskS ms σ) H5 _ (fun σ2 H2 => (σ2.length = (maskS ms σ).length ∧ ∀ i, i ∉ ks → σ2[i]? = (maskS ms σ)[i]?) ∧ (tc σ2 H2 fun b H3 => if b = true then te σ2 H3 fun v H4 => NN (ys ++ [v]) H4 else NN ys H3)) (step x H5 y5) (fun σ2 H2 f q => ⟨f, q⟩)
      have z5 := hgY _ s5 (maskS ms σ) H5 x u _ I5' r5 q5
      rw [Yprog, Yw, YA, Yxe] at z5
      refine wpAny_mono z5 (fun _ s6 h6 => ?_) fun _ _ f => f
      obtain ⟨σ6, H6, I6, f6, q6⟩ := h6
      have z6 := htY _ s6 σ6 H6 _ I6 q6
      rw [Yprog, Yw, YA, Yxe] at z6
      refine wpAny_mono z6 (fun b s7 h7 => ?_) fun _ _ f => f
      obtain ⟨H7, I7, q7⟩ := h7
      -- what the pins say behind
      have back : ∀ {H8 : Hp} {s8 : Shared}, Inv Y (([] ++ pinsAt [D] s3.heap) ++ pinsAt fp s5.heap) σ6 H8 s8 → (∀ b ∈ fp, H8 b = none) ∧ H8 D = none ∧ s8.heap.get? D = some { cls := .type "list", data := .seq its.toArray nn } ∧ (∀ b ∈ fp, ∀ o, s5.heap.get? b = some o → s8.heap.get? b = some o) ∧ Inv Y (pinsAt fp s5.heap) σ6 H8 s8 := fun {H8 s8} I8 => by
        obtain ⟨obD, hD8, _⟩ := I8.pin (D, _) (List.mem_append_right _ (List.mem_append_left _ (List.mem_append_right _ (mem_pinsAt (List.mem_singleton.mpr rfl) ob3))))
        refine ⟨fun b hb => ?_, hD8, obD, fun b hb o e => (I8.pin (b, o) (List.mem_append_right _ (List.mem_append_right _ (mem_pinsAt hb e)))).1, I8.pins_of fun p hp => I8.pin p (List.mem_append_right _ (List.mem_append_right _ hp))⟩
        obtain ⟨o, e, _⟩ := T.obj _ _ st5 b hb
        exact (I8.pin (b, o) (List.mem_append_right _ (List.mem_append_right _ (mem_pinsAt hb e)))).2.1
      cases b with
      | false =>
        have q7 : NN ys H7 := q7
        obtain ⟨m', hm', w'⟩ := hN _ _ q7
        obtain ⟨k1, k2, k3, k4, k5⟩ := back I7
        show ∃ m, m < n ∧ _
        exact ⟨m', hm', i + 1, ys, H7, (k5.pins_of (fun p hp => absurd hp (by simp))).weak f6.1.symm (wk f6), T.keep _ _ _ st5 k4, k1, k2, ⟨its, nn, vs3, k3⟩, hl3, w'⟩
      | true =>
        have q7 : te σ6 H7 fun v H4 => NN (ys ++ [v]) H4 := q7
        have z7 := heY _ s7 σ6 H7 _ I7 q7
        rw [Yprog, Yw, YA, Yxe] at z7
        show wpAny _ _ _ _ _ _
        refine wpAny_mono z7 (fun v s8 h8 => ?_) fun _ _ f => f
        obtain ⟨v8, H8, I8, r8, q8⟩ := h8
        obtain ⟨k1, k2, k3, k4, k5⟩ := back I8
        have I9 : Inv Y (pinsAt fp s5.heap) σ6 (upd H8 D (.lst ys)) s8 := k5.track k2 (by rw [Ys0]; exact hDs) (by rw [YL]; exact hDC) (fun x c e z => (below c (clk x c (by rw [Ycl] at e; exact e))).2 z) (fun p hp => by
          rw [Ypn] at hp
          exact (below p.1 (flt p.1 (of_pinsAt hp).1)).2) ⟨hl3, its, nn, vs3, k3⟩
        have z8 := mt_append (X := Y) (pinsAt fp s5.heap) s8 σ6 (upd H8 D (.lst ys)) (.ref D) [v8] (.ref D) [v] (fun _ H9 => H9 = upd (upd H8 D (.lst ys)) D (.lst (ys ++ [v8]))) I9 rfl (.cons r8 .nil) ⟨D, ys, v8, rfl, rfl, upd_same, hlen, rfl⟩
        rw [Yprog, Yw, YA, Yxe] at z8
        refine wpAny_mono z8 (fun _ s9 h9 => ?_) fun _ _ f => f
        obtain ⟨_, H9, I9', _, e9⟩ := h9
        subst e9
        rw [upd_upd] at I9'
        have I10 := I9'.untrack k2
        obtain ⟨m', hm', w'⟩ := hN _ _ q8
        have ok9 : ObjOk Y.prog Y.w _ s9.heap D (.lst (ys ++ [v8])) := I9'.hok D _ upd_same
        obtain ⟨l9, its9, n9, vs9, ob9⟩ := ok9
        refine ⟨m', hm', i + 1, ys ++ [v8], H8, (I10.pins_of (fun p hp => absurd hp (by simp))).weak f6.1.symm (wk f6), T.keep _ _ _ st5 (fun b hb o e => ?_), k1, k2, ⟨its9, n9, vs9, ob9⟩, l9, w'⟩
        exact (I10.pin (b, o) (List.mem_append_right _ (mem_pinsAt hb e))).1
  have z := fun t' => codeAny_compStart_list (loop t') (T.self _ 0 _ _ _ (T.keep _ _ _ st0 (fun b _ o e => old b o e)) (loop t'))
  rw [Yenv] at z
  exact z _

/-- [elt for tg in iter (if c)] -/
theorem pe_comp {NX : List Str} (S : CompScope out sc NX N ms) (ho : X.env.scope = out) (hnx : X.N = NX) (hc : X.calm = true) (hi : PI X tg iter wi) (hst : Sets g ks) (hks : ∀ k ∈ ks, ms[k]? = some false)
    (hg : ∀ C ex s H, PG (cxComp X sc N C ex s H) tg g) (ht : ∀ C ex s H, PTs (cxComp X sc N C ex s H) ifs tc) (he : ∀ C ex s H, PE (cxComp X sc N C ex s H) elt te)
    (hs : ∀ x, foldedSetIterable iter X.env x = pure x := by intro _; rfl) : PE X (.ListComp elt [⟨tg, iter, ifs, 0⟩] sc pos) (tComp ms wi g tc te) := by
  intro pins s σ H Q I h
  subst hnx
  rw [eval_ListComp]
  refine wpAny_comprehension_free (use := none) (g := ⟨tg, iter, ifs, 0⟩) (gs := []) rfl hs (closureFor_eq (S.cells ho I.ok)) S.kind S.own (thn (hi pins s σ H _ I h) fun v s1 h1 => thn h1 fun itv s2 h2 => ?_)
  obtain ⟨it, fp, tn, J, H2, e, I2, T, st2, f2, hW⟩ := h2
  subst e
  refine comp_core (Qv := Q) S ho hc hks hst hg ht he I2 T st2 f2 hW ?_
  intro D C H' s' m' I' nC hC hm q
  refine ⟨m', hm, fun h' sb => ⟨.ref D, H', ?_, rfl, q⟩⟩
  exact I'.turned (t' := s'.toks) (it := C) (fun b o hb e => sb.extBut b o hb e) nC (Ne.symm (Nat.ne_of_lt (Nat.lt_of_lt_of_le I2.lt hC))) (.inr (Nat.le_trans I2.sz hC)) (fun x c e => by
    obtain ⟨v, o, hco, _⟩ := I2.cell x c e
    exact Nat.ne_of_lt (Nat.lt_of_lt_of_le (Heap.lt_size hco) hC)) (fun p hp => Nat.ne_of_lt (Nat.lt_of_lt_of_le (Heap.lt_size (I2.pin p hp).1) hC))
/-- name = [elt for tg in iter (if c)] -/
theorem ps_comp {NX : List Str} {i : Nat} {y : Str} {py spos : Pos} (S : CompScope out sc NX N ms) (ho : X.env.scope = out) (hnx : X.N = NX) (hc : X.calm = true) (hN : X.N.Nodup) (hy : X.N[i]? = some y) (hx : Loc X.env.scope y) (hi : PI X tg iter wi) (hst : Sets g ks) (hks : ∀ k ∈ ks, ms[k]? = some false)
    (hg : ∀ C ex s H, PG (cxComp X sc N C ex s H) tg g) (ht : ∀ C ex s H, PTs (cxComp X sc N C ex s H) ifs tc) (he : ∀ C ex s H, PE (cxComp X sc N C ex s H) elt te)
    (hsw : swapsWith (.ListComp elt [⟨tg, iter, ifs, 0⟩] sc pos) (some (.Name y py)) spos.line X.env = pure true)
    (hs : ∀ x, foldedSetIterable iter X.env x = pure x := by intro _; rfl) (hf : X.fn y = true ∨ X.env.scope.names.lookup y = some .local := by first | exact .inl rfl | exact .inr rfl | assumption) :
    PS X (.Assign [.Name y py] (.ListComp elt [⟨tg, iter, ifs, 0⟩] sc pos) spos) (tAsg (tComp ms wi g tc te) (gName i)) := by
  intro pins s σ H Dn I h
  subst hnx
  rw [exec_Assign_Name_used _ _ _ _ hsw]
  refine wpAny_bind (wpAny_standAt (wpAny_bind ?_))
  show wpAny _ X.A (do let _ ← comprehension (.ListComp elt [⟨tg, iter, ifs, 0⟩] sc pos) sc X.env _ (newList []) false (eval iter X.env) (some (assign (.Name y py) X.env))) _ _ s
  refine wpAny_bind (wpAny_mono (wpAny_comprehension_free (use := some (assign (.Name y py) X.env)) (g := ⟨tg, iter, ifs, 0⟩) (gs := []) (Q := fun _ s' => SP X pins Dn .next s') rfl hs (closureFor_eq (S.cells ho I.ok)) S.kind S.own (thn (hi pins s σ H _ I h) fun v s1 h1 => thn h1 fun itv s2 h2 => ?_))
    (fun _ s' hq => wpAny_pure (wpAny_pure hq)) fun _ _ e => e)
  obtain ⟨it, fp, tn, J, H2, e, I2, T, st2, f2, hW⟩ := h2
  subst e
  refine comp_core (Qv := fun x H1 => gName i x σ H1 Dn.nx) S ho hc hks hst hg ht he I2 T st2 f2 hW ?_
  intro D C H' s' m' I' nC hC hm q
  have cne : ∀ x c, X.env.cells.lookup x = some c → c ≠ C := fun x c e => by
    obtain ⟨v, o, hco, _⟩ := I2.cell x c e
    exact Nat.ne_of_lt (Nat.lt_of_lt_of_le (Heap.lt_size hco) hC)
  have lne : C ≠ X.env.locals := Ne.symm (Nat.ne_of_lt (Nat.lt_of_lt_of_le I2.lt hC))
  show wpAny _ X.A (assign (.Name y py) X.env (.ref D)) _ _ _
  refine wpAny_assign_Name (store_ok2 (v := .ref D) I' hN hy hx rfl (fun s'' I'' hsb => ?_) hf)
  obtain ⟨a, sba, ha⟩ := hsb
  have aC : C ≠ a := by
    rcases ha with z | z
    · rw [z]; exact lne
    · exact Ne.symm (cne y a z)
  refine ⟨m', hm.sameBut sba aC, fun h' sb => ⟨_, H', ?_, q⟩⟩
  exact I''.turned (t' := s''.toks) (it := C) (fun b o hb e => sb.extBut b o hb e) nC lne (.inr (Nat.le_trans I2.sz hC)) cne (fun p hp => Nat.ne_of_lt (Nat.lt_of_lt_of_le (Heap.lt_size (I2.pin p hp).1) hC))
end

/-! ### the forms one uses: what holds ahead of the turn i, of the items made and the heap -/
theorem comp_list {K : PySem.W.Frag} {a : Addr} {xs : List V} {B : V → List V → (List V → Hp → Prop) → Hp → Prop} {Z : List V → Hp → Prop} {H : Hp} (Pv : Nat → List V → Hp → Prop) (h0 : Pv 0 [] H) (hl : ∀ i ys H, i ≤ xs.length → Pv i ys H → SqL K H a xs)
    (hy : ∀ i ys H, i < xs.length → Pv i ys H → ys.length < sizeLine) (hs : ∀ i x ys H, xs[i]? = some x → Pv i ys H → B x ys (Pv (i + 1)) H) (hd : ∀ ys H, Pv xs.length ys H → Z ys H) :
    ∃ W : Nat → Nat → List V → Hp → Prop, (∃ m, W 0 m [] H) ∧ ∀ i m ys H, W i m ys H →
      ((Itl K a).stop i H ∧ Z ys H) ∨ ((Itl K a).go i H ∧ ys.length < sizeLine ∧ ∃ N : List V → Hp → Prop, (∀ ys' H', N ys' H' → ∃ m', m' < m ∧ W (i + 1) m' ys' H') ∧ ∀ x H', (Itl K a).yld i H x H' → B x ys N H') := by
  refine ⟨fun i m ys H => m = xs.length - i ∧ i ≤ xs.length ∧ Pv i ys H, ⟨xs.length, by simp, Nat.zero_le _, h0⟩, ?_⟩
  rintro i m ys H ⟨rfl, hi, p⟩
  have q := hl i ys H hi p
  by_cases hlt : i < xs.length
  · refine .inr ⟨⟨xs, xs[i], q, by simp [hlt]⟩, hy i ys H hlt p, Pv (i + 1), fun ys' H' p' => ⟨xs.length - (i + 1), by omega, rfl, hlt, p'⟩, fun x H' y => ?_⟩
    obtain ⟨e, y⟩ := y
    subst e
    exact hs i x ys _ (y xs q) p
  · have e : i = xs.length := by omega
    subst e
    exact .inl ⟨⟨xs, q, Nat.le_refl _⟩, hd ys H p⟩
theorem comp_tup {K : PySem.W.Frag} {a : Addr} {xs : List V} {B : V → List V → (List V → Hp → Prop) → Hp → Prop} {Z : List V → Hp → Prop} {H : Hp} (Pv : Nat → List V → Hp → Prop) (h0 : Pv 0 [] H) (hl : ∀ i ys H, i ≤ xs.length → Pv i ys H → SqT K H a xs)
    (hy : ∀ i ys H, i < xs.length → Pv i ys H → ys.length < sizeLine) (hs : ∀ i x ys H, xs[i]? = some x → Pv i ys H → B x ys (Pv (i + 1)) H) (hd : ∀ ys H, Pv xs.length ys H → Z ys H) :
    ∃ W : Nat → Nat → List V → Hp → Prop, (∃ m, W 0 m [] H) ∧ ∀ i m ys H, W i m ys H →
      ((Itt K a).stop i H ∧ Z ys H) ∨ ((Itt K a).go i H ∧ ys.length < sizeLine ∧ ∃ N : List V → Hp → Prop, (∀ ys' H', N ys' H' → ∃ m', m' < m ∧ W (i + 1) m' ys' H') ∧ ∀ x H', (Itt K a).yld i H x H' → B x ys N H') := by
  refine ⟨fun i m ys H => m = xs.length - i ∧ i ≤ xs.length ∧ Pv i ys H, ⟨xs.length, by simp, Nat.zero_le _, h0⟩, ?_⟩
  rintro i m ys H ⟨rfl, hi, p⟩
  have q := hl i ys H hi p
  by_cases hlt : i < xs.length
  · refine .inr ⟨⟨xs, xs[i], q, by simp [hlt]⟩, hy i ys H hlt p, Pv (i + 1), fun ys' H' p' => ⟨xs.length - (i + 1), by omega, rfl, hlt, p'⟩, fun x H' y => ?_⟩
    obtain ⟨e, y⟩ := y
    subst e
    exact hs i x ys _ (y xs q) p
  · have e : i = xs.length := by omega
    subst e
    exact .inl ⟨⟨xs, q, Nat.le_refl _⟩, hd ys H p⟩
theorem comp_range {lo : Int} {n : Nat} {B : V → List V → (List V → Hp → Prop) → Hp → Prop} {Z : List V → Hp → Prop} {H : Hp} (Pv : Nat → List V → Hp → Prop) (h0 : Pv 0 [] H)
    (hy : ∀ i ys H, i < n → Pv i ys H → ys.length < sizeLine) (hs : ∀ i ys H, i < n → Pv i ys H → B (.int (lo + i)) ys (Pv (i + 1)) H) (hd : ∀ ys H, Pv n ys H → Z ys H) :
    ∃ W : Nat → Nat → List V → Hp → Prop, (∃ m, W 0 m [] H) ∧ ∀ i m ys H, W i m ys H →
      ((Itr lo n).stop i H ∧ Z ys H) ∨ ((Itr lo n).go i H ∧ ys.length < sizeLine ∧ ∃ N : List V → Hp → Prop, (∀ ys' H', N ys' H' → ∃ m', m' < m ∧ W (i + 1) m' ys' H') ∧ ∀ x H', (Itr lo n).yld i H x H' → B x ys N H') := by
  refine ⟨fun i m ys H => m = n - i ∧ i ≤ n ∧ Pv i ys H, ⟨n, by simp, Nat.zero_le _, h0⟩, ?_⟩
  rintro i m ys H ⟨rfl, hi, p⟩
  by_cases hlt : i < n
  · refine .inr ⟨hlt, hy i ys H hlt p, Pv (i + 1), fun ys' H' p' => ⟨n - (i + 1), by omega, rfl, hlt, p'⟩, fun x H' y => ?_⟩
    obtain ⟨e, y⟩ := y
    subst e y
    exact hs i ys _ hlt p
  · have e : i = n := by omega
    subst e
    exact .inl ⟨Nat.le_refl _, hd ys H p⟩
end L2

set_option Elab.async false
set_option linter.all false
set_option maxRecDepth 100000
set_option maxHeartbeats 4000000
/-! DATA: None, bools, ints, texts, tuples and lists of these, however deep; ==, != and in over them -/
namespace L2
open PySem PySem.Spec PyProof.Rows

inductive Dt where
  | non | bl (b : Bool) | int (i : Int) | str (x : Str) | tup (l : List Dt) | lst (l : List Dt)

mutual
def dEq : Dt → Dt → Bool
  | .non, .non => true
  | .bl a, .bl b => a == b
  | .bl a, .int b => (if a then 1 else 0) == b
  | .int a, .bl b => a == (if b then 1 else 0)
  | .int a, .int b => a == b
  | .str a, .str b => a == b
  | .tup l, .tup m => dEqs l m
  | .lst l, .lst m => dEqs l m
  | _, _ => false
def dEqs : List Dt → List Dt → Bool
  | [], [] => true
  | a :: l, b :: m => dEq a b && dEqs l m
  | _, _ => false
end
mutual
theorem dEq_refl : ∀ d : Dt, dEq d d = true
  | .non => by rw [dEq]
  | .bl a => by rw [dEq]; exact beq_self_eq_true a
  | .int a => by rw [dEq]; exact beq_self_eq_true a
  | .str a => by rw [dEq]; exact beq_self_eq_true a
  | .tup l => by rw [dEq]; exact dEqs_refl l
  | .lst l => by rw [dEq]; exact dEqs_refl l
theorem dEqs_refl : ∀ l : List Dt, dEqs l l = true
  | [] => by rw [dEqs]
  | a :: l => by rw [dEqs, dEq_refl a, dEqs_refl l]; rfl
end
mutual
def dep : Dt → Nat
  | .tup l => deps l + 1
  | .lst l => deps l + 1
  | _ => 0
def deps : List Dt → Nat
  | [] => 0
  | a :: l => max (dep a) (deps l)
end
mutual
def Is (K : PySem.W.Frag) (H : Hp) : Dt → V → Prop
  | .non, v => v = .non
  | .bl b, v => v = .bl b
  | .int i, v => v = .int i
  | .str x, v => v = .str x
  | .tup l, v => ∃ a xs, v = .ref a ∧ SqT K H a xs ∧ Iss K H l xs
  | .lst l, v => ∃ a xs, v = .ref a ∧ SqL K H a xs ∧ Iss K H l xs
def Iss (K : PySem.W.Frag) (H : Hp) : List Dt → List V → Prop
  | [], vs => vs = []
  | d :: l, vs => ∃ v r, vs = v :: r ∧ Is K H d v ∧ Iss K H l r
end
theorem Iss.length {K : PySem.W.Frag} {H : Hp} : ∀ {l : List Dt} {vs : List V}, Iss K H l vs → vs.length = l.length
  | [], vs, h => by rw [Iss] at h; rw [h]; rfl
  | d :: l, vs, h => by
    rw [Iss] at h
    obtain ⟨v, r, rfl, _, h2⟩ := h
    rw [List.length_cons, List.length_cons, Iss.length h2]
theorem Iss.nil {K : PySem.W.Frag} {H : Hp} : Iss K H [] [] := by rw [Iss]
theorem Iss.cons {K : PySem.W.Frag} {H : Hp} {d : Dt} {l : List Dt} {v : V} {r : List V} (h1 : Is K H d v) (h2 : Iss K H l r) : Iss K H (d :: l) (v :: r) := by rw [Iss]; exact ⟨v, r, rfl, h1, h2⟩
theorem Iss.get {K : PySem.W.Frag} {H : Hp} : ∀ {l : List Dt} {vs : List V} {i : Nat} {v : V}, Iss K H l vs → vs[i]? = some v → ∃ d, l[i]? = some d ∧ Is K H d v
  | [], vs, i, v, h, e => by rw [Iss] at h; rw [h] at e; simp at e
  | d :: l, vs, 0, v, h, e => by
    rw [Iss] at h
    obtain ⟨w, r, rfl, h1, h2⟩ := h
    have e : w = v := Option.some.inj e
    subst e
    exact ⟨d, rfl, h1⟩
  | d :: l, vs, i + 1, v, h, e => by
    rw [Iss] at h
    obtain ⟨w, r, rfl, h1, h2⟩ := h
    exact Iss.get h2 (i := i) e
theorem Iss.snoc {K : PySem.W.Frag} {H : Hp} {d : Dt} {v : V} (h1 : Is K H d v) : ∀ {l : List Dt} {vs : List V}, Iss K H l vs → Iss K H (l ++ [d]) (vs ++ [v])
  | [], vs, h => by rw [Iss] at h; rw [h]; exact .cons h1 .nil
  | e :: l, vs, h => by
    rw [Iss] at h
    obtain ⟨w, r, rfl, h2, h3⟩ := h
    exact .cons h2 (Iss.snoc h1 h3)
theorem Iss.append {K : PySem.W.Frag} {H : Hp} : ∀ {l m : List Dt} {vs us : List V}, Iss K H l vs → Iss K H m us → Iss K H (l ++ m) (vs ++ us)
  | [], m, vs, us, h, h' => by rw [Iss] at h; rw [h]; exact h'
  | e :: l, m, vs, us, h, h' => by
    rw [Iss] at h
    obtain ⟨w, r, rfl, h2, h3⟩ := h
    exact .cons h2 (Iss.append h3 h')
/-- ints, texts: flat data -/
theorem Iss.ints {K : PySem.W.Frag} {H : Hp} : ∀ ns : List Int, Iss K H (ns.map Dt.int) (ns.map V.int)
  | [] => .nil
  | n :: ns => .cons (by rw [Is]) (Iss.ints ns)
theorem Iss.strs {K : PySem.W.Frag} {H : Hp} : ∀ ns : List Str, Iss K H (ns.map Dt.str) (ns.map V.str)
  | [] => .nil
  | n :: ns => .cons (by rw [Is]) (Iss.strs ns)
/-- data stay where lists and tuples stay -/
theorem Same.tup {K : PySem.W.Frag} {H H' : Hp} {a : Addr} {xs : List V} (e : Same H H') (h : SqT K H a xs) : SqT K H' a xs := by
  rcases h with (h | ⟨o, h⟩) | h
  · exact .inl (.inl (e _ _ h))
  · exact .inl (.inr ⟨o, e _ _ h⟩)
  · exact .inr h
mutual
theorem Is.same {K : PySem.W.Frag} {H H' : Hp} (s : Same H H') : ∀ {d : Dt} {v : V}, Is K H d v → Is K H' d v
  | .non, v, h => by rw [Is] at h ⊢; exact h
  | .bl b, v, h => by rw [Is] at h ⊢; exact h
  | .int i, v, h => by rw [Is] at h ⊢; exact h
  | .str x, v, h => by rw [Is] at h ⊢; exact h
  | .tup l, v, h => by
    rw [Is] at h ⊢
    obtain ⟨a, xs, e, h1, h2⟩ := h
    exact ⟨a, xs, e, s.tup h1, Iss.same s h2⟩
  | .lst l, v, h => by
    rw [Is] at h ⊢
    obtain ⟨a, xs, e, h1, h2⟩ := h
    exact ⟨a, xs, e, s.seq h1, Iss.same s h2⟩
theorem Iss.same {K : PySem.W.Frag} {H H' : Hp} (s : Same H H') : ∀ {l : List Dt} {vs : List V}, Iss K H l vs → Iss K H' l vs
  | [], vs, h => by rw [Iss] at h ⊢; exact h
  | d :: l, vs, h => by
    rw [Iss] at h ⊢
    obtain ⟨v, r, e, h1, h2⟩ := h
    exact ⟨v, r, e, Is.same s h1, Iss.same s h2⟩
end
/-! ### equality -/
def ej (l m : List Dt) (j : Nat) : Bool := match l[j]?, m[j]? with
  | some a, some b => dEq a b
  | _, _ => false
theorem dEqs_all : ∀ l m : List Dt, ((List.range (min l.length m.length)).all (ej l m) && l.length == m.length) = dEqs l m
  | [], [] => by rw [dEqs]; rfl
  | [], b :: m => by simp [dEqs]
  | a :: l, [] => by simp [dEqs]
  | a :: l, b :: m => by
    rw [dEqs, ← dEqs_all l m]
    have e : min (a :: l).length (b :: m).length = min l.length m.length + 1 := by simp only [List.length_cons]; omega
    rw [e, List.range_succ_eq_map, List.all_cons, List.all_map]
    have e2 : (ej (a :: l) (b :: m) ∘ Nat.succ) = ej l m := by funext j; rfl
    have e3 : ej (a :: l) (b :: m) 0 = dEq a b := rfl
    have e4 : ((a :: l).length == (b :: m).length) = (l.length == m.length) := by simp
    rw [e2, e3, e4, Bool.and_assoc]
section
variable {X : Cx} {pins : List (Addr × Obj)} {σ : St} {H : Hp} {s : Shared}
theorem Inv.tupleD {K : PySem.W.Frag} (I : Inv X pins σ H s) (hK : X.K = K) {l : List Dt} {v : V} {u : Value} (h : Is K H (.tup l) v) (r : RelV v u) : ∃ (a : Addr) (xs : List V) (its : List Value), v = .ref a ∧ u = .ref a ∧ SqT K H a xs ∧ Iss K H l xs ∧ Vals xs its ∧ s.heap.IsTuple a its.toArray := by
  subst hK
  rw [Is] at h
  obtain ⟨a, xs, rfl, h1, h2⟩ := h
  obtain ⟨its, h3, h4, _⟩ := I.tuple h1
  exact ⟨a, xs, its, rfl, r, h1, h2, h3, h4⟩
theorem Inv.listD {K : PySem.W.Frag} (I : Inv X pins σ H s) (hK : X.K = K) {l : List Dt} {v : V} {u : Value} (h : Is K H (.lst l) v) (r : RelV v u) : ∃ (a : Addr) (xs : List V) (its : List Value), v = .ref a ∧ u = .ref a ∧ SqL K H a xs ∧ Iss K H l xs ∧ Vals xs its ∧ s.heap.IsList a its.toArray := by
  subst hK
  rw [Is] at h
  obtain ⟨a, xs, rfl, h1, h2⟩ := h
  obtain ⟨its, h3, h4, _⟩ := I.list h1
  exact ⟨a, xs, its, rfl, r, h1, h2, h3, h4.isList⟩
mutual
/-- one thing is two data: they are alike -/
theorem eq_same (I : Inv X pins σ H s) : ∀ (d e : Dt) {v : V}, Is X.K H d v → Is X.K H e v → dEq d e = true
  | .tup l, .tup m, v, h1, h2 => by
    rw [Is] at h1; rw [Is] at h2
    obtain ⟨a, xs, rfl, q1, q2⟩ := h1
    obtain ⟨b, ys, e, q3, q4⟩ := h2
    cases e
    have e := I.tuple_inj q1 q3
    subst e
    rw [dEq]
    exact eqs_same I l m q2 q4
  | .lst l, .lst m, v, h1, h2 => by
    rw [Is] at h1; rw [Is] at h2
    obtain ⟨a, xs, rfl, q1, q2⟩ := h1
    obtain ⟨b, ys, e, q3, q4⟩ := h2
    cases e
    have e := I.list_inj q1 q3
    subst e
    rw [dEq]
    exact eqs_same I l m q2 q4
  | .tup l, .lst m, v, h1, h2 => by
    rw [Is] at h1; rw [Is] at h2
    obtain ⟨a, xs, rfl, q1, q2⟩ := h1
    obtain ⟨b, ys, e, q3, q4⟩ := h2
    cases e
    obtain ⟨i1, _, k1, _⟩ := I.tuple q1
    obtain ⟨i2, _, k2, _⟩ := I.list q3
    exact absurd rfl (SeqAt.ne_of_list_tuple k2.isList k1)
  | .lst l, .tup m, v, h1, h2 => by
    rw [Is] at h1; rw [Is] at h2
    obtain ⟨a, xs, rfl, q1, q2⟩ := h1
    obtain ⟨b, ys, e, q3, q4⟩ := h2
    cases e
    obtain ⟨i1, _, k1, _⟩ := I.tuple q3
    obtain ⟨i2, _, k2, _⟩ := I.list q1
    exact absurd rfl (SeqAt.ne_of_list_tuple k2.isList k1)
  | .non, e, v, h1, h2 => by
    rw [Is] at h1; subst h1
    cases e <;> rw [Is] at h2 <;> first | rfl | (exfalso; first | (cases h2; done) | (obtain ⟨_, _, z, _⟩ := h2; cases z))
  | .bl b, e, v, h1, h2 => by
    rw [Is] at h1; subst h1
    cases e <;> rw [Is] at h2 <;> first | (cases h2; rw [dEq]; exact beq_self_eq_true _) | (exfalso; first | (cases h2; done) | (obtain ⟨_, _, z, _⟩ := h2; cases z))
  | .int b, e, v, h1, h2 => by
    rw [Is] at h1; subst h1
    cases e <;> rw [Is] at h2 <;> first | (cases h2; rw [dEq]; exact beq_self_eq_true _) | (exfalso; first | (cases h2; done) | (obtain ⟨_, _, z, _⟩ := h2; cases z))
  | .str b, e, v, h1, h2 => by
    rw [Is] at h1; subst h1
    cases e <;> rw [Is] at h2 <;> first | (cases h2; rw [dEq]; exact beq_self_eq_true _) | (exfalso; first | (cases h2; done) | (obtain ⟨_, _, z, _⟩ := h2; cases z))
  | .tup l, .non, v, h1, h2 => by rw [Is] at h1; rw [Is] at h2; obtain ⟨_, _, z, _⟩ := h1; rw [h2] at z; cases z
  | .tup l, .bl _, v, h1, h2 => by rw [Is] at h1; rw [Is] at h2; obtain ⟨_, _, z, _⟩ := h1; rw [h2] at z; cases z
  | .tup l, .int _, v, h1, h2 => by rw [Is] at h1; rw [Is] at h2; obtain ⟨_, _, z, _⟩ := h1; rw [h2] at z; cases z
  | .tup l, .str _, v, h1, h2 => by rw [Is] at h1; rw [Is] at h2; obtain ⟨_, _, z, _⟩ := h1; rw [h2] at z; cases z
  | .lst l, .non, v, h1, h2 => by rw [Is] at h1; rw [Is] at h2; obtain ⟨_, _, z, _⟩ := h1; rw [h2] at z; cases z
  | .lst l, .bl _, v, h1, h2 => by rw [Is] at h1; rw [Is] at h2; obtain ⟨_, _, z, _⟩ := h1; rw [h2] at z; cases z
  | .lst l, .int _, v, h1, h2 => by rw [Is] at h1; rw [Is] at h2; obtain ⟨_, _, z, _⟩ := h1; rw [h2] at z; cases z
  | .lst l, .str _, v, h1, h2 => by rw [Is] at h1; rw [Is] at h2; obtain ⟨_, _, z, _⟩ := h1; rw [h2] at z; cases z
theorem eqs_same (I : Inv X pins σ H s) : ∀ (l m : List Dt) {vs : List V}, Iss X.K H l vs → Iss X.K H m vs → dEqs l m = true
  | [], [], vs, h1, h2 => by rw [dEqs]
  | [], b :: m, vs, h1, h2 => by rw [Iss] at h1; rw [Iss] at h2; obtain ⟨_, _, z, _⟩ := h2; rw [h1] at z; cases z
  | a :: l, [], vs, h1, h2 => by rw [Iss] at h1; rw [Iss] at h2; obtain ⟨_, _, z, _⟩ := h1; rw [h2] at z; cases z
  | a :: l, b :: m, vs, h1, h2 => by
    rw [Iss] at h1; rw [Iss] at h2
    obtain ⟨v, r, rfl, q1, q2⟩ := h1
    obtain ⟨v', r', e, q3, q4⟩ := h2
    cases e
    rw [dEqs, eq_same I a b q1 q3, eqs_same I l m q2 q4]
    rfl
end
theorem dep_le {d : Dt} : ∀ {l : List Dt} {j : Nat}, l[j]? = some d → dep d ≤ deps l
  | [], j, h => by simp at h
  | a :: l, 0, h => by
    have e : a = d := Option.some.inj h
    subst e
    rw [deps]; omega
  | a :: l, j + 1, h => by
    have q := dep_le (l := l) (j := j) h
    rw [deps]; omega
/-- the items' answers -/
theorem items_eq {A : Around} {l m : List Dt} {xs ys : List V} {us vs : List Value} (ih : ∀ (j : Nat) (d e : Dt) {x y : V} {u v : Value}, l[j]? = some d → m[j]? = some e → Is X.K H d x → Is X.K H e y → RelV x u → RelV y v → SeqAt.EqAt A s u v (dEq d e))
    (h1 : Iss X.K H l xs) (h2 : Iss X.K H m ys) (r1 : Vals xs us) (r2 : Vals ys vs) : ∀ j (q1 : j < us.toArray.size) (q2 : j < vs.toArray.size), SeqAt.EqAt A s us.toArray[j] vs.toArray[j] (ej l m j) := by
  intro j q1 q2
  have q1' : j < us.length := by simpa using q1
  have q2' : j < vs.length := by simpa using q2
  have e1 : us.toArray[j] = us[j] := by simp
  have e2 : vs.toArray[j] = vs[j] := by simp
  rw [e1, e2]
  have lx : j < xs.length := by rw [r1.length]; exact q1'
  have ly : j < ys.length := by rw [r2.length]; exact q2'
  obtain ⟨u, hu, ru⟩ := r1.get (List.getElem?_eq_getElem lx)
  obtain ⟨v, hv, rv⟩ := r2.get (List.getElem?_eq_getElem ly)
  obtain ⟨d, hd, id⟩ := h1.get (List.getElem?_eq_getElem lx)
  obtain ⟨e, he, ie⟩ := h2.get (List.getElem?_eq_getElem ly)
  have e3 : us[j] = u := by rw [List.getElem?_eq_getElem q1'] at hu; exact Option.some.inj hu
  have e4 : vs[j] = v := by rw [List.getElem?_eq_getElem q2'] at hv; exact Option.some.inj hv
  have e5 : ej l m j = dEq d e := by unfold ej; rw [hd, he]
  rw [e3, e4, e5]
  exact ih j d e hd he id ie ru rv
theorem eqs_tup {l m : List Dt} {xs ys : List V} {us vs : List Value} (h1 : Iss X.K H l xs) (h2 : Iss X.K H m ys) (r1 : Vals xs us) (r2 : Vals ys vs) : ((List.range (min us.toArray.size vs.toArray.size)).all (ej l m) && us.toArray.size == vs.toArray.size) = dEqs l m := by
  have e1 : us.toArray.size = l.length := by rw [List.size_toArray, ← r1.length, h1.length]
  have e2 : vs.toArray.size = m.length := by rw [List.size_toArray, ← r2.length, h2.length]
  rw [e1, e2, dEqs_all]
/-- == of data, the answer that is asked for -/
theorem eqAt_D (I : Inv X pins σ H s) : ∀ (n : Nat) (A : Around) (d e : Dt) {x y : V} {u v : Value}, dep d ≤ n → A.units + n + 1 < cLine → Is X.K H d x → Is X.K H e y → RelV x u → RelV y v → SeqAt.EqAt A s u v (dEq d e) := by
  intro n
  induction n with
  | zero =>
    intro A d e x y u v hn hu h1 h2 r1 r2
    have hu0 : A.units < cLine := by omega
    cases d with
    | tup l => rw [dep] at hn; omega
    | lst l => rw [dep] at hn; omega
    | _ => 
      rw [Is] at h1; subst h1
      cases e with
      | tup m =>
        obtain ⟨a, xs, its, rfl, rfl, q1, q2, q3, q4⟩ := I.tupleD rfl h2 r2
        first
          | (cases r1; exact SeqAt.EqAt.none_tuple q4 hu0)
          | (cases r1; exact SeqAt.EqAt.bool_tuple _ q4 hu0)
          | (obtain ⟨t, rfl⟩ := r1; exact SeqAt.EqAt.int_tuple _ t q4 hu0)
          | (obtain ⟨t, rfl⟩ := r1; exact SeqAt.EqAt.str_tuple _ t q4 hu0)
      | lst m =>
        obtain ⟨a, xs, its, rfl, rfl, q1, q2, q3, q4⟩ := I.listD rfl h2 r2
        first
          | (cases r1; exact SeqAt.EqAt.none_list q4 hu0)
          | (cases r1; exact SeqAt.EqAt.bool_list _ q4 hu0)
          | (obtain ⟨t, rfl⟩ := r1; exact SeqAt.EqAt.int_list _ t q4 hu0)
          | (obtain ⟨t, rfl⟩ := r1; exact SeqAt.EqAt.str_list _ t q4 hu0)
      | _ =>
        rw [Is] at h2; subst h2
        exact eqAt_V r1 r2 rfl rfl
  | succ n ih =>
    intro A d e x y u v hn hu h1 h2 r1 r2
    have hu0 : A.units < cLine := by omega
    have hu1 : A.in1.units + n + 1 < cLine := by show A.units + 1 + n + 1 < cLine; omega
    cases d with
    | tup l =>
      obtain ⟨a, xs, its, rfl, rfl, q1, q2, q3, q4⟩ := I.tupleD rfl h1 r1
      rw [dep] at hn
      cases e with
      | tup m =>
        obtain ⟨b, ys, ist, rfl, rfl, p1, p2, p3, p4⟩ := I.tupleD rfl h2 r2
        by_cases hab : a = b
        · subst hab
          rw [eq_same I _ _ h1 h2]
          exact SeqAt.EqAt.same _
        · refine SeqAt.EqAt.of_refs hab ?_
          have z := SeqAt.RcAt.tuples q4 p4 hu0 (items_eq (X := X) (fun j d e {x y u v} hd _ g1 g2 g3 g4 => ih A.in1 d e (Nat.le_trans (dep_le hd) (by omega)) hu1 g1 g2 g3 g4) q2 p2 q3 p3)
          rw [eqs_tup q2 p2 q3 p3] at z
          rw [dEq]
          exact z
      | lst m =>
        obtain ⟨b, ys, ist, rfl, rfl, p1, p2, p3, p4⟩ := I.listD rfl h2 r2
        exact SeqAt.EqAt.tuple_list q4 p4 hu0
      | non => rw [Is] at h2; subst h2; cases r2; exact SeqAt.EqAt.tuple_none q4 hu0
      | bl b => rw [Is] at h2; subst h2; cases r2; exact SeqAt.EqAt.tuple_bool _ q4 hu0
      | int i => rw [Is] at h2; subst h2; obtain ⟨t, rfl⟩ := r2; exact SeqAt.EqAt.tuple_int _ t q4 hu0
      | str i => rw [Is] at h2; subst h2; obtain ⟨t, rfl⟩ := r2; exact SeqAt.EqAt.tuple_str _ t q4 hu0
    | lst l =>
      obtain ⟨a, xs, its, rfl, rfl, q1, q2, q3, q4⟩ := I.listD rfl h1 r1
      rw [dep] at hn
      cases e with
      | lst m =>
        obtain ⟨b, ys, ist, rfl, rfl, p1, p2, p3, p4⟩ := I.listD rfl h2 r2
        by_cases hab : a = b
        · subst hab
          rw [eq_same I _ _ h1 h2]
          exact SeqAt.EqAt.same _
        · refine SeqAt.EqAt.of_refs hab ?_
          rw [dEq]
          have ei := eqs_tup q2 p2 q3 p3
          by_cases hz : its.toArray.size = ist.toArray.size
          · have z := SeqAt.RcAt.lists q4 p4 hz hu0 (items_eq (X := X) (fun j d e {x y u v} hd _ g1 g2 g3 g4 => ih A.in1 d e (Nat.le_trans (dep_le hd) (by omega)) hu1 g1 g2 g3 g4) q2 p2 q3 p3)
            rw [← hz, Nat.min_self, beq_self_eq_true, Bool.and_true] at ei
            rw [ei] at z
            exact z
          · have hz' : (its.toArray.size == ist.toArray.size) = false := by simpa using hz
            rw [hz', Bool.and_false] at ei
            rw [← ei]
            exact SeqAt.RcAt.lists_lengths q4 p4 (by simpa using hz) hu0
      | tup m =>
        obtain ⟨b, ys, ist, rfl, rfl, p1, p2, p3, p4⟩ := I.tupleD rfl h2 r2
        exact SeqAt.EqAt.list_tuple q4 p4 hu0
      | non => rw [Is] at h2; subst h2; cases r2; exact SeqAt.EqAt.list_none q4 hu0
      | bl b => rw [Is] at h2; subst h2; cases r2; exact SeqAt.EqAt.list_bool _ q4 hu0
      | int i => rw [Is] at h2; subst h2; obtain ⟨t, rfl⟩ := r2; exact SeqAt.EqAt.list_int _ t q4 hu0
      | str i => rw [Is] at h2; subst h2; obtain ⟨t, rfl⟩ := r2; exact SeqAt.EqAt.list_str _ t q4 hu0
    | _ =>
      rw [Is] at h1; subst h1
      cases e with
      | tup m =>
        obtain ⟨a, xs, its, rfl, rfl, q1, q2, q3, q4⟩ := I.tupleD rfl h2 r2
        first
          | (cases r1; exact SeqAt.EqAt.none_tuple q4 hu0)
          | (cases r1; exact SeqAt.EqAt.bool_tuple _ q4 hu0)
          | (obtain ⟨t, rfl⟩ := r1; exact SeqAt.EqAt.int_tuple _ t q4 hu0)
          | (obtain ⟨t, rfl⟩ := r1; exact SeqAt.EqAt.str_tuple _ t q4 hu0)
      | lst m =>
        obtain ⟨a, xs, its, rfl, rfl, q1, q2, q3, q4⟩ := I.listD rfl h2 r2
        first
          | (cases r1; exact SeqAt.EqAt.none_list q4 hu0)
          | (cases r1; exact SeqAt.EqAt.bool_list _ q4 hu0)
          | (obtain ⟨t, rfl⟩ := r1; exact SeqAt.EqAt.int_list _ t q4 hu0)
          | (obtain ⟨t, rfl⟩ := r1; exact SeqAt.EqAt.str_list _ t q4 hu0)
      | _ =>
        rw [Is] at h2; subst h2
        exact eqAt_V r1 r2 rfl rfl
end
end L2

set_option Elab.async false
set_option linter.all false
set_option maxRecDepth 100000
set_option maxHeartbeats 4000000
/-! MORE RULES over the hand layer: == and in over data, insert, [::-1], sum, enumerate, whole slices of tuples, sums of tuples, isinstance, classes without __init__ -/
namespace L2
open PySem PySem.Spec PyProof.Rows
section
variable {X : Cx} {a b e o : Expr} {ta tb te : TE} {pos : Pos}
/-! ### ==, !=, in, not in -/
def seqD : Dt → Bool
  | .tup _ => true
  | .lst _ => true
  | _ => false
def rEqD (K : PySem.W.Frag) : R2 := fun x y H Q => ∃ d e, Is K H d x ∧ Is K H e y ∧ seqD d = true ∧ seqD e = true ∧ dep d ≤ 50 ∧ Q (.bl (dEq d e)) H
def rNeD (K : PySem.W.Frag) : R2 := fun x y H Q => ∃ d e, Is K H d x ∧ Is K H e y ∧ seqD d = true ∧ seqD e = true ∧ dep d ≤ 50 ∧ Q (.bl (!dEq d e)) H
theorem eqD_core {pins : List (Addr × Obj)} {s : Shared} {σ : St} {H : Hp} {d e : Dt} {x y : V} {v u : Value} (hu : X.A.units + 60 < cLine) (I : Inv X pins σ H s) (h1 : Is X.K H d x) (h2 : Is X.K H e y) (g1 : seqD d = true) (g2 : seqD e = true) (g3 : dep d ≤ 50) (rx : RelV x v) (ry : RelV y u) :
    SeqAt.RcAt X.A s v u (dEq d e) ∧ SeqAt.RcNeAt X.A s v u (!dEq d e) := by
  have hu0 : X.A.units < cLine := by omega
  have hu1 : X.A.in1.units + 50 + 1 < cLine := by show X.A.units + 1 + 50 + 1 < cLine; omega
  cases d with
  | tup l =>
    obtain ⟨a, xs, its, rfl, rfl, q1, q2, q3, q4⟩ := I.tupleD rfl h1 rx
    rw [dep] at g3
    cases e with
    | tup m =>
      obtain ⟨b, ys, ist, rfl, rfl, p1, p2, p3, p4⟩ := I.tupleD rfl h2 ry
      have it := items_eq (X := X) (A := X.A.in1) (fun j d e {x y u v} hd _ g1 g2 g3 g4 => eqAt_D I 50 X.A.in1 d e (Nat.le_trans (dep_le hd) (by omega)) hu1 g1 g2 g3 g4) q2 p2 q3 p3
      have z1 := SeqAt.RcAt.tuples q4 p4 hu0 it
      have z2 := SeqAt.RcNeAt.tuples q4 p4 hu0 it
      rw [eqs_tup q2 p2 q3 p3] at z1 z2
      rw [dEq]
      exact ⟨z1, z2⟩
    | lst m =>
      obtain ⟨b, ys, ist, rfl, rfl, p1, p2, p3, p4⟩ := I.listD rfl h2 ry
      exact ⟨SeqAt.RcAt.tuple_list q4 p4 hu0, SeqAt.RcNeAt.tuple_list q4 p4 hu0⟩
    | _ => cases g2
  | lst l =>
    obtain ⟨a, xs, its, rfl, rfl, q1, q2, q3, q4⟩ := I.listD rfl h1 rx
    rw [dep] at g3
    cases e with
    | lst m =>
      obtain ⟨b, ys, ist, rfl, rfl, p1, p2, p3, p4⟩ := I.listD rfl h2 ry
      have it := items_eq (X := X) (A := X.A.in1) (fun j d e {x y u v} hd _ g1 g2 g3 g4 => eqAt_D I 50 X.A.in1 d e (Nat.le_trans (dep_le hd) (by omega)) hu1 g1 g2 g3 g4) q2 p2 q3 p3
      rw [dEq]
      have ei := eqs_tup q2 p2 q3 p3
      by_cases hz : its.toArray.size = ist.toArray.size
      · have z1 := SeqAt.RcAt.lists q4 p4 hz hu0 it
        have z2 := SeqAt.RcNeAt.lists q4 p4 hz hu0 it
        rw [← hz, Nat.min_self, beq_self_eq_true, Bool.and_true] at ei
        rw [ei] at z1 z2
        exact ⟨z1, z2⟩
      · have hz' : (its.toArray.size == ist.toArray.size) = false := by simpa using hz
        rw [hz', Bool.and_false] at ei
        rw [← ei]
        exact ⟨SeqAt.RcAt.lists_lengths q4 p4 (by simpa using hz) hu0, SeqAt.RcNeAt.lists_lengths q4 p4 (by simpa using hz) hu0⟩
    | tup m =>
      obtain ⟨b, ys, ist, rfl, rfl, p1, p2, p3, p4⟩ := I.tupleD rfl h2 ry
      exact ⟨SeqAt.RcAt.list_tuple q4 p4 hu0, SeqAt.RcNeAt.list_tuple q4 p4 hu0⟩
    | _ => cases g2
  | _ => cases g1
theorem op_eqD (hu : X.A.units + 60 < cLine) : OpR X (compareOp .Eq) (rEqD X.K) := by
  intro pins s σ H x y v u Q I rx ry h
  obtain ⟨d, e, h1, h2, g1, g2, g3, q⟩ := h
  exact (eqD_core hu I h1 h2 g1 g2 g3 rx ry).1 _ _ _ _ ⟨.bl (dEq d e), H, I, rfl, q⟩
theorem op_neD (hu : X.A.units + 60 < cLine) : OpR X (compareOp .NotEq) (rNeD X.K) := by
  intro pins s σ H x y v u Q I rx ry h
  obtain ⟨d, e, h1, h2, g1, g2, g3, q⟩ := h
  exact (eqD_core hu I h1 h2 g1 g2 g3 rx ry).2 _ _ _ _ ⟨.bl (!dEq d e), H, I, rfl, q⟩
end
section
variable {X : Cx} {a b e o : Expr} {ta tb te : TE} {pos : Pos}
open Classical in
/-! ### xs.insert(i, e), 0 ≤ i -/
/-! ### xs[::-1] -/
/-! ### sum(xs) of ints -/
/-! ### slices of tuples, the whole among them; sums of tuples, empty ones among them -/
/-- t + u of tuples: some tuple with these items, what was tracked stays -/
theorem op_catTA : OpR X (binaryOp .Add) (fun x y H Q => ∃ a b xs ys, x = .ref a ∧ y = .ref b ∧ SqT X.K H a xs ∧ SqT X.K H b ys ∧ xs.length + ys.length ≤ sizeLine ∧ ∀ p H', Same H H' → SqT X.K H' p (xs ++ ys) → Q (.ref p) H') := by
  intro pins s σ H x y v u Q I rx ry h
  obtain ⟨a, b, xs, ys, rfl, rfl, ha, hb, hz, q⟩ := h
  by_cases hx : xs = []
  · subst hx
    cases rx
    cases ry
    obtain ⟨its, r1, p1, _⟩ := I.tuple ha
    obtain ⟨its2, r2, p2, _⟩ := I.tuple hb
    have e1 : its = [] := r1.nil_iff.mpr rfl
    subst e1
    obtain ⟨⟨cls, dd, data, sl⟩, ho, hc, n, hd⟩ := id p1
    obtain ⟨⟨cls2, dd2, data2, sl2⟩, ho2, hc2, n2, hd2⟩ := id p2
    simp only at hc hd hc2 hd2
    subst hc hd hc2 hd2
    exact concat_meets ⟨_, ho, rfl⟩ ⟨_, ho2, rfl⟩ noFill_tuple_add seq_tuple_add PySem.F.slot_tuple_add PySem.F.entry_tuple_add (PySem.F.args_tuple_add_2 _ _)
      (tuple_addW0 a b _ its2.toArray n n2 dd dd2 sl sl2 (by simp)) ⟨ho, ho2, ⟨.ref b, H, I, rfl, q b H (Same.refl H) (by rw [List.nil_append]; exact hb)⟩⟩
  · refine op_catT pins s σ H _ _ v u Q I rx ry ⟨a, b, xs, ys, rfl, rfl, ha, hb, hx, hz, fun e => q a H (Same.refl H) (by rw [e, List.append_nil]; exact ha), fun _ p hp => q p _ (fun b o e => ?_) (SqT.of upd_same)⟩
    rw [upd_ne (ne_of_none e hp)]
    exact e
/-! ### isinstance(x, T), T a built-in type or an own class -/
theorem call_isinst : CallR X (.builtin "isinstance") (fun xs H Q => ∃ x n t b, xs = [x, .ty n] ∧ TyOf X.K H x t ∧ PySem.W.kitOne X.K t (.type n) = some b ∧ Q (.bl b) H) := by
  intro pins s σ H xs us Q I r h
  obtain ⟨x, n, t, b, rfl, ty, e, q⟩ := h
  obtain ⟨u, w', rfl, ru, rw'⟩ := vals2 r
  cases (show w' = Value.type n from rw')
  exact isinst_ok I ru ty e fun tk => ⟨.bl b, H, I.tok tk, rfl, q⟩
/-! ### C() of a class without __init__ -/
structure Mk0 (K : PySem.W.Frag) (C : Addr) : Prop where
  makes : PySem.W.makesIn K C = true
  init : PySem.W.findIn K (.ref C) "__init__" = some (some (.builtin "object.__init__"))
  kp : PySem.W.keepIn K (.ref C) = true
def tMake0 (C : Addr) : TE := fun _ H Q => ∀ x dx, H x = none → H dx = none → dx ≠ x → Q (.ref x) (upd (upd H dx (.own x)) x (.ins C dx []))
theorem pe_make00 {C : Addr} {x : Str} {p : Pos} (M : Mk0 X.K C) (hg : Gl X x) (hm : X.mg x = some (.ref C)) (hdb : (x == ("__debug__" : Str)) = false := by decide) : PE X (.Call (.Name x p) [] [] pos) (tMake0 C) := by
  intro pins s σ H Q I h
  refine wpAny_Call_Name_kw (ld_glob I hg hm ?_ hdb)
  refine PySem.W.callWith_K0 I.kIn M.kp (wpAny_call ?_)
  have hq := h (s.heap.objs.size + 1) s.heap.objs.size (I.hok.fresh (Nat.le_succ _)) (I.hok.fresh (Nat.le_refl _)) (Nat.ne_of_lt (Nat.lt_succ_self _))
  have I2 := Inv.made (C := C) I
  have Y := PySem.W.makes_of (M := model X.prog X.w) I.kIn M.makes
  refine make_map0 I.kIn M.makes M.init (fun self => PySem.W.Looks.of_pure (PySem.W.oi_bind self)) ?_
  obtain ⟨hh, g, d, t, os⟩ := s
  have e : ((hh.push PySem.W.emptyDict).push (PySem.W.instObj C hh.objs.size)).get? (hh.objs.size + 1) = some (PySem.W.instObj C hh.objs.size) := by
    have := Heap.get?_push_size (hh.push PySem.W.emptyDict) (o := PySem.W.instObj C hh.objs.size) rfl
    rw [Heap.size_push] at this
    exact this
  have t1 : PySem.W.Looks (model X.prog X.w) ((hh.push PySem.W.emptyDict).push (PySem.W.instObj C hh.objs.size)) (typeOf (.ref (hh.objs.size + 1))) (.ref C) := (PySem.W.Looks.ld e).andThen .now
  have t2 : PySem.W.Looks (model X.prog X.w) ((hh.push PySem.W.emptyDict).push (PySem.W.instObj C hh.objs.size)) (isInstance (.ref (hh.objs.size + 1)) (.type "object")) true := t1.andThen (Y.top.keeps fun b o e => Heap.get?_push_of_some _ (Heap.get?_push_of_some _ e))
  refine codeAny_call_builtin PySem.W.oi_plain PySem.W.entry_oi (@PySem.W.check_slot (model X.prog X.w) _ _ _ "object.__init__" "object" "__init__" (.ref (hh.objs.size + 1)) [] [] _ PySem.W.oi_kind PySem.W.oi_split t2 (PySem.W.oi_args (.ref (hh.objs.size + 1))) ?_)
  rw [PySem.W.oi_run]
  exact wpAny_pure ⟨rfl, V.ref (hh.objs.size + 1), _, I2, rfl, hq⟩
end
/-! ### for i, x in enumerate(xs) -/
/-- records at ch turn, a new tuple is laid -/
theorem Inv.tupled {X : Cx} {pins : List (Addr × Obj)} {σ : St} {H : Hp} {s : Shared} {h' : Heap} {t' : Nat} {ch : List Addr} {ys : List V} {its : List Value} (I : Inv X pins σ H s) (hch : ∀ b ∈ ch, FpOk X pins H b) (k : ∀ b o, b ∉ ch → s.heap.get? b = some o → h'.get? b = some o)
    (hz : ys.length ≤ sizeLine) (rv : Vals ys its) (ht : IsTup h' s.heap.objs.size its.toArray) : Inv X pins σ (upd H s.heap.objs.size (.tup ys)) { s with heap := h', toks := t' } := by
  have hn : H s.heap.objs.size = none := I.hok.fresh (Nat.le_refl _)
  have trk : ∀ b u, H b = some u → b ≠ s.heap.objs.size := fun b u e z => by rw [z, hn] at e; cases e
  have nch : ∀ b u, H b = some u → b ∉ ch := fun b u e z => by rw [(hch b z).1] at e; cases e
  have old : ∀ b o, s.heap.get? b = some o → b ≠ s.heap.objs.size := fun b o e => Nat.ne_of_lt (Heap.lt_size e)
  refine I.step (g' := s.gens) (d' := s.drawn) (t' := t') (ch := ch) (fun b hb => ⟨(hch b hb).2.2.2.1, (hch b hb).2.1, (hch b hb).2.2.2.2.1, (hch b hb).2.2.2.2.2⟩) (fun b o _ _ hc e _ => k b o hc e) (fun b o _ _ hc e _ => ⟨o.slots, k b o hc e⟩) (fun b o _ e n => by rw [upd_ne (old b o e)]; exact n)
    (fun b o hc e => ⟨o, k b o hc e⟩) (fun b xs e => by rw [upd_ne (trk _ _ e)]; exact e) (fun b o u e => by rw [upd_ne (trk _ _ e)]; exact e) (fun b ps e => ⟨#[], by rw [upd_ne (trk _ _ e), e]; simp⟩) (fun m hm => ?_) (fun b u e => ?_) I.bare
  · obtain ⟨o, es, ep, ho, r⟩ := hm
    exact ⟨o, es, ep, k _ o (fun z => (hch _ z).2.1 rfl) ho, r⟩
  · by_cases hb : b = s.heap.objs.size
    · subst hb
      rw [upd_same] at e
      cases e
      exact ⟨hz, its, rv, ht⟩
    · rw [upd_ne hb] at e
      refine (I.hok b u e).stay (fun c v hc q => k c v ?_ q) (fun c q => by rw [upd_ne (trk _ _ q)]; exact q) fun c xs q => by rw [upd_ne (trk _ _ q)]; exact q
      rcases hc with z | z
      · rw [z]; exact nch b u e
      · exact nch c _ z
section
variable {X : Cx} {a : Expr} {ta : TA} {elts : List Expr} {x1 : Nat} {tpos p pos : Pos}
end
/-! ### displays of written texts, ints: by one look -/
def strsOf : List Expr → Option (List Str)
  | [] => some []
  | .Constant (.str x) _ _ :: r => (strsOf r).map (x :: ·)
  | _ => none
theorem pa_strs {X : Cx} : ∀ {es : List Expr} {xs : List Str}, strsOf es = some xs → PA X es (fun _ H Q => Q (xs.map V.str) H)
  | [], xs, h => by
    cases (Option.some.inj h : [] = xs)
    exact pa_nil
  | e :: r, xs, h => by
    cases e with
    | Constant c j pos =>
      cases c with
      | str x =>
        have h : (strsOf r).map (x :: ·) = some xs := h
        cases q : strsOf r with
        | none => rw [q] at h; cases h
        | some ys =>
          rw [q] at h
          cases (Option.some.inj h : x :: ys = xs)
          exact pa_cons (te := tC (.str x)) pe_str (pa_strs q)
      | _ => cases h
    | _ => cases h
/-! ### a cut: what holds behind a statement, a test, an expression, said once -/
def tCut (t : TS) : TS := fun D σ H => ∃ I : St → Hp → Prop, t { D with nx := I } σ H ∧ ∀ σ' H', I σ' H' → D.nx σ' H'
theorem ps_cut {X : Cx} {st : Stmt} {t : TS} (h : PS X st t) : PS X st (tCut t) := by
  intro pins s σ H D I0 h0
  obtain ⟨I, h1, h2⟩ := h0
  refine thn (h pins s σ H _ I0 h1) fun f s' q => ?_
  cases f with
  | next => obtain ⟨σ', H', q1, q2⟩ := q; exact ⟨σ', H', q1, h2 _ _ q2⟩
  | brk => exact q
  | cont => exact q
  | ret u => exact q
def tCutT (t : TT) : TT := fun σ H Q => ∃ I : Bool → Hp → Prop, t σ H I ∧ ∀ b H', I b H' → Q b H'
theorem pt_cut {X : Cx} {e : Expr} {t : TT} (h : PT X e t) : PT X e (tCutT t) := by
  intro pins s σ H Q I0 h0
  obtain ⟨I, h1, h2⟩ := h0
  exact thn (h pins s σ H _ I0 h1) fun b s' ⟨H', q1, q2⟩ => ⟨H', q1, h2 _ _ q2⟩
end L2

set_option Elab.async false
set_option linter.all false
set_option maxRecDepth 100000
set_option maxHeartbeats 4000000
/-! STILL MORE RULES: texts joined, cut, found; dicts copied and compared; great products; a method of a class that the reading names -/
namespace L2
open PySem PySem.Spec PyProof.Rows
section
variable {X : Cx} {a b e o : Expr} {ta tb te : TE} {pos : Pos}
/-! ### products of great numbers -/
theorem bits_of {n : Nat} {i : Int} (h : i.natAbs < 2 ^ n) : Builtin.Int.intBits i ≤ n := PySem.intBits_le_iff.mpr h
def CBig (i j : Int) : Prop := ∃ m n : Nat, m ≤ 100000 ∧ n ≤ 100000 ∧ i.natAbs < 2 ^ m ∧ j.natAbs < 2 ^ n
theorem op_mulB : OpR X (binaryOp .Mult) (rI CBig fun i j => .int (i * j)) := opI fun _ _ _ _ _ _ _ hc q => by
  obtain ⟨m, n, hm, hn, h1, h2⟩ := hc
  exact mul_int q (.of_bits (Nat.le_trans (bits_of h1) (by omega)) (Nat.le_trans (bits_of h2) (by omega)))
/-! ### ' '.join(xs) -/
theorem strsAre_of : ∀ {ys : List Str} {us : List Value}, Vals (ys.map V.str) us → StrsAre us ys
  | [], us, h => by cases h; exact .nil
  | y :: ys, us, h => by
    cases h with
    | cons r rr =>
      obtain ⟨t, rfl⟩ := r
      exact .cons _ _ (strsAre_of rr)
def rJoin (K : PySem.W.Frag) : V → List V → Hp → VK → Prop := fun x vs H Q => ∃ z p ys, x = .str z ∧ vs = [.ref p] ∧ SqL K H p (ys.map V.str) ∧ (ys.map (·.length)).sum + ys.length * z.length ≤ 16777216 ∧ Q (.str (Txt.join z ys)) H
theorem mt_join : MtR X "str.join" (rJoin X.K) := by
  intro pins s σ H x vs v us Q I rx rv h
  obtain ⟨z, p, ys, rfl, rfl, hx, hl, q⟩ := h
  obtain ⟨t, rfl⟩ := rx
  obtain ⟨u, rfl, ru⟩ := vals1 rv
  cases ru
  obtain ⟨its, r, pl, hz⟩ := I.list hx
  exact join_list pl.isList (strsAre_of r) hl fun t' k => ⟨.str (Txt.join z ys), H, I.tok k, ⟨_, rfl⟩, q⟩
/-! ### x.index(y), y one sign that is there -/
/-! ### x[lo:hi] of a text -/
theorem part_of {v : Value} {o : Option Int} (h : IsPart v o) : ∃ l : Option (Int × Tok), v = partValue l ∧ l.map (·.1) = o := by
  cases h with
  | none => exact ⟨none, rfl, rfl⟩
  | int i t => exact ⟨some (i, t), rfl, rfl⟩
theorem sl_str : SlR X (fun x lo hi H Q => ∃ z, x = .str z ∧ z.length ≤ sizeLine ∧ Q (.str (Txt.slice z lo hi)) H) := by
  intro pins s σ H x v vl vu lo hi sl Q I rx hs pl pu h
  obtain ⟨z, rfl, hz, q⟩ := h
  obtain ⟨t, rfl⟩ := rx
  obtain ⟨l, rfl, el⟩ := part_of pl
  obtain ⟨u, rfl, eu⟩ := part_of pu
  refine ⟨"str", _, F.slot_str_getitem.lookup, typeIs_str s z t, ?_⟩
  refine wpAny_getItem_str_slice (l := l) (u := u) (st := none) hs rfl ?_
  unfold sliceMade slicePicked
  rw [el, eu]
  have e : ∀ t' k, EP X pins σ Q (.str (Txt.slice z lo hi) t') { s with toks := k } := fun t' k => ⟨.str (Txt.slice z lo hi), H, I.tok k, ⟨_, rfl⟩, q⟩
  have hl := Txt.slice_le z lo hi
  unfold Txt.slice at e hl
  refine post_val_or_made (fun hc => ?_) e
  rw [if_neg (show ¬ (((1 : Int) == 1 && (Builtin.Str.strSliceIndices lo hi 1 z.length).length == z.length) = true) from hc)] at hl
  exact Nat.le_trans hl hz
/-! ### list + list, either one read -/
theorem op_catL : OpR X (binaryOp .Add) (fun x y H Q => ∃ l b xs zs, x = .ref l ∧ y = .ref b ∧ SqL X.K H l xs ∧ SqL X.K H b zs ∧ xs.length + zs.length ≤ sizeLine ∧ ∀ p, H p = none → Q (.ref p) (upd H p (.lst (xs ++ zs)))) := by
  intro pins s σ H x y v u Q I rx ry h
  obtain ⟨l, b, xs, zs, rfl, rfl, hH, hB, hz, q⟩ := h
  cases rx
  cases ry
  obtain ⟨its, r, pl, z1⟩ := I.list hH
  obtain ⟨its2, r2, pl2, z2⟩ := I.list hB
  have hl := r.length
  have hl2 := r2.length
  obtain ⟨⟨cls, dd, data, sl⟩, ho, hc, n, hd⟩ := pl.isList
  obtain ⟨⟨cls2, dd2, data2, sl2⟩, ho2, hc2, n2, hd2⟩ := pl2.isList
  simp only at hc hd hc2 hd2
  subst hc hd hc2 hd2
  refine concat_meets ⟨_, ho, rfl⟩ ⟨_, ho2, rfl⟩ noFill_list_add seq_list_add PySem.F.slot_list_add PySem.F.entry_list_add (PySem.F.args_list_add_2 _ _) (list_addW l b its.toArray its2.toArray n n2 dd dd2 sl sl2 (by rw [List.size_toArray, List.size_toArray]; omega)) ⟨ho, ho2, ?_⟩
  have ea : its.toArray ++ its2.toArray = (its ++ its2).toArray := by simp
  rw [ea]
  exact ⟨.ref _, _, I.lnew (t' := s.toks) (r.append r2) (by rw [List.length_append]; omega), rfl, q _ I.fresh⟩
/-! ### dict(d): a copy -/
/-! ### two dicts of the same pairs are alike -/
end
/-! ### o.m(..), the class of o named in the reading -/
/-- a method m of the class C that keeps the promise sp, with room k -/
structure MOk (P : Program) (w : World) (K : PySem.W.Frag) (mg : Str → Option Value) (base : Heap) (k : Nat) (C : Addr) (m : Str) (sp : Sp) : Prop where
  cl : Cls K C
  run : ∃ (f : Addr) (fd : FuncData) (ps : List Str), Meth K C m f ∧ FnOk P w K mg base CX0 k f fd ps sp ∧ Binds K fd ps []
def tMethP (P : Program) (w : World) (K : PySem.W.Frag) (mg : Str → Option Value) (base : Heap) (k : Nat) (m : Str) (ta : TE) (t : TA) : TE := fun σ H Q => ta σ H fun x H1 => ∃ a C dx fs sp, x = .ref a ∧ H1 a = some (.ins C dx fs) ∧ fs.lookup m = none ∧ MOk P w K mg base k C m sp ∧
  t σ H1 fun vs H2 => sp (x :: vs) H2 Q E0
section
variable {X : Cx} {m : Str} {pos apos : Pos} {e o : Expr} {es : List Expr} {ta : TE} {t : TA} {k : Nat}
theorem pe_methP {pl : Sem Bool} (he : PE X o ta) (hr : Room k X.A) (ha : PA X (e :: es) t)
    (hst : starEach (e :: es) X.env = (false, eval e X.env) :: starEach es X.env := by rfl) (hpl : (backTo pos (starEach es X.env)).any (·.1) = false := by rfl)
    (ht : eval (.Call (.Attribute o m apos) (e :: es) [] pos) X.env = (do
      let ov ← eval o X.env
      standAt apos.atName
      let (f, first) ← holding [ov] (getMethod ov m pl)
      callWith pos f first (backTo pos (starEach (e :: es) X.env)) (backToKw pos (keywordEach [] X.env))) := by rfl) :
    PE X (.Call (.Attribute o m apos) (e :: es) [] pos) (tMethP X.prog X.w X.K X.mg X.base k m ta t) := by
  intro pins s σ H Q I h
  refine PySem.W.methodCall_KW (pl := pl) (thn (he pins s σ H _ I h) fun u s1 ⟨x, H1, I1, rx, a, C, dx, fs, sp, ex, ea, l, M, q⟩ => ?_) ht
  subst ex
  obtain rfl : u = Value.ref a := rx
  obtain ⟨c, f, fd, ps, hm, F, hb⟩ := M
  refine getmeth_ok I1 ea c hm l ?_
  refine PySem.W.callWith_K (first := [.ref a]) (h₀ := X.base) I.ok.mod.kin hm.kp (thn (ha pos pins s1 σ H1 _ I1 q) fun us s2 ⟨vs, H2, I2, r, q2⟩ => ⟨I2.kIn, ?_⟩) hst hpl
  exact run_fn (us := .ref a :: us) (vs := .ref a :: vs) (dvs := []) F hr hb .nil pass0 I2 (.cons rfl r) (by rw [List.append_nil]; exact q2)
theorem pe_methP0 {pl : Sem Bool} (he : PE X o ta) (hr : Room k X.A)
    (ht : eval (.Call (.Attribute o m apos) [] [] pos) X.env = (do
      let ov ← eval o X.env
      standAt apos.atName
      let (f, first) ← holding [ov] (getMethod ov m pl)
      callWith pos f first (backTo pos (starEach [] X.env)) (backToKw pos (keywordEach [] X.env))) := by rfl) :
    PE X (.Call (.Attribute o m apos) [] [] pos) (tMethP X.prog X.w X.K X.mg X.base k m ta tNil) := by
  intro pins s σ H Q I h
  refine PySem.W.methodCall_KW (pl := pl) (thn (he pins s σ H _ I h) fun u s1 ⟨x, H1, I1, rx, a, C, dx, fs, sp, ex, ea, l, M, q⟩ => ?_) ht
  subst ex
  obtain rfl : u = Value.ref a := rx
  obtain ⟨c, f, fd, ps, hm, F, hb⟩ := M
  refine getmeth_ok I1 ea c hm l ?_
  exact PySem.W.callWith_K0 (first := [.ref a]) I1.kIn hm.kp (run_fn (us := [.ref a]) (vs := [.ref a]) (dvs := []) F hr hb .nil pass0 I1 (.cons rfl .nil) q)
end
end L2

set_option Elab.async false
set_option linter.all false
set_option maxRecDepth 100000
set_option maxHeartbeats 4000000
/-! xs.count(y), xs.index(y) of flat items -/
namespace L2
open PySem PySem.Spec PyProof.Rows
section
variable {X : Cx}
end
end L2

set_option Elab.async false
set_option linter.all false
set_option maxRecDepth 100000
set_option maxHeartbeats 4000000
/-! range with a step, zip of lists and tuples, x.split(y) -/
namespace L2
open PySem PySem.Spec PyProof.Rows
/-! ### range(a, b, c), c above 0 -/
section
variable {X : Cx} {tg : Expr}
end
/-- // by a positive divisor below 2 ** 64 -/
theorem op_fdivB {X : Cx} : OpR X (binaryOp .FloorDiv) (rI (fun _ j => 0 < j ∧ j < 18446744073709551616) fun i j => .int (i / j)) := opI fun i j _ _ _ _ _ hc q => by
  have h1 : (0 : Int) < j := hc.1
  have h2 : j < 18446744073709551616 := hc.2
  refine floordiv_int (by omega) (by rw [Int.fdiv_eq_ediv_of_nonneg i (by omega)]; exact q) (.inl (PyProof.noPylong_of_log2 ?_))
  have h3 : j.natAbs < 2 ^ 64 := by show j.natAbs < 18446744073709551616; omega
  exact Nat.lt_trans ((Nat.log2_lt (by omega)).mpr h3) (by decide)
/-! ### x.split(y) -/
def rSplit : V → List V → Hp → VK → Prop := fun x vs H Q => ∃ z y : Str, x = .str z ∧ vs = [.str y] ∧ (y.length == 0) = false ∧ z.length ≤ sizeLine ∧ (Builtin.Str.partsBetween z (Builtin.Str.occurrences z y 0 z.length (z.length + 1)) y.length).length ≤ sizeLine ∧
  ∀ p, H p = none → Q (.ref p) (upd H p (.lst ((Txt.split z y).map V.str)))
theorem vals_strs : ∀ l : List (Str × Tok), Vals ((l.map (·.1)).map V.str) (strValues l)
  | [] => .nil
  | (x, t) :: l => .cons ⟨t, rfl⟩ (vals_strs l)
theorem mt_split {X : Cx} : MtR X "str.split" rSplit := by
  intro pins s σ H x vs v us Q I rx rv h
  obtain ⟨z, y, rfl, rfl, hy, hz, hn, q⟩ := h
  obtain ⟨t, rfl⟩ := rx
  obtain ⟨u, rfl, ru⟩ := vals1 rv
  obtain ⟨t', rfl⟩ := ru
  have one : (1 : Nat) ≤ sizeLine := by decide
  cases h1 : (decide (z.length < y.length) || decide (Builtin.Str.strKind z < Builtin.Str.strKind y)) with
  | true =>
    have e : Txt.split z y = [z] := if_pos h1
    rw [e] at q
    exact call_meets F.slot_str_split (typeIs_str _ _ _) F.entry_str_split (F.args_str_split_2 _ _) (meets_str_split_cannot_occur z y t t' h1) ⟨.ref _, _, I.lnew (ys := [.str z]) (its := [.str z t]) (t' := s.toks) (.cons ⟨t, rfl⟩ .nil) one, rfl, q _ I.fresh⟩
  | false =>
    cases hf : (Builtin.Str.occurrences z y 0 z.length (z.length + 1)).isEmpty with
    | true =>
      have e : Txt.split z y = [z] := (if_neg (ne_true_of_eq_false h1)).trans (if_pos hf)
      rw [e] at q
      exact call_meets F.slot_str_split (typeIs_str _ _ _) F.entry_str_split (F.args_str_split_2 _ _) (meets_str_split_not_found z y t t' h1 hy hf) ⟨.ref _, _, I.lnew (ys := [.str z]) (its := [.str z t]) (t' := s.toks) (.cons ⟨t, rfl⟩ .nil) one, rfl, q _ I.fresh⟩
    | false =>
      have e : Txt.split z y = Builtin.Str.partsBetween z (Builtin.Str.occurrences z y 0 z.length (z.length + 1)) y.length := (if_neg (ne_true_of_eq_false h1)).trans (if_neg (ne_true_of_eq_false hf))
      rw [e] at q
      refine call_meets F.slot_str_split (typeIs_str _ _ _) F.entry_str_split (F.args_str_split_2 _ _) (meets_str_split_sep z y t t' h1 hy hf hz hn) ?_
      have ev := vals_strs (numbered s.toks (Builtin.Str.partsBetween z (Builtin.Str.occurrences z y 0 z.length (z.length + 1)) y.length))
      rw [numbered_texts, ← strsFrom_eq] at ev
      exact ⟨.ref _, _, I.lnew ev (by rw [List.length_map]; exact hn), rfl, q _ I.fresh⟩
end L2

set_option Elab.async false
set_option linter.all false
set_option maxRecDepth 100000
set_option maxHeartbeats 4000000
/-! for x, y in zip(xs, ys): each a list or a tuple -/
namespace L2
open PySem PySem.Spec PyProof.Rows
/-- an iterator over a list (true) or a tuple (false), and what it goes over -/
def SIt : Bool → Heap → Addr → Addr → Nat → Prop
  | true, h, it, l, i => h.IsListIter it l i
  | false, h, it, l, i => h.IsTupleIter it l i
def SSq : Bool → Heap → Addr → Array Value → Prop
  | true, h, l, v => h.IsList l v
  | false, h, l, v => h.IsTuple l v
theorem SIt.ext : ∀ {b : Bool} {h h' : Heap} {it c l : Addr} {i : Nat}, SIt b h it l i → Heap.ExtBut c h h' → it ≠ c → SIt b h' it l i
  | true, _, _, _, _, _, _, x, e, n => Heap.IsListIter.extBut x e n
  | false, _, _, _, _, _, _, x, e, n => Heap.IsTupleIter.extBut x e n
theorem SSq.ext : ∀ {b : Bool} {h h' : Heap} {l c : Addr} {v : Array Value}, SSq b h l v → Heap.ExtBut c h h' → l ≠ c → SSq b h' l v
  | true, _, _, _, _, _, x, e, n => Heap.IsList.extBut x e n
  | false, _, _, _, _, _, x, e, n => Heap.IsTuple.extBut x e n
theorem SIt.at_ : ∀ {b : Bool} {h h' : Heap} {it l : Addr} {i : Nat}, SIt b h it l i → (∀ o, h.get? it = some o → h'.get? it = some o) → SIt b h' it l i
  | true, _, _, _, _, _, ⟨o, ho, r⟩, e => ⟨o, e _ ho, r⟩
  | false, _, _, _, _, _, ⟨o, ho, r⟩, e => ⟨o, e _ ho, r⟩
theorem SIt.obj : ∀ {b : Bool} {h : Heap} {it l : Addr} {i : Nat}, SIt b h it l i → ∃ o, h.get? it = some o ∧ ∀ v, o.data ≠ .cell v
  | true, _, _, _, _, ⟨o, ho, _, d⟩ => ⟨o, ho, fun v z => by rw [d] at z; cases z⟩
  | false, _, _, _, _, ⟨o, ho, _, d⟩ => ⟨o, ho, fun v z => by rw [d] at z; cases z⟩
section
variable {prog : Program} {w : World} {A : Around} {E : Value → Shared → Prop} {s : Shared}
theorem nx_item {b : Bool} {it l : Addr} {i : Nat} {its : Array Value} {x : Value} {Q : Value → Shared → Prop} (hit : SIt b s.heap it l i) (hl : SSq b s.heap l its) (hx : its[i]? = some x)
    (hQ : ∀ h', SIt b h' it l (i + 1) → Heap.SameBut it s.heap h' → Q x { s with heap := h' }) : wpAny (model prog w) A (Builtin.SmallTypes.nextOf (.ref it)) Q E s := by
  cases b with
  | true => exact wpAny_nextOf_list_item hit hl hx hQ
  | false =>
    obtain ⟨o, ho, hc, hd⟩ := hit
    obtain ⟨ot, hot, _, nt, hdt⟩ := hl
    have ty : s.TypeIs (.ref it) "tuple_iterator" := ⟨o, ho, hc⟩
    unfold Builtin.SmallTypes.nextOf
    refine wpAny_bind (wpAny_callSpecial?_slot (name := Str.ofString "__next__") ty F.slot_tuple_iterator_next (wpAny_call_entry F.slot_tuple_iterator_next ty F.entry_tuple_iterator_next ?_ (F.args_tuple_iterator_next_1 _)))
    show wpAny _ _ (field (Value.ref it) 0 >>= _) _ _ _; refine wpAny_bind (wpAny_field ho hd (x := .ref l) rfl ?_)
    show wpAny _ _ (if (Value.ref l == Value.none) = true then _ else _) _ _ _; rw [if_neg (show ¬ ((Value.ref l == Value.none) = true) from Bool.false_ne_true)]
    show wpAny _ _ (field (Value.ref it) 1 >>= _) _ _ _; refine wpAny_bind (wpAny_field ho hd (x := .int i 0) rfl ?_)
    show wpAny _ _ (seqItems? (Value.ref l) >>= _) _ _ _; refine wpAny_bind (wpAny_seqItems hot hdt ?_)
    simp only [Int.toNat_natCast, hx]
    refine wpAny_bind (wpAny_setField ho hd (by simp) (wpAny_pure ⟨x, rfl, wpAny_pure (hQ _ ⟨_, Heap.get?_update_self _ ho (Obj.isFreed_of_fields (Obj.data_mapFields hd _)), (Obj.cls_mapFields ..).trans hc, ?_⟩ (Heap.SameBut.update ..))⟩))
    rw [Obj.data_mapFields hd]; simp [rawInt]
theorem nx_end {b : Bool} {it l : Addr} {i : Nat} {its : Array Value} {Q : Value → Shared → Prop} (hh : A.handled = none) (hit : SIt b s.heap it l i) (hl : SSq b s.heap l its) (hx : its[i]? = none)
    (hE : ∀ h' e, Heap.ExtBut it s.heap h' → (∃ o, h'.get? e = some o ∧ o.cls = .type "StopIteration") → E (.ref e) { s with heap := h' }) : wpAny (model prog w) A (Builtin.SmallTypes.nextOf (.ref it)) Q E s := by
  cases b with
  | true => exact wpAny_nextOf_list_end hh hit hl hx hE
  | false =>
    obtain ⟨o, ho, hc, hd⟩ := hit
    obtain ⟨ot, hot, _, nt, hdt⟩ := hl
    have ty : s.TypeIs (.ref it) "tuple_iterator" := ⟨o, ho, hc⟩
    unfold Builtin.SmallTypes.nextOf
    refine wpAny_bind (wpAny_callSpecial?_slot (name := Str.ofString "__next__") ty F.slot_tuple_iterator_next (wpAny_call_entry F.slot_tuple_iterator_next ty F.entry_tuple_iterator_next ?_ (F.args_tuple_iterator_next_1 _)))
    show wpAny _ _ (field (Value.ref it) 0 >>= _) _ _ _; refine wpAny_bind (wpAny_field ho hd (x := .ref l) rfl ?_)
    show wpAny _ _ (if (Value.ref l == Value.none) = true then _ else _) _ _ _; rw [if_neg (show ¬ ((Value.ref l == Value.none) = true) from Bool.false_ne_true)]
    show wpAny _ _ (field (Value.ref it) 1 >>= _) _ _ _; refine wpAny_bind (wpAny_field ho hd (x := .int i 0) rfl ?_)
    show wpAny _ _ (seqItems? (Value.ref l) >>= _) _ _ _; refine wpAny_bind (wpAny_seqItems hot hdt ?_)
    simp only [Int.toNat_natCast, hx]; refine wpAny_bind (wpAny_rule (wpAny_bind (wpAny_setField ho hd (by simp) ?_)))
    show wpAny _ _ (newExc (Value.type "StopIteration") [] >>= _) _ _ _; refine wpAny_bind ?_
    simp only [newExc, newTuple]; refine wpAny_bind (wpAny_newObj_type ?_ (by size_fits))
    refine wpAny_bind (m := firstArgMember _ _) (wpAny_of_eq (a := Value.none) (by first | rfl | (simp only [firstArgMember]; rfl)) (wpAny_newObj_type ?_ (by size_fits)))
    simp only [raiseNew]; refine wpAny_bind (wpAny_handled ?_)
    first | rw [hh] | rw [show A.in1.handled = none from hh]
    exact wpAny_bind (wpAny_pure (wpAny_throw (hE _ _ (((Heap.SameBut.update ..).extBut.push _).push _) ⟨_, Heap.get?_push_size _ rfl, rfl⟩)))
variable {z TI TO i1 i2 l1 l2 : Addr} {b1 b2 : Bool} {k1 k2 : Nat} {xs ys : Array Value}
theorem zp_item {x y a b : Value} {Q : Value → Shared → Prop} (D : ZipApart z TI TO i1 i2 l1 l2) (hz : IsZip s.heap z TI TO .none) (hTI : IsPair s.heap TI (.ref i1) (.ref i2)) (hTO : IsPair s.heap TO a b)
    (h1 : SIt b1 s.heap i1 l1 k1) (h2 : SIt b2 s.heap i2 l2 k2) (hl1 : SSq b1 s.heap l1 xs) (hl2 : SSq b2 s.heap l2 ys) (hx : xs[k1]? = some x) (hy : ys[k2]? = some y)
    (hQ : ∀ h', IsZip h' z TI TO (rawInt s.heap.objs.size) → IsPair h' TO x y → SIt b1 h' i1 l1 (k1 + 1) → SIt b2 h' i2 l2 (k2 + 1) → IsPair h' s.heap.objs.size x y → h'.objs.size = s.heap.objs.size + 1 →
      (∀ c o, c ≠ z → c ≠ TO → c ≠ i1 → c ≠ i2 → s.heap.get? c = some o → h'.get? c = some o) → Q (.ref s.heap.objs.size) { s with heap := h' }) :
    wpAny (model prog w) A (Builtin.«zip.__next__» ⟨[.ref z], []⟩) (fun fin s' => ∃ v, fin = .done (.ret v) ∧ Q v s') E s := by
  show wpAny _ _ (field (Value.ref z) 2 >>= _) _ _ _; refine wpAny_bind (wpAny_field hz rfl (x := .bool false) rfl ?_)
  show wpAny _ _ (field (Value.ref z) 3 >>= _) _ _ _; refine wpAny_bind (wpAny_field hz rfl (x := .ref TI) rfl (wpAny_bind (wpAny_seqItems hTI rfl ?_)))
  show wpAny _ _ (Builtin.SmallTypes.ownedTupleIsFree (Value.ref z) >>= _) _ _ _; unfold Builtin.SmallTypes.ownedTupleIsFree
  refine wpAny_bind (wpAny_bind (wpAny_field hz rfl (x := .none) rfl (wpAny_pure ?_))); simp only [if_true]
  refine wpAny_bind (wpAny_rule (wpAny_bind (wpAny_field hz rfl (x := .ref TO) rfl (wpAny_bind (wpAny_setField_rec hz (by simp) fun hA hzA sA => ?_)))))
  have hzA : IsZip hA z TI TO .ellipsis := hzA
  refine wpAny_bind ?_; simp only [List.zipIdx_cons, List.zipIdx_nil, List.forIn_cons, List.forIn_nil]
  refine wpAny_bind (wpAny_bind (wpAny_onRaise ?_)); show wpAny _ _ (Builtin.SmallTypes.nextOf (Value.ref i1) >>= _) _ _ _
  refine wpAny_bind (nx_item (h1.ext sA.extBut D.i1z) (hl1.ext sA.extBut D.l1z) hx fun hB iB sB => wpAny_pure ?_)
  have tB : IsPair hB TO a b := sB.extBut _ _ D.TOi1 (sA.extBut _ _ D.TOz hTO)
  refine wpAny_bind (wpAny_seqItems tB rfl (wpAny_bind (wpAny_updateSeq_pair tB fun hC tC sC => ?_)))
  have tC : IsPair hC TO x b := tC
  refine wpAny_bind (wpAny_letGo (wpAny_pure ?_)); refine wpAny_bind (wpAny_bind (wpAny_onRaise ?_)); show wpAny _ _ (Builtin.SmallTypes.nextOf (Value.ref i2) >>= _) _ _ _
  refine wpAny_bind (nx_item (((h2.ext sA.extBut D.i2z).ext sB.extBut D.i12.symm).ext sC.extBut D.TOi2.symm) (((hl2.ext sA.extBut D.l2z).ext sB.extBut D.l2i1).ext sC.extBut D.l2TO) hy fun hD iD sD => wpAny_pure ?_)
  have tD : IsPair hD TO x b := sD.extBut _ _ D.TOi2 tC
  refine wpAny_bind (wpAny_seqItems tD rfl (wpAny_bind (wpAny_updateSeq_pair tD fun hF tF sF => ?_)))
  have tF : IsPair hF TO x y := tF
  refine wpAny_bind (wpAny_letGo (wpAny_pure (wpAny_pure ?_))); refine wpAny_bind (wpAny_seqItems tF rfl (wpAny_bind (wpAny_newTuple ?_)))
  have sz : hF.objs.size = s.heap.objs.size := by rw [sF.1, sD.1, sC.1, sB.1, sA.1]
  have zF : IsZip hF z TI TO .ellipsis := sF.extBut _ _ D.TOz.symm (sD.extBut _ _ D.i2z.symm (sC.extBut _ _ D.TOz.symm (sB.extBut _ _ D.i1z.symm hzA)))
  have kF : ∀ c o, c ≠ z → c ≠ TO → c ≠ i1 → c ≠ i2 → s.heap.get? c = some o → hF.get? c = some o := fun c o n1 n2 n3 n4 e => sF.extBut _ _ n2 (sD.extBut _ _ n4 (sC.extBut _ _ n2 (sB.extBut _ _ n3 (sA.extBut _ _ n1 e))))
  have iF1 : SIt b1 hF i1 l1 (k1 + 1) := ((iB.ext sC.extBut D.TOi1.symm).ext sD.extBut D.i12).ext sF.extBut D.TOi1.symm
  have iF2 : SIt b2 hF i2 l2 (k2 + 1) := iD.ext sF.extBut D.TOi2.symm
  have ltz : z < hF.objs.size := Heap.lt_size zF
  show wpAny _ _ (Builtin.SmallTypes.ownedTupleHandOut (Value.ref z) (.ref hF.objs.size) >>= _) _ _ _; unfold Builtin.SmallTypes.ownedTupleHandOut
  refine wpAny_bind ?_
  have zG : IsZip (hF.push { cls := .type "tuple", data := .seq #[x, y] }) z TI TO .ellipsis := Heap.get?_push_of_some _ zF
  refine wpAny_bind (wpAny_setField_rec zG (by simp) fun hI zI sI => ?_)
  have zI : IsZip hI z TI TO (rawInt hF.objs.size) := zI
  refine wpAny_setField_rec zI (by simp) fun hJ zJ sJ => ?_
  have zJ : IsZip hJ z TI TO (rawInt hF.objs.size) := zJ
  have up : ∀ c o, c ≠ z → hF.get? c = some o → hJ.get? c = some o := fun c o n e => sJ.extBut _ _ n (sI.extBut _ _ n (Heap.get?_push_of_some _ e))
  have tJ : IsPair hJ hF.objs.size x y := sJ.extBut _ _ (Nat.ne_of_gt ltz) (sI.extBut _ _ (Nat.ne_of_gt ltz) (Heap.get?_push_size _ rfl))
  have szJ : hJ.objs.size = hF.objs.size + 1 := by rw [sJ.1, sI.1, Heap.size_push]
  rw [sz] at zJ tJ szJ
  refine wpAny_pure ⟨_, rfl, ?_⟩; show Q (.ref hF.objs.size) _; rw [sz]
  exact hQ hJ zJ (up _ _ D.TOz tF) (iF1.at_ fun o e => up _ o D.i1z e) (iF2.at_ fun o e => up _ o D.i2z e) tJ szJ fun c o n1 n2 n3 n4 e => up c o n1 (kF c o n1 n2 n3 n4 e)
theorem zp_end {a b : Value} {Q : Fin → Shared → Prop} (hh : A.handled = none) (D : ZipApart z TI TO i1 i2 l1 l2) (hz : IsZip s.heap z TI TO .none) (hTI : IsPair s.heap TI (.ref i1) (.ref i2)) (hTO : IsPair s.heap TO a b)
    (h1 : SIt b1 s.heap i1 l1 k1) (h2 : SIt b2 s.heap i2 l2 k2) (hl1 : SSq b1 s.heap l1 xs) (hl2 : SSq b2 s.heap l2 ys) (hend : xs[k1]? = none ∨ ys[k2]? = none)
    (hE : ∀ h' e, (∀ c o, c ≠ z → c ≠ TO → c ≠ i1 → c ≠ i2 → s.heap.get? c = some o → h'.get? c = some o) → (∃ o, h'.get? e = some o ∧ o.cls = .type "StopIteration") → E (.ref e) { s with heap := h' }) :
    wpAny (model prog w) A (Builtin.«zip.__next__» ⟨[.ref z], []⟩) Q E s := by
  show wpAny _ _ (field (Value.ref z) 2 >>= _) _ _ _; refine wpAny_bind (wpAny_field hz rfl (x := .bool false) rfl ?_)
  show wpAny _ _ (field (Value.ref z) 3 >>= _) _ _ _; refine wpAny_bind (wpAny_field hz rfl (x := .ref TI) rfl (wpAny_bind (wpAny_seqItems hTI rfl ?_)))
  show wpAny _ _ (Builtin.SmallTypes.ownedTupleIsFree (Value.ref z) >>= _) _ _ _; unfold Builtin.SmallTypes.ownedTupleIsFree
  refine wpAny_bind (wpAny_bind (wpAny_field hz rfl (x := .none) rfl (wpAny_pure ?_))); simp only [if_true]
  refine wpAny_bind (wpAny_rule (wpAny_bind (wpAny_field hz rfl (x := .ref TO) rfl (wpAny_bind (wpAny_setField_rec hz (by simp) fun hA hzA sA => ?_)))))
  have hzA : IsZip hA z TI TO .ellipsis := hzA
  refine wpAny_bind ?_; simp only [List.zipIdx_cons, List.zipIdx_nil, List.forIn_cons, List.forIn_nil]
  refine wpAny_bind (wpAny_bind (wpAny_onRaise ?_)); show wpAny _ _ (Builtin.SmallTypes.nextOf (Value.ref i1) >>= _) _ _ _
  have notz : ∀ {h' : Heap} {e : Addr} {o : Obj}, IsZip h' z TI TO .ellipsis → h'.get? e = some o → o.cls = .type "StopIteration" → e ≠ z := fun q g c n => by subst n; rw [q] at g; cases g; simp at c
  cases hx : xs[k1]? with
  | none =>
    refine wpAny_bind (nx_end hh (h1.ext sA.extBut D.i1z) (hl1.ext sA.extBut D.l1z) hx fun hB e sB ⟨oe, ge, ce⟩ => ?_)
    have zB : IsZip hB z TI TO .ellipsis := sB _ _ D.i1z.symm hzA
    exact wpAny_setField_rec zB (by simp) fun hC _ sC => hE hC e (fun c o n1 _ n3 _ q => sC.extBut _ _ n1 (sB _ _ n3 (sA.extBut _ _ n1 q))) ⟨oe, sC.extBut _ _ (notz zB ge ce) ge, ce⟩
  | some x =>
    have hy : ys[k2]? = none := hend.elim (fun q => by rw [hx] at q; cases q) id
    refine wpAny_bind (nx_item (h1.ext sA.extBut D.i1z) (hl1.ext sA.extBut D.l1z) hx fun hB iB sB => wpAny_pure ?_)
    have tB : IsPair hB TO a b := sB.extBut _ _ D.TOi1 (sA.extBut _ _ D.TOz hTO)
    refine wpAny_bind (wpAny_seqItems tB rfl (wpAny_bind (wpAny_updateSeq_pair tB fun hC tC sC => ?_)))
    refine wpAny_bind (wpAny_letGo (wpAny_pure ?_)); refine wpAny_bind (wpAny_bind (wpAny_onRaise ?_)); show wpAny _ _ (Builtin.SmallTypes.nextOf (Value.ref i2) >>= _) _ _ _
    refine wpAny_bind (nx_end hh (((h2.ext sA.extBut D.i2z).ext sB.extBut D.i12.symm).ext sC.extBut D.TOi2.symm) (((hl2.ext sA.extBut D.l2z).ext sB.extBut D.l2i1).ext sC.extBut D.l2TO) hy fun hD e sD ⟨oe, ge, ce⟩ => ?_)
    have zD : IsZip hD z TI TO .ellipsis := sD _ _ D.i2z.symm (sC.extBut _ _ D.TOz.symm (sB.extBut _ _ D.i1z.symm hzA))
    exact wpAny_setField_rec zD (by simp) fun hF _ sF => hE hF e (fun c o n1 n2 n3 n4 q => sF.extBut _ _ n1 (sD _ _ n4 (sC.extBut _ _ n2 (sB.extBut _ _ n3 (sA.extBut _ _ n1 q))))) ⟨oe, sF.extBut _ _ (notz zD ge ce) ge, ce⟩
theorem zp_next {x y a b : Value} {Q : Option Value → Shared → Prop} (D : ZipApart z TI TO i1 i2 l1 l2) (hz : IsZip s.heap z TI TO .none) (hTI : IsPair s.heap TI (.ref i1) (.ref i2)) (hTO : IsPair s.heap TO a b)
    (h1 : SIt b1 s.heap i1 l1 k1) (h2 : SIt b2 s.heap i2 l2 k2) (hl1 : SSq b1 s.heap l1 xs) (hl2 : SSq b2 s.heap l2 ys) (hx : xs[k1]? = some x) (hy : ys[k2]? = some y)
    (hQ : ∀ h', IsZip h' z TI TO (rawInt s.heap.objs.size) → IsPair h' TO x y → SIt b1 h' i1 l1 (k1 + 1) → SIt b2 h' i2 l2 (k2 + 1) → IsPair h' s.heap.objs.size x y → h'.objs.size = s.heap.objs.size + 1 →
      (∀ c o, c ≠ z → c ≠ TO → c ≠ i1 → c ≠ i2 → s.heap.get? c = some o → h'.get? c = some o) → Q (some (.ref s.heap.objs.size)) { s with heap := h' }) : wpAny (model prog w) A (pyNext (.ref z)) Q E s := by
  have ty : s.TypeIs (.ref z) "zip" := ⟨_, hz, rfl⟩
  unfold pyNext
  exact wpAny_bind (wpAny_attempt (wpAny_callSpecial?_slot (name := Str.ofString "__next__") ty F.slot_zip_next (wpAny_call_entry F.slot_zip_next ty F.entry_zip_next (zp_item D hz hTI hTO h1 h2 hl1 hl2 hx hy fun h' q1 q2 q3 q4 q5 q6 q7 => wpAny_pure (hQ h' q1 q2 q3 q4 q5 q6 q7)) (F.args_zip_next_1 _))))
theorem zp_stop {a b : Value} {Q : Option Value → Shared → Prop} (hh : A.handled = none) (D : ZipApart z TI TO i1 i2 l1 l2) (hz : IsZip s.heap z TI TO .none) (hTI : IsPair s.heap TI (.ref i1) (.ref i2)) (hTO : IsPair s.heap TO a b)
    (h1 : SIt b1 s.heap i1 l1 k1) (h2 : SIt b2 s.heap i2 l2 k2) (hl1 : SSq b1 s.heap l1 xs) (hl2 : SSq b2 s.heap l2 ys) (hend : xs[k1]? = none ∨ ys[k2]? = none)
    (hQ : ∀ h', (∀ c o, c ≠ z → c ≠ TO → c ≠ i1 → c ≠ i2 → s.heap.get? c = some o → h'.get? c = some o) → Q none { s with heap := h' }) : wpAny (model prog w) A (pyNext (.ref z)) Q E s := by
  have ty : s.TypeIs (.ref z) "zip" := ⟨_, hz, rfl⟩
  unfold pyNext
  exact wpAny_bind (wpAny_attempt (wpAny_callSpecial?_slot (name := Str.ofString "__next__") ty F.slot_zip_next (wpAny_call_entry F.slot_zip_next ty F.entry_zip_next (zp_end hh D hz hTI hTO h1 h2 hl1 hl2 hend fun h' e hk ⟨o, ho, hc⟩ =>
    wpAny_bind (wpAny_isInstance (T := "StopIteration") (b := true) ⟨o, ho, hc⟩ isSubtype_stop (wpAny_pure (hQ _ hk)))) (F.args_zip_next_1 _))))
end
/-! ### making it -/
def iterOf (b : Bool) (l : Addr) : Obj := { cls := .type (cond b "list_iterator" "tuple_iterator"), data := .fields #[.ref l, .int 0 0] }
theorem si_iter {prog : Program} {w : World} {A : Around} {E : Value → Shared → Prop} {s : Shared} {b : Bool} {l : Addr} {v : Array Value} {Q : Value → Shared → Prop} (hl : SSq b s.heap l v)
    (hQ : Q (.ref s.heap.objs.size) { s with heap := s.heap.push (iterOf b l) }) : wpAny (model prog w) A (pyIter (.ref l)) Q E s := by
  cases b with
  | true => exact wpAny_pyIter_list hl hQ
  | false => exact wpAny_pyIter_tuple hl hQ
theorem SSq.push : ∀ {b : Bool} {h : Heap} {l : Addr} {v : Array Value}, SSq b h l v → ∀ o, SSq b (h.push o) l v
  | true, _, _, _, x, o => Heap.IsList.push x o
  | false, _, _, _, x, o => Heap.IsTuple.push x o
abbrev zpA (b1 : Bool) (h : Heap) (l1 : Addr) : Heap := h.push (iterOf b1 l1)
abbrev zpB (b1 b2 : Bool) (h : Heap) (l1 l2 : Addr) : Heap := (zpA b1 h l1).push (iterOf b2 l2)
abbrev zpC (b1 b2 : Bool) (h : Heap) (l1 l2 : Addr) : Heap := (zpB b1 b2 h l1 l2).push { cls := .type "tuple", data := .seq #[.ref h.objs.size, .ref (zpA b1 h l1).objs.size] }
abbrev zpD (b1 b2 : Bool) (h : Heap) (l1 l2 : Addr) : Heap := (zpC b1 b2 h l1 l2).push { cls := .type "tuple", data := .seq #[.none, .none] }
abbrev zpE (b1 b2 : Bool) (h : Heap) (l1 l2 : Addr) : Heap := (zpD b1 b2 h l1 l2).push { cls := .type "zip", data := .fields #[.none, .bool false, .bool false, .ref (zpB b1 b2 h l1 l2).objs.size, .ref (zpC b1 b2 h l1 l2).objs.size] }
theorem zp_new (b1 b2 : Bool) (l1 l2 : Addr) (xs ys : Array Value) : Meets (Builtin.«zip.__new__» ⟨[.type "zip", .ref l1, .ref l2], []⟩) (fun _ R s => SSq b1 s.heap l1 xs ∧ SSq b2 s.heap l2 ys ∧
      R (.ok (.ret (.ref (zpD b1 b2 s.heap l1 l2).objs.size))) { s with heap := zpE b1 b2 s.heap l1 l2 }) :=
  .of_wp fun prog w A R s h => by
    obtain ⟨hp, g, d, tk, os⟩ := s; obtain ⟨q1, q2, h⟩ := h
    have hsub := sub_zip
    have g1 : SSq b1 (Shared.heap ⟨hp, g, d, tk, os⟩) l1 xs := q1
    have g2 : SSq b2 (Shared.heap ⟨hp.push (iterOf b1 l1), g, d, tk, os⟩) l2 ys := SSq.push q2 _
    wp_walk using si_iter g1, si_iter g2
    exact ⟨_, rfl, h⟩
theorem zp_call {prog : Program} {w : World} {A : Around} {E : Value → Shared → Prop} {s : Shared} {b1 b2 : Bool} {l1 l2 : Addr} {xs ys : Array Value} {Q : Value → Shared → Prop} (hl1 : SSq b1 s.heap l1 xs) (hl2 : SSq b2 s.heap l2 ys)
    (h : ∀ h', IsZip h' (s.heap.objs.size + 4) (s.heap.objs.size + 2) (s.heap.objs.size + 3) .none → IsPair h' (s.heap.objs.size + 2) (.ref s.heap.objs.size) (.ref (s.heap.objs.size + 1)) → IsPair h' (s.heap.objs.size + 3) .none .none →
      SIt b1 h' s.heap.objs.size l1 0 → SIt b2 h' (s.heap.objs.size + 1) l2 0 → (∀ c o, s.heap.get? c = some o → h'.get? c = some o) → Q (.ref (s.heap.objs.size + 4)) { s with heap := h' }) :
    wpAny (model prog w) A (call (.type "zip") [.ref l1, .ref l2]) Q E s := by
  refine callType_new F.called_zip (by decide) (F.typeCall_zip_2 _ _) (F.newCall_zip_2 _ _) (fun obj => F.args_object_init_3 obj _ _) F.entry_zip_new (zp_new b1 b2 l1 l2 xs ys) ⟨hl1, hl2, ?_⟩
  have n1 : (zpA b1 s.heap l1).objs.size = s.heap.objs.size + 1 := Heap.size_push ..
  have n2 : (zpB b1 b2 s.heap l1 l2).objs.size = s.heap.objs.size + 2 := by rw [Heap.size_push, n1]
  have n3 : (zpC b1 b2 s.heap l1 l2).objs.size = s.heap.objs.size + 3 := by rw [Heap.size_push, n2]
  have n4 : (zpD b1 b2 s.heap l1 l2).objs.size = s.heap.objs.size + 4 := by rw [Heap.size_push, n3]
  have p : ∀ {h : Heap} {o o' : Obj} {c : Addr}, h.get? c = some o → (h.push o').get? c = some o := fun e => Heap.get?_push_of_some _ e
  have g5 : (zpE b1 b2 s.heap l1 l2).get? (zpD b1 b2 s.heap l1 l2).objs.size = some _ := Heap.get?_push_size _ rfl
  have g4 : (zpE b1 b2 s.heap l1 l2).get? (zpC b1 b2 s.heap l1 l2).objs.size = some _ := p (Heap.get?_push_size _ rfl)
  have g3 : (zpE b1 b2 s.heap l1 l2).get? (zpB b1 b2 s.heap l1 l2).objs.size = some _ := p (p (Heap.get?_push_size _ rfl))
  have fr : ∀ b l, (iterOf b l).isFreed = false := fun b l => rfl
  have g2 : (zpE b1 b2 s.heap l1 l2).get? (zpA b1 s.heap l1).objs.size = some (iterOf b2 l2) := p (p (p (Heap.get?_push_size _ (fr _ _))))
  have g1 : (zpE b1 b2 s.heap l1 l2).get? s.heap.objs.size = some (iterOf b1 l1) := p (p (p (p (Heap.get?_push_size _ (fr _ _)))))
  show _ ∧ _
  rw [n2, n3, n4] at g5
  rw [n1, n2] at g3
  rw [n3] at g4
  rw [n1] at g2
  rw [n4]
  have s1 : SIt b1 (zpE b1 b2 s.heap l1 l2) s.heap.objs.size l1 0 := by cases b1 <;> exact ⟨_, g1, rfl, rfl⟩
  have s2 : SIt b2 (zpE b1 b2 s.heap l1 l2) (s.heap.objs.size + 1) l2 0 := by cases b2 <;> exact ⟨_, g2, rfl, rfl⟩
  exact ⟨⟨_, g5, rfl⟩, h _ g5 g3 g4 s1 s2 fun c o e => p (p (p (p (p e))))⟩
/-! ### walking it -/
/-- a list (true) or a tuple (false) of the heap -/
def SqB : Bool → PySem.W.Frag → Hp → Addr → List V → Prop
  | true, K, H, a, xs => SqL K H a xs
  | false, K, H, a, xs => SqT K H a xs
theorem Inv.sqB {X : Cx} {pins : List (Addr × Obj)} {σ : St} {H : Hp} {s : Shared} {a : Addr} {xs : List V} (I : Inv X pins σ H s) : ∀ {b : Bool}, SqB b X.K H a xs → ∃ its : List Value, Vals xs its ∧ SSq b s.heap a its.toArray
  | true, h => by obtain ⟨its, r, p, _⟩ := I.list h; exact ⟨its, r, p.isList⟩
  | false, h => by obtain ⟨its, r, p, _⟩ := I.tuple h; exact ⟨its, r, p⟩
theorem Inv.sqB_inj {X : Cx} {pins : List (Addr × Obj)} {σ : St} {H : Hp} {s : Shared} {a : Addr} {xs ys : List V} (I : Inv X pins σ H s) : ∀ {b : Bool}, SqB b X.K H a xs → SqB b X.K H a ys → xs = ys
  | true, h, h' => I.list_inj h h'
  | false, h, h' => I.tuple_inj h h'
def Itz (K : PySem.W.Frag) (b1 b2 : Bool) (l1 l2 : Addr) : It :=
  ⟨fun i H => ∃ xs ys x y, SqB b1 K H l1 xs ∧ SqB b2 K H l2 ys ∧ xs[i]? = some x ∧ ys[i]? = some y,
   fun i H x H' => ∃ t p q, x = .ref t ∧ H t = none ∧ H' = upd H t (.tup [p, q]) ∧ (∀ xs, SqB b1 K H l1 xs → xs[i]? = some p) ∧ (∀ ys, SqB b2 K H l2 ys → ys[i]? = some q),
   fun i H => ∃ xs ys, SqB b1 K H l1 xs ∧ SqB b2 K H l2 ys ∧ (xs.length ≤ i ∨ ys.length ≤ i)⟩
theorem getV {xs : List V} {its : List Value} (r : Vals xs its) {i : Nat} (h : xs.length ≤ i) : its.toArray[i]? = none := by
  have := r.length
  simp
  omega
theorem Inv.turnedMany {X : Cx} {pins : List (Addr × Obj)} {σ : St} {H : Hp} {s : Shared} {h' : Heap} {t' : Nat} {ch : List Addr} (I : Inv X pins σ H s) (hch : ∀ b ∈ ch, FpOk X pins H b) (k : ∀ b o, b ∉ ch → s.heap.get? b = some o → h'.get? b = some o) : Inv X pins σ H { s with heap := h', toks := t' } := by
  have nch : ∀ b u, H b = some u → b ∉ ch := fun b u e z => by rw [(hch b z).1] at e; cases e
  refine I.step (g' := s.gens) (d' := s.drawn) (t' := t') (ch := ch) (fun b hb => ⟨(hch b hb).2.2.2.1, (hch b hb).2.1, (hch b hb).2.2.2.2.1, (hch b hb).2.2.2.2.2⟩) (fun b o _ _ hc e _ => k b o hc e) (fun b o _ _ hc e _ => ⟨o.slots, k b o hc e⟩) (fun _ _ _ _ n => n)
    (fun b o hc e => ⟨o, k b o hc e⟩) (fun _ _ e => e) (fun _ _ _ e => e) (fun b ps e => ⟨#[], by rw [e]; simp⟩) (fun m hm => ?_) (fun b u e => ?_) I.bare
  · obtain ⟨o, es, ep, ho, r⟩ := hm
    exact ⟨o, es, ep, k _ o (fun z => (hch _ z).2.1 rfl) ho, r⟩
  · refine (I.hok b u e).stay (fun c v hc q => k c v ?_ q) (fun c q => q) fun c xs q => q
    rcases hc with z | z
    · rw [z]; exact nch b u e
    · exact nch c _ z
theorem turn_zip {P : Program} {w : World} {K : PySem.W.Frag} {elts : List Expr} {x1 : Nat} {pos : Pos} {b1 b2 : Bool} (l1 l2 z TI TO i1 i2 : Addr) (D : ZipApart z TI TO i1 i2 l1 l2) : Turn P w K (.Tuple elts x1 pos) (Itz K b1 b2 l1 l2) [z, TI, TO, i1, i2] z
    (fun i h => IsZip h z TI TO .none ∧ IsPair h TI (.ref i1) (.ref i2) ∧ (∃ a b, IsPair h TO a b) ∧ SIt b1 h i1 l1 i ∧ SIt b2 h i2 l2 i) where
  mem := by simp
  obj := fun i h st b hb => by
    obtain ⟨q1, q2, ⟨u, v, q3⟩, q4, q5⟩ := st
    simp only [List.mem_cons, List.not_mem_nil, or_false] at hb
    rcases hb with rfl | rfl | rfl | rfl | rfl
    · exact ⟨_, q1, fun v z => by cases z⟩
    · exact ⟨_, q2, fun v z => by cases z⟩
    · exact ⟨_, q3, fun v z => by cases z⟩
    · exact q4.obj
    · exact q5.obj
  keep := fun i h h' st k => by
    obtain ⟨q1, q2, ⟨u, v, q3⟩, q4, q5⟩ := st
    exact ⟨k z (by simp) _ q1, k TI (by simp) _ q2, ⟨u, v, k TO (by simp) _ q3⟩, q4.at_ fun o e => k i1 (by simp) o e, q5.at_ fun o e => k i2 (by simp) o e⟩
  item := by
    intro X hP hw hK hc i pins s σ H E I hf st hg
    subst hP hw hK
    obtain ⟨q1, q2, ⟨u, v, q3⟩, q4, q5⟩ := st
    obtain ⟨xs, ys, x, y, hx, hy, ex, ey⟩ := hg
    obtain ⟨ia, ra, pa⟩ := I.sqB hx
    obtain ⟨ib, rb, pb⟩ := I.sqB hy
    obtain ⟨ux, eux, rux⟩ := ra.get ex
    obtain ⟨uy, euy, ruy⟩ := rb.get ey
    refine zp_next D q1 q2 q3 q4 q5 pa pb (x := ux) (y := uy) (by simpa using eux) (by simpa using euy) fun h' n1 n2 n3 n4 n5 n6 hk => ⟨_, rfl, ?_⟩
    refine wpAny_letOwnedTupleGo_zip n1 fun h2 z2 sb => ?_
    have lt : ∀ {b : Addr} {o : Obj}, s.heap.get? b = some o → b ≠ s.heap.objs.size := fun e => Nat.ne_of_lt (Heap.lt_size e)
    have kk : ∀ b o, b ∉ [z, TO, i1, i2] → s.heap.get? b = some o → h2.get? b = some o := fun b o hb e => by
      simp only [List.mem_cons, List.not_mem_nil, or_false, not_or] at hb
      exact sb.extBut b o hb.1 (hk b o hb.1 hb.2.1 hb.2.2.1 hb.2.2.2 e)
    have ltz := lt q1
    refine ⟨.ref s.heap.objs.size, upd H s.heap.objs.size (.tup [x, y]), ?_, rfl, ⟨_, x, y, rfl, I.hok.fresh (Nat.le_refl _), rfl, fun zs hz => by rw [I.sqB_inj hz hx]; exact ex, fun zs hz => by rw [I.sqB_inj hz hy]; exact ey⟩, ⟨z2, ?_, ⟨_, _, sb.extBut _ _ D.TOz n2⟩, n3.ext sb.extBut D.i1z, n4.ext sb.extBut D.i2z⟩, fun b hb => ?_⟩
    · exact I.tupled (ch := [z, TO, i1, i2]) (its := [ux, uy]) (fun b hb => hf b (by simp only [List.mem_cons, List.not_mem_nil, or_false] at hb ⊢; rcases hb with h | h | h | h <;> simp [h])) kk (by show 2 ≤ sizeLine; decide) (.cons rux (.cons ruy .nil)) ⟨_, sb.extBut _ _ (Ne.symm ltz) n5, rfl, _, rfl⟩
    · exact kk TI _ (by simp only [List.mem_cons, List.not_mem_nil, or_false, not_or]; exact ⟨D.TIz, D.TITO, D.TIi1, D.TIi2⟩) q2
    · have hb' := (hf b hb).1
      have nb : b ≠ s.heap.objs.size := by
        simp only [List.mem_cons, List.not_mem_nil, or_false] at hb
        rcases hb with h | h | h | h | h <;> subst h
        · exact lt q1
        · exact lt q2
        · exact lt q3
        · obtain ⟨o, e, _⟩ := q4.obj; exact lt e
        · obtain ⟨o, e, _⟩ := q5.obj; exact lt e
      rw [upd_ne nb]
      exact hb'
  done := by
    intro X hP hw hK hc i pins s σ H E I hf st hg
    subst hP hw hK
    obtain ⟨q1, q2, ⟨u, v, q3⟩, q4, q5⟩ := st
    obtain ⟨xs, ys, hx, hy, hend⟩ := hg
    obtain ⟨ia, ra, pa⟩ := I.sqB hx
    obtain ⟨ib, rb, pb⟩ := I.sqB hy
    refine zp_stop (I.ok.hd hc) D q1 q2 q3 q4 q5 pa pb (hend.imp (getV ra) (getV rb)) fun h' hk => ⟨rfl, ?_⟩
    refine I.turnedMany (t' := s.toks) (ch := [z, TO, i1, i2]) (fun b hb => hf b (by simp only [List.mem_cons, List.not_mem_nil, or_false] at hb ⊢; rcases hb with h | h | h | h <;> simp [h])) fun b o hb e => ?_
    simp only [List.mem_cons, List.not_mem_nil, or_false, not_or] at hb
    exact hk b o hb.1 hb.2.1 hb.2.2.1 hb.2.2.2 e
  self := fun _ _ _ _ _ st h => wpAny_pyIter_zip st.1 h
theorem neA {x y : Nat} (h : ¬ x = y) : @Ne Addr x y := h
theorem apartA (n l1 l2 : Nat) (h1 : l1 < n) (h2 : l2 < n) : ZipApart (n + 4) (n + 2) (n + 3) n (n + 1) l1 l2 := by
  constructor <;> (refine neA ?_; omega)
def iZip (b1 b2 : Bool) (K : PySem.W.Frag) (ta : TA) : TI := fun σ H R => ta σ H fun vs H1 => ∃ l1 l2, vs = [.ref l1, .ref l2] ∧ (∃ xs, SqB b1 K H1 l1 xs) ∧ (∃ ys, SqB b2 K H1 l2 ys) ∧ R (Itz K b1 b2 l1 l2) H1
section
variable {X : Cx} {a b : Expr} {ta : TA} {elts : List Expr} {x1 : Nat} {tpos p pos : Pos}
theorem pi_zip (b1 b2 : Bool) (hg : Gl X "zip") (hm : X.mg "zip" = none) (ha : PA X [a, b] ta) (hs : starEach [a, b] X.env = [(false, eval a X.env), (false, eval b X.env)] := by rfl) (hs2 : starEach [b] X.env = [(false, eval b X.env)] := by rfl) :
    PI X (.Tuple elts x1 tpos) (.Call (.Name "zip" p) [a, b] [] pos) (iZip b1 b2 X.K ta) := by
  intro pins s σ H R I h
  refine Call_ (ld_blt I hg hm boot_zip (PyProof.Rows.callWith_type1 (thn (ha pos pins s σ H _ I h) fun us s1 ⟨vs, H1, I1, r1, q1⟩ => ?_) (by rw [hs, hs2]) (by rw [hs2]; rfl)))
  obtain ⟨l1, l2, e, ⟨xs, hx⟩, ⟨ys, hy⟩, q⟩ := q1
  subst e
  obtain ⟨u1, u2, rfl, e1, e2⟩ := vals2 r1
  cases e1
  cases e2
  obtain ⟨ia, ra, pa⟩ := I1.sqB hx
  obtain ⟨ib, rb, pb⟩ := I1.sqB hy
  have lt : ∀ {b : Bool} {l : Addr} {v : Array Value}, SSq b s1.heap l v → l < s1.heap.objs.size := fun {b l v} h => by
    cases b
    · obtain ⟨o, e, _⟩ := h; exact Heap.lt_size e
    · obtain ⟨o, e, _⟩ := h; exact Heap.lt_size e
  have k1 := lt pa
  have k2 := lt pb
  have D : ZipApart (s1.heap.objs.size + 4) (s1.heap.objs.size + 2) (s1.heap.objs.size + 3) s1.heap.objs.size (s1.heap.objs.size + 1) l1 l2 := by
    exact apartA _ _ _ k1 k2
  refine zp_call pa pb fun h' n1 n2 n3 n4 n5 hk => ?_
  have I2 : Inv X pins σ H1 { s1 with heap := h' } := I1.kept (t' := s1.toks) hk
  have fr : ∀ j, FpOk X pins H1 (s1.heap.objs.size + j) := fun j => I1.fpOk (Nat.le_add_right _ _) (I1.hok.fresh (Nat.le_add_right _ _))
  refine wpAny_pyIter_zip n1 ⟨s1.heap.objs.size + 4, [s1.heap.objs.size + 4, s1.heap.objs.size + 2, s1.heap.objs.size + 3, s1.heap.objs.size, s1.heap.objs.size + 1], _, _, H1, rfl, I2, turn_zip l1 l2 _ _ _ _ _ D, ⟨n1, n2, ⟨_, _, n3⟩, n4, n5⟩, fun b hb => ?_, q⟩
  simp only [List.mem_cons, List.not_mem_nil, or_false] at hb
  rcases hb with h | h | h | h | h <;> subst h
  · exact fr 4
  · exact fr 2
  · exact fr 3
  · exact fr 0
  · exact fr 1
end
theorem for_zip {K : PySem.W.Frag} {b1 b2 : Bool} {l1 l2 : Addr} {xs ys : List V} {g : TG} {tb : TS} {D : Ends} {σ : St} {H : Hp} (hlen : xs.length = ys.length) (Pv : Nat → St → Hp → Prop) (h0 : Pv 0 σ H) (hl : ∀ i σ H, i ≤ xs.length → Pv i σ H → SqB b1 K H l1 xs ∧ SqB b2 K H l2 ys)
    (hs : ∀ (i : Nat) x y σ H t, xs[i]? = some x → ys[i]? = some y → Pv i σ H → H t = none → g (.ref t) σ (upd H t (.tup [x, y])) fun σ2 H2 => tb { D with nx := Pv (i + 1), ct := Pv (i + 1), bk := D.nx } σ2 H2) (hd : ∀ σ H, Pv xs.length σ H → D.nx σ H) :
    ∃ W : Nat → Nat → St → Hp → Prop, (∃ m, W 0 m σ H) ∧ ∀ i m σ H, W i m σ H →
      ((Itz K b1 b2 l1 l2).stop i H ∧ D.nx σ H) ∨ ((Itz K b1 b2 l1 l2).go i H ∧ ∃ N : St → Hp → Prop, (∀ σ' H', N σ' H' → ∃ m', m' < m ∧ W (i + 1) m' σ' H') ∧ ∀ x H', (Itz K b1 b2 l1 l2).yld i H x H' → g x σ H' fun σ2 H2 => tb { D with nx := N, ct := N, bk := D.nx } σ2 H2) := by
  refine ⟨fun i m σ H => m = xs.length - i ∧ i ≤ xs.length ∧ Pv i σ H, ⟨xs.length, by simp, Nat.zero_le _, h0⟩, ?_⟩
  rintro i m σ H ⟨rfl, hi, p⟩
  obtain ⟨q1, q2⟩ := hl i σ H hi p
  by_cases hlt : i < xs.length
  · refine .inr ⟨⟨xs, ys, xs[i], ys[i]'(hlen ▸ hlt), q1, q2, by simp [hlt], List.getElem?_eq_getElem _⟩, Pv (i + 1), fun σ' H' p' => ⟨xs.length - (i + 1), by omega, rfl, hlt, p'⟩, fun x H' y => ?_⟩
    obtain ⟨t, u, v, rfl, hn, rfl, y1, y2⟩ := y
    exact hs i u v σ H t (y1 xs q1) (y2 ys q2) p hn
  · have e : i = xs.length := by omega
    subst e
    exact .inl ⟨⟨xs, ys, q1, q2, .inl (Nat.le_refl _)⟩, hd σ H p⟩
theorem comp_zip {K : PySem.W.Frag} {b1 b2 : Bool} {l1 l2 : Addr} {xs zs : List V} {B : V → List V → (List V → Hp → Prop) → Hp → Prop} {Z : List V → Hp → Prop} {H : Hp} (hlen : xs.length = zs.length) (Pv : Nat → List V → Hp → Prop) (h0 : Pv 0 [] H) (hl : ∀ i ys H, i ≤ xs.length → Pv i ys H → SqB b1 K H l1 xs ∧ SqB b2 K H l2 zs)
    (hy : ∀ i ys H, i < xs.length → Pv i ys H → ys.length < sizeLine) (hs : ∀ (i : Nat) x z ys H t, xs[i]? = some x → zs[i]? = some z → Pv i ys H → H t = none → B (.ref t) ys (Pv (i + 1)) (upd H t (.tup [x, z]))) (hd : ∀ ys H, Pv xs.length ys H → Z ys H) :
    ∃ W : Nat → Nat → List V → Hp → Prop, (∃ m, W 0 m [] H) ∧ ∀ i m ys H, W i m ys H →
      ((Itz K b1 b2 l1 l2).stop i H ∧ Z ys H) ∨ ((Itz K b1 b2 l1 l2).go i H ∧ ys.length < sizeLine ∧ ∃ N : List V → Hp → Prop, (∀ ys' H', N ys' H' → ∃ m', m' < m ∧ W (i + 1) m' ys' H') ∧ ∀ x H', (Itz K b1 b2 l1 l2).yld i H x H' → B x ys N H') := by
  refine ⟨fun i m ys H => m = xs.length - i ∧ i ≤ xs.length ∧ Pv i ys H, ⟨xs.length, by simp, Nat.zero_le _, h0⟩, ?_⟩
  rintro i m ys H ⟨rfl, hi, p⟩
  obtain ⟨q1, q2⟩ := hl i ys H hi p
  by_cases hlt : i < xs.length
  · refine .inr ⟨⟨xs, zs, xs[i], zs[i]'(hlen ▸ hlt), q1, q2, by simp [hlt], List.getElem?_eq_getElem _⟩, hy i ys H hlt p, Pv (i + 1), fun ys' H' p' => ⟨xs.length - (i + 1), by omega, rfl, hlt, p'⟩, fun x H' y => ?_⟩
    obtain ⟨t, u, v, rfl, hn, rfl, y1, y2⟩ := y
    exact hs i u v ys H t (y1 xs q1) (y2 zs q2) p hn
  · have e : i = xs.length := by omega
    subst e
    exact .inl ⟨⟨xs, zs, q1, q2, .inl (Nat.le_refl _)⟩, hd ys H p⟩
end L2

set_option Elab.async false
set_option linter.all false
set_option maxRecDepth 100000
set_option maxHeartbeats 4000000
/-! C.m(self, ..) of an own class; list(range(a, b)) -/
namespace L2
open PySem PySem.Spec PyProof.Rows
structure CMeth (K : PySem.W.Frag) (C : Addr) (m : Str) (f : Addr) : Prop where
  hg : PySem.W.specialIn K (.ref C) "__getattribute__" = some (some (.builtin "type.__getattribute__"))
  rd : PySem.W.readsIn K C (.type "type") = true
  fc : PySem.W.findCls K (.ref C) (.type "type") m = some (.val (.ref f))
  kp : PySem.W.keepIn K (.ref f) = true
section
variable {X : Cx} {CX : CXT} {k : Nat} {f C : Addr} {fd : FuncData} {ps : List Str} {sp : Sp} {dvs : List V} {ds : List Value} {E : XK} {x m : Str} {p pos apos : Pos} {e : Expr} {es : List Expr} {t : TA}
theorem pe_callC {pl : Sem Bool} (hg : Gl X x) (hm : X.mg x = some (.ref C)) (M : CMeth X.K C m f) (F : FnOk X.prog X.w X.K X.mg X.base CX k f fd ps sp) (hr : Room k X.A) (hb : Binds X.K fd ps ds) (hd : Vals dvs ds) (hx : Passes CX X E) (ha : PA X (e :: es) t)
    (hdb : (x == ("__debug__" : Str)) = false := by decide) (hst : starEach (e :: es) X.env = (false, eval e X.env) :: starEach es X.env := by rfl) (hpl : (backTo pos (starEach es X.env)).any (·.1) = false := by rfl)
    (ht : eval (.Call (.Attribute (.Name x p) m apos) (e :: es) [] pos) X.env = (do
      let ov ← eval (.Name x p) X.env
      standAt apos.atName
      let (f, first) ← holding [ov] (getMethod ov m pl)
      callWith pos f first (backTo pos (starEach (e :: es) X.env)) (backToKw pos (keywordEach [] X.env))) := by rfl) :
    PE X (.Call (.Attribute (.Name x p) m apos) (e :: es) [] pos) (tCall sp dvs E t) := by
  intro pins s σ H Q I h
  refine PySem.W.methodCall_KW (pl := pl) (ld_glob I hg hm ?_ hdb) ht
  refine PySem.W.method_cls I.kIn M.hg (PySem.W.cls_value I.kIn M.rd M.fc rfl ?_)
  have I1 := I.tok (s.toks + 1)
  refine PySem.W.callWith_K (first := []) (h₀ := X.base) I.ok.mod.kin M.kp (thn (ha pos pins _ σ H _ I1 h) fun us s2 ⟨vs, H2, I2, r, q2⟩ => ⟨I2.kIn, ?_⟩) hst hpl
  exact run_fn (us := us) (vs := vs) F hr hb hd hx I2 r q2
end
def upTo (i : Int) (n : Nat) : List V := (List.range n).map fun k => V.int (i + (k : Nat))
theorem upTo_len (i : Int) (n : Nat) : (upTo i n).length = n := by unfold upTo; simp
theorem upTo_succ (i : Int) (n : Nat) : upTo i (n + 1) = upTo i n ++ [.int (i + n)] := by unfold upTo; rw [List.range_succ, List.map_append]; rfl
theorem vals_upTo {i : Int} {n : Nat} {its : List Value} (hl : its.length = n) (h : ∀ k v, its[k]? = some v → ∃ t, v = Value.int (i + (k : Nat)) t) : Vals (upTo i n) its := by
  induction n generalizing its with
  | zero =>
    cases its with
    | nil => exact .nil
    | cons _ _ => cases hl
  | succ n ih =>
    have hlt : n < its.length := by omega
    obtain ⟨t, ht⟩ := h n its[n] (List.getElem?_eq_getElem hlt)
    have e : its = its.take n ++ [its[n]] := by
      have := List.take_append_getElem (l := its) (i := n) hlt
      rw [this, List.take_of_length_le (by omega)]
    rw [upTo_succ, e]
    refine Vals.append (ih (by rw [List.length_take]; omega) fun k v hk => ?_) (.cons ⟨t, ht⟩ .nil)
    rw [List.getElem?_take] at hk
    split at hk
    · exact h k v hk
    · cases hk
end L2

set_option Elab.async false
set_option linter.all false
set_option maxRecDepth 100000
set_option maxHeartbeats 4000000
/-! range(a, b) of any ints: small ones and great ones; list(range(a, b)) -/
namespace L2
open PySem PySem.Spec PyProof.Rows
def rOb (sm : Bool) (x left step : Int) : Obj := { cls := .type (cond sm "range_iterator" "longrange_iterator"), dict := none, data := .fields #[rawInt x, rawInt left, rawInt step], slots := #[] }
def rSt (sm : Bool) (h : Heap) (it : Addr) (x left step : Int) : Prop := h.get? it = some (rOb sm x left step)
theorem walks_any {prog : Program} {w : World} {A : Around} (hh : A.handled = none) (sm : Bool) (I : Addr) (a c : Int) (n : Nat) :
    Walks prog w A I [I] [I] n (fun i v => ∃ t, v = .int (a + i * c) t) (fun i h => rSt sm h I (a + (i : Nat) * c) ((n : Int) - (i : Nat)) c) := by
  cases sm
  · exact Walks.longrange hh I a c n
  · exact Walks.range hh I a c n
theorem iter_any {prog : Program} {w : World} {A : Around} {E : Value → Shared → Prop} {s : Shared} {r : Addr} {a b c : Int} {t u v : Tok} {Q : Value → Shared → Prop} (hr : IsRange s.heap r a b c t u v)
    (hQ : Q (.ref s.heap.objs.size) { s with heap := s.heap.push (rOb (Builtin.Range.small a b c) a (Builtin.Range.rangeSize a b c) c) }) : wpAny (model prog w) A (pyIter (.ref r)) Q E s := by
  cases e : Builtin.Range.small a b c with
  | true => rw [e] at hQ; exact wpAny_pyIter_range hr e hQ
  | false => rw [e] at hQ; exact wpAny_pyIter_longrange hr e hQ
theorem turn_any {P : Program} {w : World} {K : PySem.W.Frag} {tg : Expr} (sm : Bool) (it : Addr) (lo : Int) (n : Nat) : Turn P w K tg (Itr lo n) [it] it (fun i h => rSt sm h it (lo + (i : Nat) * 1) ((n : Int) - (i : Nat)) 1) where
  mem := by simp
  obj := fun i h st b hb => by
    have e : b = it := by simpa using hb
    subst e
    exact ⟨_, st, fun v z => by
      have z' : Data.fields _ = Data.cell v := z
      cases z'⟩
  keep := fun i h h' st k => k it (by simp) _ st
  item := by
    intro X hP hw hK hc i pins s σ H E I hf st hg
    subst hP hw hK
    obtain ⟨f0, f1, f2, f3, f4, f5⟩ := hf it (by simp)
    have W := walks_any (prog := X.prog) (w := X.w) (I.ok.hd hc) sm it lo 1 n
    refine W.item i s _ _ hg st fun v h' tk hv st' kk => ?_
    obtain ⟨t, rfl⟩ := hv
    have I1 : Inv X pins σ H { s with heap := h', toks := tk } := I.turned (fun b o hb e => kk b o (by simpa using hb) e) f0 f1 f3 f4 f5
    refine ⟨_, rfl, go_of (s := { s with heap := h', toks := tk }) (n := cond sm "range_iterator" "longrange_iterator") st' rfl rfl (by cases sm <;> decide) ⟨.int (lo + i), H, I1, ⟨t, ?_⟩, ⟨rfl, rfl⟩, st', fun b hb => (hf b hb).1⟩⟩
    rw [Int.mul_one]
  done := by
    intro X hP hw hK hc i pins s σ H E I hf st hg
    subst hP hw hK
    obtain ⟨f0, f1, f2, f3, f4, f5⟩ := hf it (by simp)
    have hl : (n : Int) - (i : Nat) ≤ 0 := by have : n ≤ i := hg; omega
    cases sm
    · exact wpAny_pyNext_long_end (I.ok.hd hc) st hl fun h' eb => ⟨rfl, I.turned (t' := s.toks) (fun b o hb e => eb b o hb e) f0 f1 f3 f4 f5⟩
    · exact wpAny_pyNext_range_end (I.ok.hd hc) st hl fun h' eb => ⟨rfl, I.turned (t' := s.toks) (fun b o hb e => eb b o hb e) f0 f1 f3 f4 f5⟩
  self := fun _ _ _ _ _ st h => by
    cases sm
    · exact wpAny_pyIter_longiter st h
    · exact wpAny_pyIter_rangeiter st h
section
variable {X : Cx} {tg a b : Expr} {ta : TA} {p p1 pos pos1 : Pos}
def iRngB (ta : TA) : TI := fun σ H R => ta σ H fun vs H1 => ∃ i j : Int, vs = [.int i, .int j] ∧ R (Itr i (j - i).toNat) H1
theorem pi_rangeB (hg : Gl X "range") (hm : X.mg "range" = none) (ha : PA X [a, b] ta) (hs : starEach [a, b] X.env = [(false, eval a X.env), (false, eval b X.env)] := by rfl) (hs2 : starEach [b] X.env = [(false, eval b X.env)] := by rfl) :
    PI X tg (.Call (.Name "range" p) [a, b] [] pos) (iRngB ta) := by
  intro pins s σ H R I h
  refine Call_ (ld_blt I hg hm boot_range (PyProof.Rows.callWith_type1 (thn (ha pos pins s σ H _ I h) fun us s1 ⟨vs, H1, I1, r1, q1⟩ => ?_) (by rw [hs, hs2]) (by rw [hs2]; rfl)))
  obtain ⟨lo, hi, e, q⟩ := q1
  subst e
  obtain ⟨u1, u2, rfl, e1, e2⟩ := vals2 r1
  obtain ⟨t, rfl⟩ := e1
  obtain ⟨t', rfl⟩ := e2
  refine call_range_2 (iter_any (IsRange.new ..) ?_)
  refine ⟨_, [_], _, _, H1, rfl, (I1.kept (t' := _) fun b o e => Heap.get?_push_of_some _ (Heap.get?_push_of_some _ e)), turn_any (Builtin.Range.small lo hi 1) _ lo (hi - lo).toNat, ?_, fun b hb => ?_, q⟩
  · have e1 : lo + ((0 : Nat) : Int) * 1 = lo := by simp
    have e2 : (((hi - lo).toNat : Nat) : Int) - ((0 : Nat) : Int) = Builtin.Range.rangeSize lo hi 1 := by rw [rangeSize_nat]; omega
    show rSt _ _ _ (lo + ((0 : Nat) : Int) * 1) ((((hi - lo).toNat : Nat) : Int) - ((0 : Nat) : Int)) 1
    rw [e1, e2]
    exact Heap.get?_push_size _ rfl
  · rw [List.mem_singleton.mp hb]
    exact I1.fpOk (by rw [Heap.size_push]; exact Nat.le_succ _) (I1.hok.fresh (by rw [Heap.size_push]; exact Nat.le_succ _))
end
/-! ### list(range(a, b)) -/
section
variable {prog : Program} {w : World} {A : Around} {s : Shared} {R : Result → Shared → Prop} {r : Addr} {a b c : Int} {t u v : Tok} {n : Nat}
theorem ext_any (hh : A.handled = none) (hr : IsRange s.heap r a b c t u v) (hn : Builtin.Range.rangeSize a b c = n) (hlen : n ≤ 2 ^ 24) (S : Addr) (res : Value) (c0 : Nat) (hS : s.heap.get? S = some { cls := .type "list", data := .seq #[] c0 })
    (hR : ∀ h' tk acc c', (∀ b o, b ≠ S → s.heap.get? b = some o → h'.get? b = some o) → h'.get? S = some { cls := .type "list", dict := none, data := .seq acc c', slots := #[] } → ItemsOf (fun i v => ∃ t, v = .int (a + i * c) t) acc n → R (.ok (.ret res)) { s with heap := h', toks := tk }) :
    wpAny (model prog w) A.in1 (Builtin.List.listExtendWith (.ref S) (.ref r) res) (fun fin s' => match fin with | .done f => R (.ok f) s' | .again c' => c'.quiet = true ∧ codeAny (model prog w) A c' R s') (fun e s' => R (.error e) s') s := by
  have nSr : S ≠ r := fun e => by rw [e, hr] at hS; simp at hS
  have nSn : S ≠ s.heap.objs.size := Nat.ne_of_lt (Heap.lt_size hS)
  have fS : S ∉ [s.heap.objs.size] := fun m => nSn (List.mem_singleton.mp m)
  have W := (walks_any (prog := prog) (w := w) (A := A.in1) hh (Builtin.Range.small a b c) s.heap.objs.size a c n).toS
  have key : ∀ (h : Heap) (c1 tk : Nat), rSt (Builtin.Range.small a b c) h s.heap.objs.size (a + ((0 : Nat) : Int) * c) ((n : Int) - ((0 : Nat) : Int)) c → (∀ b o, b ≠ S → s.heap.get? b = some o → h.get? b = some o) → h.get? S = some { cls := .type "list", data := .seq #[] c1 } →
      codeAny (model prog w) A (.builtin "list.extend.loop" ⟨[.ref S, .ref s.heap.objs.size, res], []⟩) R { s with heap := h, toks := tk } := by
    intro h c1 tk it k hS1
    refine codeAny_extend_loopS W (by rw [sizeLine_eq]; omega) S fS res n 0 _ #[] c1 rfl (Nat.zero_le _) it hS1 (ItemsOf.nil _) fun s' acc c' hm hS' ha => ?_
    rw [Moved.eq_with hm]
    refine hR s'.heap s'.toks acc c' (fun b o hb e => hm.heap b o (fun m => ?_) (k b o hb e)) hS' ha
    rcases List.mem_cons.mp m with q | q
    · exact hb q
    · rw [List.mem_singleton.mp q] at e
      exact absurd (Heap.lt_size e) (Nat.lt_irrefl _)
  unfold Builtin.List.listExtendWith
  refine wpAny_bind (wpAny_typeOf (T := "range") ⟨_, hr, rfl⟩ ?_)
  simp only [show Builtin.List.listSameRef (.ref S) (.ref r) = false by simp [Builtin.List.listSameRef, nSr], show (Value.type "range" == Value.type "list") = false by decide, show (Value.type "range" == Value.type "tuple") = false by decide, Bool.or_false, Bool.false_eq_true, if_false]
  refine wpAny_bind (iter_any hr (wpAny_bind (wpAny_holding (wpAny_hint_range (n := n) (Heap.get?_push_of_some _ hr) hn hlen ?_))))
  have it1 : rSt (Builtin.Range.small a b c) (s.heap.push (rOb (Builtin.Range.small a b c) a (Builtin.Range.rangeSize a b c) c)) s.heap.objs.size (a + ((0 : Nat) : Int) * c) ((n : Int) - ((0 : Nat) : Int)) c := by
    unfold rSt
    rw [hn]
    have := Heap.get?_push_size s.heap (o := rOb (Builtin.Range.small a b c) a n c) rfl
    simpa using this
  have hS1 := Heap.get?_push_of_some (rOb (Builtin.Range.small a b c) a (Builtin.Range.rangeSize a b c) c) hS
  refine wpAny_ite_split (fun _ => wpAny_bind (wpAny_rule (wpAny_bind ?_))) (fun _ => wpAny_pure ⟨plainId_quiet F.plain_extend_loop _, key _ c0 _ it1 (fun b o _ e => Heap.get?_push_of_some _ e) hS1⟩)
  show wpAny _ _ (updateSeq S (·.push .none) >>= fun _ => updateSeq S (·.pop)) _ _ _
  have hS2 := Heap.get?_update_self (Obj.mapSeq (·.push Value.none)) hS1 rfl
  refine wpAny_bind (wpAny_updateSeq hS1 rfl (wpAny_updateSeq (hz := by seq_fits) hS2 rfl (wpAny_pure ⟨plainId_quiet F.plain_extend_loop _, key _ _ _ ?_ (fun b o hb e => ?_) (Heap.get?_update_self (Obj.mapSeq (·.pop)) hS2 rfl)⟩)))
  · exact (Heap.get?_update_other _ _ nSn).trans ((Heap.get?_update_other _ _ nSn).trans it1)
  · exact (Heap.get?_update_other _ _ (Ne.symm hb)).trans ((Heap.get?_update_other _ _ (Ne.symm hb)).trans (Heap.get?_push_of_some _ e))
theorem init_any (hh : A.handled = none) (hr : IsRange s.heap r a b c t u v) (hn : Builtin.Range.rangeSize a b c = n) (hlen : n ≤ 2 ^ 24) (S : Addr) (hS : s.heap.get? S = some { cls := .type "list", data := .seq #[] })
    (hR : ∀ h' tk acc c', (∀ b o, b ≠ S → s.heap.get? b = some o → h'.get? b = some o) → h'.get? S = some { cls := .type "list", dict := none, data := .seq acc c', slots := #[] } → ItemsOf (fun i v => ∃ t, v = .int (a + i * c) t) acc n → R (.ok (.ret .none)) { s with heap := h', toks := tk }) :
    wpAny (model prog w) A.in1 (Builtin.«list.__init__» ⟨[.ref S, .ref r], []⟩) (fun fin s' => match fin with | .done f => R (.ok f) s' | .again c' => c'.quiet = true ∧ codeAny (model prog w) A c' R s') (fun e s' => R (.error e) s') s := by
  have nSr : S ≠ r := fun e => by rw [e, hr] at hS; simp at hS
  show wpAny _ _ (Builtin.List.listItems (.ref S) >>= fun old => Builtin.List.listUpdate (.ref S) (fun _ => #[]) >>= fun _ => letGo old.toList.reverse >>= fun _ => Builtin.List.listExtendWith (.ref S) (.ref r) .none) _ _ s
  unfold Builtin.List.listItems
  refine wpAny_bind (wpAny_bind (wpAny_seqItems hS rfl (wpAny_pure ?_)))
  show wpAny _ _ (updateSeq S (fun _ => (#[] : Array Value)) >>= fun _ => letGo (#[] : Array Value).toList.reverse >>= fun _ => Builtin.List.listExtendWith (.ref S) (.ref r) .none) _ _ s
  have oth : ∀ b o, b ≠ S → s.heap.get? b = some o → (s.heap.update S (Obj.mapSeq (fun _ => (#[] : Array Value)))).get? b = some o := fun b o hb e => (Heap.get?_update_other _ _ (Ne.symm hb)).trans e
  refine wpAny_bind (wpAny_updateSeq hS rfl (wpAny_bind (wpAny_letGo ?_)))
  exact ext_any hh (oth r _ (Ne.symm nSr) hr) hn hlen S .none _ (Heap.get?_update_self (Obj.mapSeq (fun _ => (#[] : Array Value))) hS rfl) fun h' tk acc c' k hS' ha => hR h' tk acc c' (fun b o hb e => k b o hb (oth b o hb e)) hS' ha
theorem list_any {E : Value → Shared → Prop} {Q : Value → Shared → Prop} (hh : A.handled = none) (hr : IsRange s.heap r a b c t u v) (hn : Builtin.Range.rangeSize a b c = n) (hlen : n ≤ 2 ^ 24)
    (hQ : ∀ h' tk acc c', (∀ b o, s.heap.get? b = some o → h'.get? b = some o) → h'.get? s.heap.objs.size = some { cls := .type "list", dict := none, data := .seq acc c', slots := #[] } → ItemsOf (fun i v => ∃ t, v = .int (a + i * c) t) acc n → Q (.ref s.heap.objs.size) { s with heap := h', toks := tk }) :
    wpAny (model prog w) A (call (.type "list") [.ref r]) Q E s := by
  refine callType_codes (Q₁ := fun obj s1 => obj = .ref s.heap.objs.size ∧ s1 = { s with heap := s.heap.push { cls := .type "list", data := .seq #[] } }) F.called_list (F.typeCall_list_1 _) F.entry_list_init (code_list_new _ ⟨rfl, rfl⟩) fun obj s1 h1 => ?_
  obtain ⟨rfl, rfl⟩ := h1
  have hS : (s.heap.push { cls := .type "list", data := .seq #[] }).get? s.heap.objs.size = some { cls := .type "list", data := .seq #[] } := Heap.get?_push_size _ rfl
  exact ⟨⟨_, hS, rfl⟩, F.args_list_init_2 _ _, init_any (A := A.in1) hh (Heap.get?_push_of_some _ hr) hn hlen _ hS fun h' tk acc c' k hS' ha => ⟨rfl, hQ h' tk acc c' (fun b o e => k b o (Nat.ne_of_lt (Heap.lt_size e)) (Heap.get?_push_of_some _ e)) hS' ha⟩⟩
end
def tLRange (ta : TA) : TE := fun σ H Q => ta σ H fun vs H1 => ∃ i j : Int, vs = [.int i, .int j] ∧ (j - i).toNat ≤ 1000 ∧ ∀ l, H1 l = none → Q (.ref l) (upd H1 l (.lst (upTo i (j - i).toNat)))
section
variable {X : Cx} {a b : Expr} {ta : TA} {p p1 pos pos1 : Pos}
theorem pe_listRange (hgl : Gl X "list") (hml : X.mg "list" = none) (hg : Gl X "range") (hm : X.mg "range" = none) (hc : X.calm = true) (ha : PA X [a, b] ta)
    (hs : starEach [a, b] X.env = [(false, eval a X.env), (false, eval b X.env)] := by rfl) (hs2 : starEach [b] X.env = [(false, eval b X.env)] := by rfl)
    (h0 : starEach [.Call (.Name "range" p) [a, b] [] pos] X.env = [(false, eval (.Call (.Name "range" p) [a, b] [] pos) X.env)] := by rfl) :
    PE X (.Call (.Name "list" p1) [.Call (.Name "range" p) [a, b] [] pos] [] pos1) (tLRange ta) := by
  intro pins s σ H Q I h
  refine Call_ (ld_blt I hgl hml boot_list (PyProof.Rows.callWith_type1 ?_ h0 rfl))
  rw [h0]
  show wpAny _ _ (spliced ((false, eval (.Call (.Name "range" p) [a, b] [] pos) X.env) :: [])) _ _ s
  refine Calls.spliced_cons (Call_ (ld_blt I hg hm boot_range (PyProof.Rows.callWith_type1 (thn (ha pos pins s σ H _ I h) fun us s1 ⟨vs, H1, I1, r1, q1⟩ => ?_) (by rw [hs, hs2]) (by rw [hs2]; rfl))))
  obtain ⟨i, j, e, hz, q⟩ := q1
  subst e
  obtain ⟨u1, u2, rfl, e1, e2⟩ := vals2 r1
  obtain ⟨t, rfl⟩ := e1
  obtain ⟨t', rfl⟩ := e2
  refine call_range_2 (Calls.spliced_nil (list_any (n := (j - i).toNat) (I1.ok.hd hc) (IsRange.new ..) (rangeSize_nat _ _) (by omega) fun h' tk acc c' hk hS ha => ?_))
  have hv : Vals (upTo i (j - i).toNat) acc.toList := vals_upTo (by have := ha.1; simpa using this) fun k v hk' => by
    obtain ⟨t, ht⟩ := ha.2 k v (by simpa using hk')
    exact ⟨t, by rw [ht]; simp⟩
  refine ⟨.ref _, _, I1.laid (t' := tk) (fun b o e => hk b o (Heap.get?_push_of_some _ e)) (by rw [Heap.size_push]; exact Nat.le_succ _) (show ObjOk X.prog X.w _ h' _ (.lst (upTo i (j - i).toNat)) from ⟨by rw [upTo_len]; exact Nat.le_of_lt (small1000 hz), acc.toList, c', hv, by simpa using hS⟩), rfl, q _ (I1.hok.fresh (by rw [Heap.size_push]; exact Nat.le_succ _))⟩
end
end L2

set_option Elab.async false
set_option linter.all false
set_option maxRecDepth 100000
set_option maxHeartbeats 4000000
namespace L2
open PySem PySem.Spec PyProof.Rows
section
variable {X : Cx}
theorem vals_bools : ∀ {bs : List Bool} {its : List Value}, Vals (bs.map V.bl) its → its = bs.map Value.bool
  | [], its, h => by
    rw [List.map_nil] at h
    exact h.nil_iff.mpr rfl
  | b :: bs, its, h => by
    rw [List.map_cons] at h
    cases h with
    | cons r1 r2 =>
      rw [vals_bools r2, List.map_cons, show _ = Value.bool b from r1]
/-- all(xs), xs a list of bools -/
theorem call_all (hc : X.calm = true) : CallR X (.builtin "all") (fun xs H Q => ∃ (a : Addr) (bs : List Bool), xs = [.ref a] ∧ SqL X.K H a (bs.map V.bl) ∧ Q (.bl (bs.all id)) H) := by
  intro pins s σ H xs us Q I r h
  obtain ⟨a, bs, rfl, hx, q⟩ := h
  obtain ⟨u, rfl, ru⟩ := vals1 r
  cases ru
  obtain ⟨its, rv, ht, hz⟩ := I.list hx
  have ei := vals_bools rv
  subst ei
  have hl := ht.isList
  have hlt : a < s.heap.objs.size := by obtain ⟨_, e, _⟩ := hl; exact Heap.lt_size e
  refine call_all_walk (wpAny_pyIter_list hl ?_)
  refine ⟨s.heap.objs.size, [s.heap.objs.size, a], [s.heap.objs.size], (bs.map Value.bool).toArray.size, _, _, fun i => (bs[i]?).getD true, rfl, Walks.list (A := X.A.in1) (I.ok.hd hc) _ a (Nat.ne_of_lt hlt) (bs.map Value.bool).toArray,
    ⟨⟨_, Heap.get?_push_size _ rfl, rfl, rfl⟩, hl.push _⟩, fun i v s' Q' E' hP hQ => ?_, fun h' tk hk => ?_⟩
  · have hP : (bs.map Value.bool)[i]? = some v := by simpa using hP
    rw [List.getElem?_map] at hP
    obtain ⟨b, e, rfl⟩ := Option.map_eq_some_iff.mp hP
    simp only [e, Option.getD_some] at hQ
    exact wpAny_truthy_bool hQ
  · have e : ((List.range ((bs.map Value.bool).toArray.size)).all fun i => (bs[i]?).getD true) = bs.all id := by
      rw [List.size_toArray, List.length_map]; exact LSm.range_all bs
    rw [e]
    exact ⟨.bl (bs.all id), H, I.kept (LSm.kept_iter hk), rfl, q⟩
/-- a tuple is not unlike itself -/
theorem op_neSelf (hu : X.A.units + 60 < cLine) : OpR X (compareOp .NotEq) (fun x y H Q => ∃ a xs, x = .ref a ∧ y = .ref a ∧ SqT X.K H a xs ∧ Q (.bl false) H) := by
  intro pins s σ H x y v u Q I rx ry h
  obtain ⟨a, xs, rfl, rfl, hs, q⟩ := h
  cases (show v = Value.ref a from rx)
  cases (show u = Value.ref a from ry)
  obtain ⟨its, _, ht, _⟩ := I.tuple hs
  have hu0 : X.A.units < cLine := by omega
  have z := SeqAt.RcNeAt.tuples (A := X.A) (e := fun _ => true) ht ht hu0 (fun j _ _ => SeqAt.EqAt.same _)
  have e : (!((List.range (min its.toArray.size its.toArray.size)).all (fun _ => true) && its.toArray.size == its.toArray.size)) = false := by simp
  rw [e] at z
  exact z _ _ _ _ ⟨.bl false, H, I, rfl, q⟩
end
end L2

set_option Elab.async false
set_option linter.all false
set_option maxRecDepth 100000
set_option maxHeartbeats 4000000
namespace Nw
open PySem L2
def top (i : Nat) : Stmt := PySem.Challenge.pw_nearerwork_k13_first_rooms_and_stops.main.body.getD i (.Pass ⟨0, 0, 0, 0⟩)
abbrev sAt : Stmt := top 30
abbrev sBegin : Stmt := top 31
abbrev sDraw : Stmt := top 32
abbrev sNames : Stmt := top 33
abbrev sNumI : Stmt := inClass (top 7) 0
abbrev sNumW : Stmt := inClass (top 7) 1
abbrev sNamI : Stmt := inClass (top 8) 0
abbrev sNamW : Stmt := inClass (top 8) 1
abbrev sTwoI : Stmt := inClass (top 9) 0
abbrev sPluW : Stmt := inClass (top 10) 0
abbrev sMinW : Stmt := inClass (top 11) 0
abbrev sTimW : Stmt := inClass (top 12) 0
abbrev sSum : Stmt := top 34
abbrev sWorth : Stmt := top 35
abbrev sHand : Stmt := top 36
abbrev sChaI : Stmt := inClass (top 14) 0
abbrev sChaC : Stmt := inClass (top 14) 1
abbrev sPutI : Stmt := inClass (top 15) 0
abbrev sPutC : Stmt := inClass (top 15) 1
abbrev sAnyI : Stmt := inClass (top 16) 0
abbrev sAnyC : Stmt := inClass (top 16) 1
abbrev sWhole : Stmt := top 29
abbrev sSaying : Stmt := top 37
abbrev sHolds : Stmt := top 38
abbrev sTold : Stmt := top 39
abbrev sSayH : Stmt := inClass (top 19) 0
abbrev sPaiI : Stmt := inClass (top 20) 0
abbrev sLesH : Stmt := inClass (top 21) 0
abbrev sAtmH : Stmt := inClass (top 22) 0
abbrev sEquH : Stmt := inClass (top 23) 0
abbrev sUnlH : Stmt := inClass (top 24) 0
abbrev sBotH : Stmt := inClass (top 25) 0
abbrev sEitH : Stmt := inClass (top 26) 0
abbrev sNotI : Stmt := inClass (top 27) 0
abbrev sNotH : Stmt := inClass (top 27) 1
abbrev sPlaces : Stmt := top 40
abbrev sChange : Stmt := top 41
abbrev sDeed : Stmt := top 42
abbrev sMachine : Stmt := top 43
abbrev sChangeOf : Stmt := top 44
abbrev sDeedOf : Stmt := top 45
abbrev sOptions : Stmt := top 46
abbrev sLBehind : Stmt := top 47
abbrev sRoom : Stmt := top 48
abbrev sChoicesOf : Stmt := top 2
abbrev sByChoices : Stmt := top 3
abbrev sMacI : Stmt := inClass (top 4) 0
abbrev sValuesIn : Stmt := inClass (top 4) 2
abbrev sByDeed : Stmt := inClass (top 4) 5
abbrev sDeeI : Stmt := inClass (top 17) 0
abbrev sLaw : Stmt := top 50
abbrev sFirst : Stmt := inClass (top 4) 1
abbrev sStops : Stmt := inClass (top 4) 4
abbrev sLValues : Stmt := top 49
structure Bl (mg : Str → Option Value) : Prop where
  len : mg "len" = none
  range : mg "range" = none
  isinstance : mg "isinstance" = none
  int : mg "int" = none
  bool : mg "bool" = none
  list : mg "list" = none
  tuple : mg "tuple" = none
  dict : mg "dict" = none
  max : mg "max" = none
  min : mg "min" = none
  zip : mg "zip" = none
  all : mg "all" = none

/-! ### small facts -/
theorem hu60 {A : Around} {k : Nat} (hr : Room k A) : A.units + 60 < cLine := by have := hr.un; omega
theorem same_new {H : Hp} {p : Addr} (h : H p = none) (o : HO) : Same H (upd H p o) := fun b u q => by rw [upd_ne (ne_of_none q h)]; exact q
theorem same_put {H H' : Hp} {p : Addr} (s : Same H H') (h : H p = none) (o : HO) : Same H (upd H' p o) := fun b u q => by rw [upd_ne (ne_of_none q h)]; exact s b u q
def cps (l : List Nat) : Str := ⟨l.toArray⟩
theorem cps_length (l : List Nat) : (cps l).length = l.length := by show l.toArray.size = l.length; simp
theorem cps_append (a b : List Nat) : cps a ++ cps b = cps (a ++ b) := by
  show (⟨a.toArray ++ b.toArray⟩ : Str) = ⟨(a ++ b).toArray⟩
  simp
theorem cps_inj {a b : List Nat} (h : cps a = cps b) : a = b := by
  have h : a.toArray = b.toArray := Str.mk.inj h
  simpa using h
theorem str_len (x y : Str) : (x ++ y).length = x.length + y.length := by
  show (x.cps ++ y.cps).size = x.cps.size + y.cps.size
  simp
theorem alpha : ("abcdefghijklmnopqrstuvwxyz" : Str) = cps ((List.range 26).map (97 + ·)) := by decide +kernel
theorem letter_at {i : Int} (h0 : 0 ≤ i) (h1 : i < 26) : atI (("abcdefghijklmnopqrstuvwxyz" : Str).cps.toList) i = some (97 + i.toNat) := by
  rw [alpha]
  obtain ⟨k, rfl⟩ : ∃ k : Nat, i = k := ⟨i.toNat, by omega⟩
  refine atI_nat ?_
  show (((List.range 26).map (97 + ·)).toArray.toList)[k]? = _
  have hi : k < 26 := by omega
  simp [hi]
theorem join_signs : ∀ cs : List Nat, Str.join ⟨#[]⟩ (cs.map fun c => (⟨#[c]⟩ : Str)) = cps cs
  | [] => rfl
  | c :: cs => by
    rw [List.map_cons, PyProof.Rows.join_nil_cons, join_signs cs]
    show (⟨#[c] ++ cs.toArray⟩ : Str) = ⟨(c :: cs).toArray⟩
    simp
theorem join_eq (sep : Str) (l : List Str) : Txt.join sep l = Str.join sep l := eq_of_beq (PyProof.Rows.join_plain_closes sep l)
theorem flat_strs : ∀ l : List Str, (l.map V.str).all flatV = true
  | [] => rfl
  | y :: l => by rw [List.map_cons, List.all_cons, flat_strs l]; rfl
theorem sum_ones : ∀ cs : List Nat, ((cs.map fun c => (⟨#[c]⟩ : Str)).map (·.length)).sum = cs.length
  | [] => rfl
  | c :: cs => by
    rw [List.map_cons, List.map_cons, List.sum_cons, sum_ones cs, List.length_cons]
    show 1 + cs.length = cs.length + 1
    omega
theorem inV_strs (x : Str) : ∀ l : List Str, inV (.str x) (l.map V.str) = decide (x ∈ l)
  | [] => rfl
  | y :: l => by
    have q := inV_strs x l
    unfold inV at q ⊢
    rw [List.map_cons, List.any_cons, q]
    by_cases e : x = y
    · subst e
      simp [eqV]
    · have e' : ¬ y = x := fun z => e z.symm
      simp [eqV, e, e']
theorem deps_strs : ∀ ns : List Str, deps (ns.map Dt.str) = 0
  | [] => by simp [deps]
  | n :: ns => by simp [deps, dep, deps_strs ns]
theorem deps_ints : ∀ ns : List Int, deps (ns.map Dt.int) = 0
  | [] => by simp [deps]
  | n :: ns => by simp [deps, dep, deps_ints ns]
theorem at_strs {l : List Str} {r : Int} (r0 : 0 ≤ r) (r1 : r < (l.length : Int)) : ∃ x ∈ l, atI (l.map V.str) r = some (.str x) := by
  obtain ⟨k, rfl⟩ : ∃ k : Nat, r = k := ⟨r.toNat, by omega⟩
  have hk : k < l.length := by omega
  exact ⟨l[k], List.getElem_mem hk, atI_nat (by rw [List.getElem?_map, List.getElem?_eq_getElem hk]; rfl)⟩
theorem em26 (x : Int) : 0 ≤ x % 26 ∧ x % 26 < 26 := ⟨Int.emod_nonneg _ (by decide), Int.emod_lt_of_pos _ (by decide)⟩
def ownW : List Str := ["name", "from", "to", "at", "keep", "deed", "when", "do", "any", "and", "or", "not", "yes", "tie", "step", "for", "none", "falls"]
section
variable {P : Program} {w : World} {K : PySem.W.Frag} {mg : Str → Option Value} {base : Heap}
/-! ### a cell: some int -/
def spAt (K : PySem.W.Frag) : Sp := fun vs H Q _ => ∃ (a : Addr) (ns : List Int) (k : Int), vs = [.ref a, .int k] ∧ SqL K H a (ns.map V.int) ∧ ns.length ≤ 63 ∧ 0 ≤ k ∧ k ≤ 1000 ∧ ∀ (r : Int) (H' : Hp), Same H H' → Q (.int r) H'
theorem scAt : FnScope ["_law_script", "_law_k"] ["_law_script", "_law_k"] (defScope sAt) := ⟨rfl, rfl, rfl, by decide +kernel, rfl, by decide +kernel, by decide +kernel⟩
theorem ok_at {f : Addr} {fd : FuncData} (B : Bl mg) (F : Fun K "_law_at" "_law_at" sAt f fd) : FnOk P w K mg base CX0 1 f fd ["_law_script", "_law_k"] (spAt K) := by
  refine F.ok scAt (fun vs H Q E h => ?_) (fun cdv A outer s H vs Q E hr h => ?_)
  · obtain ⟨a, ns, k, rfl, _⟩ := h
    rfl
  obtain ⟨a, ns, k, rfl, hS, hl, k0, k1, q⟩ := h
  refine ⟨_, (@pss_cons _ _ _ _ _ (@ps_if _ _ _ _ _ _ _ _ (@pt_cmpR _ _ _ _ _ _ _ _ op_lt (pv 1) (pe_callB call_len_seq (by rfl) B.len PySem.boot_len (@pa_cons _ _ _ _ _ (pv 0) pa_nil (by rfl))) (nomark _)) (@pss_one _ _ _ (@ps_ret _ _ _ _ (@pe_ix _ _ _ _ _ _ (rIxL K) ix_list (pv 0) (pv 1) (fun _ _ => rfl)))) pss_nil) (@pss_one _ _ _ (@ps_ret _ _ _ _ (@pe_op _ _ _ _ _ _ _ _ op_mod (@pe_op _ _ _ _ _ _ _ _ op_mul (@pe_op _ _ _ _ _ _ _ _ op_add (@pe_op _ _ _ _ _ _ _ _ op_mod (@pe_ix _ _ _ _ _ _ (rIxL K) ix_list (@pe_op _ _ _ _ _ _ _ _ op_catL (pv 0) (@pe_lst _ _ _ _ (@pa_cons _ _ _ _ _ pe_int pa_nil (by rfl)))) pe_int (fun _ _ => rfl)) pe_int) pe_int) (@pe_op _ _ _ _ _ _ _ _ op_add (@pe_op _ _ _ _ _ _ _ _ op_mul (pv 1) (pv 1)) pe_int)) pe_int)))), ?_⟩
  refine ⟨_, rfl, _, rfl, a, _, rfl, .inl hS, _, _, rfl, rfl, _, rfl, ?_⟩
  refine ite2 (fun c => ?_) (fun c => ?_)
  · have c' : k < (((ns.map V.int).length : Nat) : Int) := of_decide_eq_true c
    rw [List.length_map] at c'
    obtain ⟨j, rfl⟩ : ∃ j : Nat, k = j := ⟨k.toNat, by omega⟩
    have hj : j < ns.length := by omega
    exact ⟨_, rfl, _, rfl, a, _, _, _, rfl, rfl, hS, atI_nat (by rw [List.getElem?_map, List.getElem?_eq_getElem hj]; rfl), q _ H (Same.refl H)⟩
  · refine ⟨_, rfl, by decide, fun p hp => ⟨a, p, _, _, rfl, rfl, (same_new hp _).seq hS, SqL.of upd_same, ?_, fun z hz => ?_⟩⟩
    · rw [List.length_map]
      exact Nat.le_of_lt (small1000 (by show ns.length + 1 ≤ 1000; omega))
    have hat : ∃ x : Int, atI (ns.map V.int ++ [V.int 0]) 0 = some (.int x) := by
      cases ns with
      | nil => exact ⟨0, atI_nat (j := 0) rfl⟩
      | cons n r => exact ⟨n, atI_nat (j := 0) rfl⟩
    obtain ⟨x, hx⟩ := hat
    have b1 := Int.emod_nonneg x (b := 1000003) (by decide)
    have b2 := Int.emod_lt_of_pos x (b := 1000003) (by decide)
    refine ⟨z, _, _, _, rfl, rfl, SqL.of upd_same, hx, _, _, rfl, rfl, (by show (0 : Int) < 1000003; decide), _, _, rfl, rfl, _, rfl, _, rfl, _, _, rfl, rfl, .inl ⟨by omega, by omega⟩, _, _, rfl, rfl, _, _, rfl, rfl, .inl ⟨?_, ?_⟩, _, _, rfl, rfl, (by show (0 : Int) < 2147483647; decide), ?_⟩
    · show -(2 ^ 64) < x % 1000003 + 29; omega
    · show x % 1000003 + 29 < 2 ^ 64; omega
    exact q _ _ ((same_new hp _).trans (same_new hz _))
/-! ### a state of two ints, and drawing from it -/
def spBegin : Sp := fun vs H Q _ => ∃ c : Int, vs = [.int c] ∧ ∀ p, H p = none → Q (.ref p) (upd H p (.lst [.int (c / 2), .int (c % 2)]))
theorem scBegin : FnScope ["_law_cell"] ["_law_cell"] (defScope sBegin) := ⟨rfl, rfl, rfl, by decide +kernel, rfl, by decide +kernel, by decide +kernel⟩
theorem ok_begin {f : Addr} {fd : FuncData} (F : Fun K "_law_begin" "_law_begin" sBegin f fd) : FnOk P w K mg base CX0 1 f fd ["_law_cell"] spBegin := by
  refine F.ok scBegin (fun vs H Q E h => ?_) (fun cdv A outer s H vs Q E hr h => ?_)
  · obtain ⟨c, rfl, _⟩ := h
    rfl
  obtain ⟨c, rfl, q⟩ := h
  refine ⟨_, (@pss_one _ _ _ (@ps_ret _ _ _ _ (@pe_lst _ _ _ _ (@pa_cons _ _ _ _ _ (@pe_op _ _ _ _ _ _ _ _ op_fdiv (pv 0) pe_int) (@pa_cons _ _ _ _ _ (@pe_op _ _ _ _ _ _ _ _ op_mod (pv 0) pe_int) pa_nil (by rfl)) (by rfl))))), ?_⟩
  exact ⟨_, rfl, _, _, rfl, rfl, ⟨by decide, by decide⟩, _, rfl, _, _, rfl, rfl, (by show (0 : Int) < 2; decide), (by show 2 ≤ sizeLine; decide), fun p hp => q p hp⟩
def spDraw : Sp := fun vs H Q _ => ∃ (a : Addr) (s0 s1 m : Int), vs = [.ref a, .int m] ∧ H a = some (.lst [.int s0, .int s1]) ∧ 0 < m ∧ m < 100000000 ∧ ∀ r s0' : Int, 0 ≤ r → r < m → Q (.int r) (upd H a (.lst [.int s0', .int s1]))
theorem scDraw : FnScope ["_law_state", "_law_many", "_law_found", "_law_number"] ["_law_state", "_law_many"] (defScope sDraw) := ⟨rfl, rfl, rfl, by decide +kernel, rfl, by decide +kernel, by decide +kernel⟩
theorem ok_draw {f : Addr} {fd : FuncData} (F : Fun K "_law_draw" "_law_draw" sDraw f fd) : FnOk P w K mg base CX0 1 f fd ["_law_state", "_law_many"] spDraw := by
  refine F.ok scDraw (fun vs H Q E h => ?_) (fun cdv A outer s H vs Q E hr h => ?_)
  · obtain ⟨a, s0, s1, m, rfl, _⟩ := h
    rfl
  obtain ⟨a, s0, s1, m, rfl, hH, m0, m1, q⟩ := h
  refine ⟨_, (@pss_cons _ _ _ _ _ (@ps_if _ _ _ _ _ _ _ _ (@pt_cmpR _ _ _ _ _ _ _ _ op_eq (@pe_ix _ _ _ _ _ _ (rIxL K) ix_list (pv 0) pe_int (fun _ _ => rfl)) pe_int (nomark _)) (@pss_cons _ _ _ _ _ (@ps_set _ _ 2 _ _ _ _ scDraw.nd rfl (Or.inl rfl) (@pe_op _ _ _ _ _ _ _ _ op_mod (@pe_ix _ _ _ _ _ _ (rIxL K) ix_list (pv 0) pe_int (fun _ _ => rfl)) (pv 1)) rfl (Or.inl rfl)) (@pss_cons _ _ _ _ _ (ps_asg (@pe_op _ _ _ _ _ _ _ _ op_fdiv (@pe_ix _ _ _ _ _ _ (rIxL K) ix_list (pv 0) pe_int (fun _ _ => rfl)) (pv 1)) (pg_sub (pv 0) pe_int set_list)) (@pss_one _ _ _ (@ps_ret _ _ _ _ (pv 2))))) pss_nil) (@pss_cons _ _ _ _ _ (@ps_set _ _ 3 _ _ _ _ scDraw.nd rfl (Or.inl rfl) (@pe_op _ _ _ _ _ _ _ _ op_mod (@pe_op _ _ _ _ _ _ _ _ op_add (@pe_op _ _ _ _ _ _ _ _ op_mul (@pe_op _ _ _ _ _ _ _ _ op_mod (@pe_ix _ _ _ _ _ _ (rIxL K) ix_list (pv 0) pe_int (fun _ _ => rfl)) pe_int) pe_int) pe_int) pe_int) rfl (Or.inl rfl)) (@pss_cons _ _ _ _ _ (ps_asg (@pe_op _ _ _ _ _ _ _ _ op_mod (@pe_op _ _ _ _ _ _ _ _ op_add (@pe_op _ _ _ _ _ _ _ _ op_add (@pe_op _ _ _ _ _ _ _ _ op_mul (pv 3) pe_int) (@pe_op _ _ _ _ _ _ _ _ op_mod (@pe_op _ _ _ _ _ _ _ _ op_fdivB (@pe_ix _ _ _ _ _ _ (rIxL K) ix_list (pv 0) pe_int (fun _ _ => rfl)) pe_int) pe_int)) pe_int) pe_int) (pg_sub (pv 0) pe_int set_list)) (@pss_one _ _ _ (@ps_ret _ _ _ _ (@pe_op _ _ _ _ _ _ _ _ op_mod (@pe_op _ _ _ _ _ _ _ _ op_fdiv (@pe_op _ _ _ _ _ _ _ _ op_mod (@pe_op _ _ _ _ _ _ _ _ op_add (@pe_op _ _ _ _ _ _ _ _ op_mul (@pe_ix _ _ _ _ _ _ (rIxL K) ix_list (pv 0) pe_int (fun _ _ => rfl)) pe_int) pe_int) pe_int) pe_int) (pv 1))))))), ?_⟩
  have a0 : ∀ x y : Int, atI [V.int x, V.int y] 0 = some (.int x) := fun x y => atI_nat (j := 0) rfl
  have a1 : atI [V.int s0, V.int s1] 1 = some (.int s1) := atI_nat (j := 1) rfl
  have i0 : ∀ x y : Int, ixN [V.int x, V.int y].length 0 = some 0 := fun _ _ => by show ixN 2 0 = some 0; decide
  refine ⟨_, rfl, a, _, _, _, rfl, rfl, SqL.of hH, a1, rfl, _, rfl, ite2 (fun _ => ?_) (fun _ => ?_)⟩
  · refine ⟨_, rfl, a, _, _, _, rfl, rfl, SqL.of hH, a0 _ _, _, rfl, _, _, rfl, rfl, m0, ?_⟩
    refine ⟨_, rfl, a, _, _, _, rfl, rfl, SqL.of hH, a0 _ _, _, rfl, _, _, rfl, rfl, ⟨m0, by omega⟩, _, rfl, a, _, _, 0, rfl, rfl, hH, i0 _ _, ?_⟩
    exact ⟨_, rfl, q _ _ (Int.emod_nonneg _ (by omega)) (Int.emod_lt_of_pos _ m0)⟩
  · have b1 := Int.emod_nonneg s0 (b := 2147483647) (by decide)
    have b2 := Int.emod_lt_of_pos s0 (b := 2147483647) (by decide)
    have f1 : ∀ x : Int, 0 ≤ x % 2147483629 ∧ x % 2147483629 < 2147483629 := fun x => ⟨Int.emod_nonneg _ (by decide), Int.emod_lt_of_pos _ (by decide)⟩
    have f2 : ∀ x : Int, 0 ≤ x % 2147483587 ∧ x % 2147483587 < 2147483587 := fun x => ⟨Int.emod_nonneg _ (by decide), Int.emod_lt_of_pos _ (by decide)⟩
    refine ⟨_, rfl, a, _, _, _, rfl, rfl, SqL.of hH, a0 _ _, _, _, rfl, rfl, (by show (0 : Int) < 2147483647; decide), _, _, rfl, rfl, .inl ⟨?_, ?_⟩, _, _, rfl, rfl, _, _, rfl, rfl, (by show (0 : Int) < 2147483629; decide), ?_⟩
    · show -(2 ^ 64) < s0 % 2147483647; omega
    · show s0 % 2147483647 < 2 ^ 64; omega
    refine ⟨_, rfl, _, _, rfl, rfl, .inl ⟨Int.lt_of_lt_of_le (by decide) (f1 _).1, Int.lt_trans (f1 _).2 (by decide)⟩, _, rfl, a, _, _, _, rfl, rfl, SqL.of hH, a0 _ _, _, _, rfl, rfl, ⟨by decide, by decide⟩, _, _, rfl, rfl, (by show (0 : Int) < 1000003; decide), _, _, rfl, rfl, _, _, rfl, rfl, _, _, rfl, rfl, (by show (0 : Int) < 2147483587; decide), _, rfl, a, _, _, 0, rfl, rfl, hH, i0 _ _, ?_⟩
    refine ⟨_, rfl, a, _, _, _, rfl, rfl, SqL.of upd_same, a0 _ _, _, _, rfl, rfl, .inl ⟨Int.lt_of_lt_of_le (by decide) (f2 _).1, Int.lt_trans (f2 _).2 (by decide)⟩, _, _, rfl, rfl, _, _, rfl, rfl, (by show (0 : Int) < 2147483579; decide), _, _, rfl, rfl, ⟨by decide, by decide⟩, _, rfl, _, _, rfl, rfl, m0, ?_⟩
    exact q _ _ (Int.emod_nonneg _ (by omega)) (Int.emod_lt_of_pos _ m0)
end
end Nw

set_option Elab.async false
set_option linter.all false
set_option maxRecDepth 100000
set_option maxHeartbeats 4000000
namespace Nw
open PySem L2
/-! ### names: texts of one to nine letters that differ -/
structure Nam (x : Str) : Prop where
  signs : ∃ cs : List Nat, x = cps cs ∧ cs ≠ [] ∧ cs.length ≤ 8 ∧ ∀ c ∈ cs, 97 ≤ c ∧ c ≤ 122
  other : x ∉ ownW
/-- the letters cs with the letter d put in at place n -/
def nmk (cs : List Nat) (n : Nat) (d : Int) : List Nat := cs.take n ++ (97 + (d % 26).toNat) :: cs.drop n
theorem nmk_len (cs : List Nat) {n : Nat} (d : Int) : (nmk cs n d).length = cs.length + 1 := by
  unfold nmk
  rw [List.length_append, List.length_cons, List.length_take, List.length_drop]
  omega
theorem nmk_at {cs : List Nat} {n : Nat} (h : n ≤ cs.length) (d : Int) : (nmk cs n d)[n]? = some (97 + (d % 26).toNat) := by
  unfold nmk
  have e : (cs.take n).length = n := by rw [List.length_take]; omega
  rw [List.getElem?_append_right (by omega), e, Nat.sub_self]
  rfl
theorem nmk_ne {cs : List Nat} {n : Nat} (h : n ≤ cs.length) {d d' : Int} (hd : d % 26 ≠ d' % 26) : cps (nmk cs n d) ≠ cps (nmk cs n d') := by
  intro e
  have e := congrArg (fun l : List Nat => l[n]?) (cps_inj e)
  have e : (nmk cs n d)[n]? = (nmk cs n d')[n]? := e
  rw [nmk_at h, nmk_at h] at e
  have e := Option.some.inj e
  have b1 := em26 d
  have b2 := em26 d'
  omega
theorem nmk_ok {cs : List Nat} (n : Nat) (d : Int) (h : ∀ c ∈ cs, 97 ≤ c ∧ c ≤ 122) : ∀ c ∈ nmk cs n d, 97 ≤ c ∧ c ≤ 122 := by
  intro c hc
  unfold nmk at hc
  rcases List.mem_append.mp hc with z | z
  · exact h c (List.mem_of_mem_take z)
  · rcases List.mem_cons.mp z with z | z
    · have b := em26 d
      omega
    · exact h c (List.mem_of_mem_drop z)
/-- the first i names -/
def nms (cs : List Nat) (n : Nat) (a b : Int) (i : Nat) : List Str := (List.range i).map fun (k : Nat) => cps (nmk cs n (a + k * b))
theorem nms_succ (cs : List Nat) (n : Nat) (a b : Int) (i : Nat) : nms cs n a b (i + 1) = nms cs n a b i ++ [cps (nmk cs n (a + i * b))] := by
  unfold nms
  rw [List.range_succ, List.map_append]
  rfl
theorem nms_len (cs : List Nat) (n : Nat) (a b : Int) (i : Nat) : (nms cs n a b i).length = i := by unfold nms; simp
theorem nodup_map {f : Nat → Str} : ∀ {i : Nat}, (∀ j k, j < k → k < i → f j ≠ f k) → ((List.range i).map f).Nodup
  | 0, _ => by simp
  | i + 1, h => by
    rw [List.range_succ, List.map_append]
    refine List.nodup_append.mpr ⟨nodup_map fun j k a b => h j k a (by omega), by simp, fun x hx y hy e => ?_⟩
    obtain ⟨j, hj, rfl⟩ := List.mem_map.mp hx
    have hy : y = f i := by simpa using hy
    subst hy
    exact h j i (List.mem_range.mp hj) (by omega) e
theorem nms_nodup {cs : List Nat} {n : Nat} (h : n ≤ cs.length) {a b : Int} (b0 : 1 ≤ b) (b1 : b ≤ 3) {i : Nat} (hi : i ≤ 8) : (nms cs n a b i).Nodup := by
  refine nodup_map fun j k hjk hk => nmk_ne h ?_
  have hb : b = 1 ∨ b = 2 ∨ b = 3 := by omega
  rcases hb with rfl | rfl | rfl <;> omega
/-- zq and a letter -/
def zqs (a : Int) (i : Nat) : List Str := (List.range i).map fun (k : Nat) => cps [122, 113, 97 + ((a + k) % 26).toNat]
theorem zqE : ("zq" : Str) = cps [122, 113] := by decide +kernel
theorem zqs_succ (a : Int) (i : Nat) : zqs a (i + 1) = zqs a i ++ [cps [122, 113, 97 + ((a + i) % 26).toNat]] := by
  unfold zqs
  rw [List.range_succ, List.map_append]
  rfl
theorem zqs_len (a : Int) (i : Nat) : (zqs a i).length = i := by unfold zqs; simp
theorem zqs_nodup (a : Int) {i : Nat} (hi : i ≤ 8) : (zqs a i).Nodup := by
  refine nodup_map fun j k hjk hk e => ?_
  have e := cps_inj e
  simp only [List.cons.injEq, and_true, true_and] at e
  have b1 := em26 (a + j)
  have b2 := em26 (a + k)
  omega
theorem zq_own : ∀ d : _root_.Fin 26, cps [122, 113, 97 + d.val] ∉ ownW := by decide +kernel
theorem zqs_nam {a : Int} {i : Nat} {x : Str} (h : x ∈ zqs a i) : Nam x := by
  unfold zqs at h
  obtain ⟨k, hk, rfl⟩ := List.mem_map.mp h
  have b := em26 (a + (k : Nat))
  refine ⟨⟨_, rfl, by simp, by simp, fun c hc => ?_⟩, ?_⟩
  · simp only [List.mem_cons, List.not_mem_nil, or_false] at hc
    rcases hc with rfl | rfl | rfl
    · decide
    · decide
    · omega
  · exact zq_own ⟨((a + (k : Nat)) % 26).toNat, by omega⟩
theorem nms_nam {cs : List Nat} {n : Nat} {a b : Int} {i : Nat} (hl : cs.length ≤ 7) (hc : ∀ c ∈ cs, 97 ≤ c ∧ c ≤ 122) (ho : ∀ x ∈ nms cs n a b i, x ∉ ownW) {x : Str} (h : x ∈ nms cs n a b i) : Nam x := by
  refine ⟨?_, ho x h⟩
  unfold nms at h
  obtain ⟨k, hk, rfl⟩ := List.mem_map.mp h
  have ln := nmk_len cs (n := n) (a + (k : Nat) * b)
  exact ⟨_, rfl, (by intro z; rw [z] at ln; cases ln), (by omega), nmk_ok n _ hc⟩
theorem nms_lenE {cs : List Nat} {n : Nat} {a b : Int} {i : Nat} {x : Str} (h : x ∈ nms cs n a b i) : x.length = cs.length + 1 := by
  unfold nms at h
  obtain ⟨k, hk, rfl⟩ := List.mem_map.mp h
  rw [cps_length, nmk_len]
theorem zqs_lenE {a : Int} {i : Nat} {x : Str} (h : x ∈ zqs a i) : x.length = 3 := by
  unfold zqs at h
  obtain ⟨k, hk, rfl⟩ := List.mem_map.mp h
  rw [cps_length]
  rfl
theorem sl_to {cs : List Nat} {j : Int} (h0 : 0 ≤ j) (h1 : j ≤ cs.length) : Txt.slice (cps cs) none (some j) = cps (cs.take j.toNat) := by
  show StrLaws.sliceText (cps cs) none (some j) = _
  rw [StrLaws.sliceText_to ⟨h0, by show j ≤ (cs.toArray.toList.length : Int); simpa using h1⟩]
  show (⟨_⟩ : Str) = ⟨_⟩
  simp [cps]
theorem sl_from {cs : List Nat} {j : Int} (h0 : 0 ≤ j) (h1 : j ≤ cs.length) : Txt.slice (cps cs) (some j) none = cps (cs.drop j.toNat) := by
  show StrLaws.sliceText (cps cs) (some j) none = _
  rw [StrLaws.sliceText_from ⟨h0, by show j ≤ (cs.toArray.toList.length : Int); simpa using h1⟩]
  show (⟨((cs.toArray.toList.drop j.toNat).take ((cs.toArray.toList.length : Int) - j).toNat).toArray⟩ : Str) = ⟨(cs.drop j.toNat).toArray⟩
  rw [List.toList_toArray, List.take_of_length_le (by rw [List.length_drop]; omega)]
theorem own_split : Txt.split ("name from to at keep deed when do any and or not yes tie step for none falls" : Str) (" " : Str) = ownW := by decide +kernel
theorem own_parts : (Builtin.Str.partsBetween ("name from to at keep deed when do any and or not yes tie step for none falls" : Str) (Builtin.Str.occurrences ("name from to at keep deed when do any and or not yes tie step for none falls" : Str) (" " : Str) 0 ("name from to at keep deed when do any and or not yes tie step for none falls" : Str).length (("name from to at keep deed when do any and or not yes tie step for none falls" : Str).length + 1)) (" " : Str).length).length ≤ 1000 := by decide +kernel
theorem eq_nilS (ms : List Str) : dEq (.lst (ms.map Dt.str)) (.lst []) = decide (ms = []) := by
  cases ms with
  | nil => rw [List.map_nil, dEq, dEqs]; rfl
  | cons m r => rw [List.map_cons, dEq]; simp [dEqs]
section
variable {P : Program} {w : World} {K : PySem.W.Frag} {mg : Str → Option Value} {base : Heap}
def spNames : Sp := fun vs H Q _ => ∃ (c m : Int), vs = [.int c, .int m] ∧ 0 ≤ m ∧ m ≤ 8 ∧ ∀ (p : Addr) (H' : Hp) (l : List Str), Same H H' → H p = none → H' p = some (.lst (l.map V.str)) → (l.length : Int) = m → l.Nodup → (∀ x ∈ l, Nam x) → (∃ n : Nat, n ≤ 8 ∧ ∀ x ∈ l, x.length = n) → Q (.ref p) H'
theorem scNames : FnScope ["_law_cell", "_law_many", "_law_letters", "_law_state", "_law_size", "_law_at_here", "_law_first", "_law_step", "_law_base", "_law_some", "_law_k", "_law_letter", "_law_own"] ["_law_cell", "_law_many"] (defScope sNames) := ⟨rfl, rfl, rfl, by decide +kernel, rfl, by decide +kernel, by decide +kernel⟩
theorem nd_scNames1 : (["_law_cell", "_law_many", "_law_letters", "_law_state", "_law_size", "_law_at_here", "_law_first", "_law_step", "_law_base", "_law_some", "_law_k", "_law_letter", "_law_own"] : List Str).Nodup := by decide +kernel
theorem nd_scNames2 : (["_law_cell", "_law_many", "_law_letters", "_law_state", "_law_size", "_law_at_here", "_law_first", "_law_step", "_law_base", "_law_some", "_law_k", "_law_letter", "_law_own", "_law_name"] : List Str).Nodup := by decide +kernel
theorem nd_scNames3 : (["_law_cell", "_law_many", "_law_letters", "_law_state", "_law_size", "_law_at_here", "_law_first", "_law_step", "_law_base", "_law_some", "_law_k", "_law_letter", "_law_own"] : List Str).Nodup := by decide +kernel
theorem ok_names {f fB fD : Addr} {fd fdB fdD : FuncData} (B : Bl mg) (F : Fun K "_law_names" "_law_names" sNames f fd) (FB : Fun K "_law_begin" "_law_begin" sBegin fB fdB) (bB : Binds K fdB ["_law_cell"] []) (mB : mg "_law_begin" = some (.ref fB))
    (FD : Fun K "_law_draw" "_law_draw" sDraw fD fdD) (bD : Binds K fdD ["_law_state", "_law_many"] []) (mD : mg "_law_draw" = some (.ref fD)) : FnOk P w K mg base CX0 2 f fd ["_law_cell", "_law_many"] spNames := by
  have GB : FnOk P w K mg base CX0 1 fB fdB ["_law_cell"] spBegin := ok_begin FB
  have GD : FnOk P w K mg base CX0 1 fD fdD ["_law_state", "_law_many"] spDraw := ok_draw FD
  refine F.ok scNames (fun vs H Q E h => ?_) (fun cdv A outer s H vs Q E hr h => ?_)
  · obtain ⟨c, m, rfl, _⟩ := h
    rfl
  obtain ⟨c, m, rfl, m0, m1, q⟩ := h
  have hu := hu60 hr
  refine ⟨_, (@pss_cons _ _ _ _ _ (@ps_set _ _ 2 _ _ _ _ scNames.nd rfl (Or.inr rfl) pe_str rfl (Or.inl rfl)) (@pss_cons _ _ _ _ _ (@ps_set _ _ 3 _ _ _ _ scNames.nd rfl (Or.inr rfl) (pe_call GB hr (by rfl) mB FB.kp bB .nil pass0 (@pa_cons _ _ _ _ _ (pv 0) pa_nil (by rfl))) rfl (Or.inl rfl)) (@pss_cons _ _ _ _ _ (@ps_set _ _ 4 _ _ _ _ scNames.nd rfl (Or.inl rfl) (pe_call GD hr (by rfl) mD FD.kp bD .nil pass0 (@pa_cons _ _ _ _ _ (pv 3) (@pa_cons _ _ _ _ _ pe_int pa_nil (by rfl)) (by rfl))) rfl (Or.inl rfl)) (@pss_cons _ _ _ _ _ (@ps_set _ _ 5 _ _ _ _ scNames.nd rfl (Or.inl rfl) (pe_call GD hr (by rfl) mD FD.kp bD .nil pass0 (@pa_cons _ _ _ _ _ (pv 3) (@pa_cons _ _ _ _ _ (@pe_op _ _ _ _ _ _ _ _ op_add (pv 4) pe_int) pa_nil (by rfl)) (by rfl))) rfl (Or.inl rfl)) (@pss_cons _ _ _ _ _ (@ps_set _ _ 6 _ _ _ _ scNames.nd rfl (Or.inr rfl) (pe_call GD hr (by rfl) mD FD.kp bD .nil pass0 (@pa_cons _ _ _ _ _ (pv 3) (@pa_cons _ _ _ _ _ pe_int pa_nil (by rfl)) (by rfl))) rfl (Or.inl rfl)) (@pss_cons _ _ _ _ _ (@ps_set _ _ 7 _ _ _ _ scNames.nd rfl (Or.inl rfl) (@pe_op _ _ _ _ _ _ _ _ op_add pe_int (pe_call GD hr (by rfl) mD FD.kp bD .nil pass0 (@pa_cons _ _ _ _ _ (pv 3) (@pa_cons _ _ _ _ _ pe_int pa_nil (by rfl)) (by rfl)))) rfl (Or.inl rfl)) (@pss_cons _ _ _ _ _ (@ps_set _ _ 8 _ _ _ _ scNames.nd rfl (Or.inl rfl) (pe_bm (r := rJoin K) PySem.F.plainAttrs_str PySem.F.slot_str_join PySem.F.type_str_join mt_join pe_str (@pa_cons _ _ _ _ _ (pe_comp (NX := ["_law_cell", "_law_many", "_law_letters", "_law_state", "_law_size", "_law_at_here", "_law_first", "_law_step", "_law_base", "_law_some", "_law_k", "_law_letter", "_law_own"]) (N := ["_law_cell", "_law_many", "_law_letters", "_law_state", "_law_size", "_law_at_here", "_law_first", "_law_step", "_law_base", "_law_some", "_law_k", "_law_letter", "_law_own"]) (ms := [true, true, true, true, true, true, true, true, true, true, false, true, true]) (ks := [10]) (out := defScope sNames) (by exact ⟨rfl, by decide +kernel, by decide +kernel, by decide +kernel, by decide +kernel, by decide +kernel⟩) rfl rfl rfl (pi_range1 rfl B.range (@pa_cons _ _ _ _ _ (pv 4) pa_nil (by rfl))) (@sets_name 10) (by decide) (fun C ex s H => (pg_name (i := 10) nd_scNames1 rfl (Or.inl rfl))) (fun C ex s H => pts_nil) (fun C ex s H => (@pe_ix _ _ _ _ _ _ _ ix_str (pv 2) (pe_call GD hr (by rfl) mD FD.kp bD .nil pass0 (@pa_cons _ _ _ _ _ (pv 3) (@pa_cons _ _ _ _ _ pe_int pa_nil (by rfl)) (by rfl))) (fun _ _ => rfl)))) pa_nil (by rfl))) rfl (Or.inl rfl)) (@pss_cons _ _ _ _ _ (@ps_set _ _ 9 _ _ _ _ scNames.nd rfl (Or.inl rfl) (@pe_lst _ _ _ _ pa_nil) rfl (Or.inl rfl)) (@pss_cons _ _ _ _ _ (@ps_for _ _ _ _ _ _ _ _ PassesOwn.never rfl (pi_range1 rfl B.range (@pa_cons _ _ _ _ _ (pv 1) pa_nil (by rfl))) (pg_name (i := 10) scNames.nd rfl (Or.inl rfl)) (@pss_cons _ _ _ _ _ (@ps_set _ _ 11 _ _ _ _ scNames.nd rfl (Or.inl rfl) (@pe_ix _ _ _ _ _ _ _ ix_str (pv 2) (@pe_op _ _ _ _ _ _ _ _ op_mod (@pe_op _ _ _ _ _ _ _ _ op_add (pv 6) (@pe_op _ _ _ _ _ _ _ _ op_mul (pv 10) (pv 7))) pe_int) (fun _ _ => rfl)) rfl (Or.inl rfl)) (@pss_one _ _ _ (@ps_expr _ _ _ _ (pe_bm PySem.F.plainAttrs_list PySem.F.slot_list_append PySem.F.type_list_append mt_append (pv 9) (@pa_cons _ _ _ _ _ (@pe_op _ _ _ _ _ _ _ _ op_add_str (@pe_op _ _ _ _ _ _ _ _ op_add_str (@pe_slice _ _ _ _ _ _ _ _ _ _ sl_str (pv 8) po_none (@po_some _ _ _ (pv 5))) (pv 11)) (@pe_slice _ _ _ _ _ _ _ _ _ _ sl_str (pv 8) (@po_some _ _ _ (pv 5)) po_none)) pa_nil (by rfl))) (by rfl)))) (by intro _; rfl)) (@pss_cons _ _ _ _ _ (@ps_set _ _ 12 _ _ _ _ scNames.nd rfl (Or.inr rfl) (pe_bm PySem.F.plainAttrs_str PySem.F.slot_str_split PySem.F.type_str_split mt_split pe_str (@pa_cons _ _ _ _ _ pe_str pa_nil (by rfl))) rfl (Or.inl rfl)) (@pss_cons _ _ _ _ _ (@ps_if _ _ _ _ _ _ _ _ (@pt_cmpR _ _ _ _ _ _ _ _ (@op_neD _ hu) (pe_comp (NX := ["_law_cell", "_law_many", "_law_letters", "_law_state", "_law_size", "_law_at_here", "_law_first", "_law_step", "_law_base", "_law_some", "_law_k", "_law_letter", "_law_own"]) (N := ["_law_cell", "_law_many", "_law_letters", "_law_state", "_law_size", "_law_at_here", "_law_first", "_law_step", "_law_base", "_law_some", "_law_k", "_law_letter", "_law_own", "_law_name"]) (ms := [true, true, true, true, true, true, true, true, true, true, true, true, true, false]) (ks := [13]) (out := defScope sNames) (by exact ⟨rfl, by decide +kernel, by decide +kernel, by decide +kernel, by decide +kernel, by decide +kernel⟩) rfl rfl rfl (@pi_list _ _ _ _ (pv 9)) (@sets_name 13) (by decide) (fun C ex s H => (pg_name (i := 13) nd_scNames2 rfl (Or.inl rfl))) (fun C ex s H => (@pts_one _ _ _ (@pt_cmpR _ _ _ _ _ _ _ (rIn K false) op_in_seq (pv 13) (pv 12) (by with_unfolding_all rfl)))) (fun C ex s H => (pv 13))) (@pe_lst _ _ _ _ pa_nil) (nomark _)) (@pss_one _ _ _ (@ps_ret _ _ _ _ (pe_comp (NX := ["_law_cell", "_law_many", "_law_letters", "_law_state", "_law_size", "_law_at_here", "_law_first", "_law_step", "_law_base", "_law_some", "_law_k", "_law_letter", "_law_own"]) (N := ["_law_cell", "_law_many", "_law_letters", "_law_state", "_law_size", "_law_at_here", "_law_first", "_law_step", "_law_base", "_law_some", "_law_k", "_law_letter", "_law_own"]) (ms := [true, true, true, true, true, true, true, true, true, true, false, true, true]) (ks := [10]) (out := defScope sNames) (by exact ⟨rfl, by decide +kernel, by decide +kernel, by decide +kernel, by decide +kernel, by decide +kernel⟩) rfl rfl rfl (pi_range1 rfl B.range (@pa_cons _ _ _ _ _ (pv 1) pa_nil (by rfl))) (@sets_name 10) (by decide) (fun C ex s H => (pg_name (i := 10) nd_scNames3 rfl (Or.inl rfl))) (fun C ex s H => pts_nil) (fun C ex s H => (@pe_op _ _ _ _ _ _ _ _ op_add_str pe_str (@pe_ix _ _ _ _ _ _ _ ix_str (pv 2) (@pe_op _ _ _ _ _ _ _ _ op_mod (@pe_op _ _ _ _ _ _ _ _ op_add (pv 6) (pv 10)) pe_int) (fun _ _ => rfl))))))) pss_nil) (@pss_one _ _ _ (@ps_ret _ _ _ _ (pv 9)))))))))))))), ?_⟩
  refine ⟨_, rfl, c, rfl, fun a ha => ?_⟩
  refine ⟨_, rfl, a, _, _, 8, rfl, upd_same, by decide, by decide, fun z z0 z1 z2 => ?_⟩
  rw [upd_upd]
  refine ⟨_, rfl, _, rfl, _, _, rfl, rfl, a, _, _, z + 1, rfl, upd_same, by omega, by omega, fun at_ y0 y1 y2 => ?_⟩
  rw [upd_upd]
  refine ⟨_, rfl, a, _, _, 26, rfl, upd_same, by decide, by decide, fun fi x0 x1 x2 => ?_⟩
  rw [upd_upd]
  refine ⟨_, rfl, a, _, _, 3, rfl, upd_same, by decide, by decide, fun st w0 w1 w2 => ⟨_, _, rfl, rfl, ?_⟩⟩
  rw [upd_upd]
  -- the base
  refine ⟨rfl, _, rfl, z, rfl, by omega, by omega, comp_range (n := z.toNat) (fun i ys H' => ∃ (cs : List Nat) (u0 : Int), ys = (cs.map fun c => (⟨#[c]⟩ : Str)).map V.str ∧ cs.length = i ∧ (∀ c ∈ cs, 97 ≤ c ∧ c ≤ 122) ∧ H' = upd H a (.lst [.int u0, .int (c % 2)])) ⟨[], _, rfl, rfl, by simp, rfl⟩ (fun i ys H' hi ⟨cs, _, e1, e2, _⟩ => by rw [e1, List.length_map, List.length_map, e2]; exact small1000 (by omega)) ?_ ?_⟩
  · rintro i ys H' hi ⟨cs, u0, rfl, e2, e3, rfl⟩
    refine ⟨_, rfl, _, rfl, a, _, _, 26, rfl, upd_same, by decide, by decide, fun r r' r0 r1 => ?_⟩
    rw [upd_upd]
    refine ⟨_, _, _, rfl, rfl, by decide, letter_at r0 r1, ?_⟩
    refine ⟨cs ++ [97 + r.toNat], r', by rw [List.map_append, List.map_append]; rfl, by rw [List.length_append, e2]; rfl, fun x hx => ?_, rfl⟩
    rcases List.mem_append.mp hx with y | y
    · exact e3 x y
    · rw [List.mem_singleton.mp y]
      omega
  · rintro ys H' ⟨cs, u0, rfl, e2, e3, rfl⟩ D hD
    refine ⟨_, D, cs.map fun c => (⟨#[c]⟩ : Str), rfl, rfl, SqL.of upd_same, ?_, ?_⟩
    · rw [sum_ones, List.length_map]
      show cs.length + cs.length * 0 ≤ 16777216
      omega
    rw [join_eq, show ("" : Str) = ⟨#[]⟩ from rfl, join_signs]
    have s1 := same_put (same_new ha (.lst [.int u0, .int (c % 2)])) (by
      by_cases e : D = a
      · rw [e, upd_same] at hD; cases hD
      · rw [upd_ne e] at hD; exact hD) (.lst ((cs.map fun c => (⟨#[c]⟩ : Str)).map V.str))
    generalize upd (upd H a (.lst [.int u0, .int (c % 2)])) D (.lst ((cs.map fun c => (⟨#[c]⟩ : Str)).map V.str)) = H1 at s1 ⊢
    have la : at_ ≤ cs.length := by omega
    have lb : (cps cs).length ≤ sizeLine := by rw [cps_length]; exact Nat.le_of_lt (small1000 (by omega))
    refine ⟨by decide, fun pl hpl => ?_⟩
    have npl : H pl = none := s1.free hpl
    refine ⟨_, rfl, m, rfl, by omega, by omega, for_range (n := m.toNat) (fun i σ H2 => ∃ v1 v2 : Option V, σ = [some (.int c), some (.int m), some (.str "abcdefghijklmnopqrstuvwxyz"), some (.ref a), some (.int z), some (.int at_), some (.int fi), some (.int (1 + st)), some (.str (cps cs)), some (.ref pl), v1, v2, none] ∧ Same H H2 ∧ H2 pl = some (.lst ((nms cs at_.toNat fi (1 + st) i).map V.str))) ⟨none, none, rfl, s1.trans (same_new hpl _), upd_same⟩ ?_ ?_⟩
    · rintro i σ H2 hi ⟨v1, v2, rfl, f3, f4⟩
      have b := em26 (fi + (0 + (i : Int)) * (1 + st))
      refine ⟨_, rfl, _, rfl, _, rfl, _, rfl, _, _, rfl, rfl, .inl ⟨by omega, by omega⟩, _, _, rfl, rfl, _, _, rfl, rfl, (by show (0 : Int) < 26; decide), _, _, _, rfl, rfl, by decide, letter_at b.1 b.2, ?_⟩
      refine ⟨_, rfl, .inl ⟨rfl, _, SqL.of f4⟩, _, rfl, _, rfl, _, rfl, _, rfl, lb, _, rfl, _, _, rfl, rfl, ?_, _, rfl, _, rfl, _, rfl, _, rfl, lb, _, _, rfl, rfl, ?_, pl, _, _, rfl, rfl, f4, ?_, ?_⟩
      · rw [sl_to y1 la, cps_length, List.length_take]
        exact Nat.le_of_lt (small1000 (by show _ + 1 ≤ 1000; omega))
      · rw [sl_to y1 la, sl_from y1 la, str_len, cps_length, cps_length, List.length_take, List.length_drop]
        exact Nat.le_of_lt (small1000 (by show _ + 1 + _ ≤ 1000; omega))
      · rw [List.length_map, nms_len]
        exact small1000 (by omega)
      · refine ⟨_, _, rfl, same_put f3 npl _, ?_⟩
        rw [upd_same, nms_succ, List.map_append, sl_to y1 la, sl_from y1 la]
        have e : cps (cs.take at_.toNat) ++ (⟨#[97 + ((fi + (0 + (i : Int)) * (1 + st)) % 26).toNat]⟩ : Str) ++ cps (cs.drop at_.toNat) = cps (nmk cs at_.toNat (fi + i * (1 + st))) := by
          rw [show (⟨#[97 + ((fi + (0 + (i : Int)) * (1 + st)) % 26).toNat]⟩ : Str) = cps [97 + ((fi + (0 + (i : Int)) * (1 + st)) % 26).toNat] from rfl, cps_append, cps_append, Int.zero_add]
          unfold nmk
          rw [List.append_assoc]
          rfl
        rw [e]
        rfl
    · rintro σ H2 ⟨v1, v2, rfl, f3, f4⟩
      -- the own words
      refine ⟨rfl, _, _, rfl, rfl, by decide +kernel, by decide +kernel, Nat.le_of_lt (small1000 own_parts), fun po hpo => ?_⟩
      rw [own_split]
      have n1 := nms_len cs at_.toNat fi (1 + st) m.toNat
      have so := same_new hpo (.lst (ownW.map V.str))
      have eo : (upd H2 po (.lst (ownW.map V.str))) po = some (.lst (ownW.map V.str)) := upd_same
      have f5 := so _ _ f4
      have f6 := f3.trans so
      generalize upd H2 po (.lst (ownW.map V.str)) = H3 at so eo f5 f6 ⊢
      refine ⟨_, rfl, pl, rfl, ⟨_, SqL.of f5⟩, comp_list (xs := (nms cs at_.toNat fi (1 + st) m.toNat).map V.str) (fun i ys H' => ∃ l : List Str, ys = l.map V.str ∧ l.length ≤ i ∧ H' = H3 ∧ (l = [] → ∀ x ∈ (nms cs at_.toNat fi (1 + st) m.toNat).take i, x ∉ ownW)) ⟨[], rfl, Nat.le_refl _, rfl, fun _ x hx => by simp at hx⟩ (fun i ys H' _ ⟨_, _, _, e, _⟩ => by rw [e]; exact SqL.of f5) (fun i ys H' hi ⟨l, e1, e2, _⟩ => by rw [e1, List.length_map]; rw [List.length_map] at hi; exact small1000 (by omega)) ?_ ?_⟩
      · rintro i x ys H' hx ⟨l, rfl, e2', rfl, e4⟩
        have hi : i < (nms cs at_.toNat fi (1 + st) m.toNat).length := by have := (List.getElem?_eq_some_iff.mp hx).1; rw [List.length_map] at this; exact this
        rw [List.getElem?_map, List.getElem?_eq_getElem hi] at hx
        cases hx
        refine ⟨_, rfl, _, rfl, po, _, rfl, .inl (SqL.of eo), rfl, flat_strs _, _, rfl, ite2 (fun c1 => ?_) (fun c1 => ?_)⟩
        · exact ⟨_, rfl, l ++ [_], by rw [List.map_append]; rfl, by rw [List.length_append]; show l.length + 1 ≤ i + 1; omega, rfl, fun z => by simp at z⟩
        · refine ⟨l, rfl, by omega, rfl, fun z x hx => ?_⟩
          rw [List.take_add_one, List.getElem?_eq_getElem hi] at hx
          rcases List.mem_append.mp hx with y | y
          · exact e4 z x y
          · have y : x = (nms cs at_.toNat fi (1 + st) m.toNat)[i] := by simpa using y
            have c2 : ¬ inV (.str (nms cs at_.toNat fi (1 + st) m.toNat)[i]) (ownW.map V.str) = true := c1
            rw [inV_strs] at c2
            rw [y]
            exact fun z => c2 (decide_eq_true z)
      · rintro ys H' ⟨l, rfl, e2', rfl, e4⟩ D2 hD2
        rw [List.length_map, List.take_of_length_le (by omega)] at e4
        refine ⟨by decide, fun z9 hz9 => ⟨.lst (l.map Dt.str), .lst [], ?_, ?_, rfl, rfl, ?_, _, rfl, ?_⟩⟩
        · rw [Is]
          exact ⟨D2, _, rfl, SqL.of (by rw [upd_ne (ne_of_none upd_same hz9), upd_same]), Iss.strs l⟩
        · rw [Is]
          exact ⟨z9, _, rfl, SqL.of upd_same, Iss.nil⟩
        · rw [dep, deps_strs]; decide
        have s9 := f6.trans ((same_new hD2 (.lst (l.map V.str))).trans (same_new hz9 (.lst [])))
        have g9 := ((same_new hD2 (.lst (l.map V.str))).trans (same_new hz9 (.lst []))) _ _ f5
        generalize upd (upd H' D2 (.lst (l.map V.str))) z9 (.lst []) = H9 at s9 g9 ⊢
        rw [eq_nilS]
        by_cases hl0 : l = []
        · rw [decide_eq_true hl0]
          refine iteF ?_
          exact ⟨_, rfl, q pl H9 _ s9 npl g9 (by rw [n1]; omega) (nms_nodup (by omega) (by omega) (by omega) (by omega)) (fun x hx => nms_nam (by omega) e3 (e4 hl0) hx) ⟨cs.length + 1, by omega, fun x hx => nms_lenE hx⟩⟩
        · rw [decide_eq_false hl0]
          refine iteT ?_
          refine ⟨_, rfl, m, rfl, by omega, by omega, comp_range (n := m.toNat) (fun i ys H' => ys = (zqs fi i).map V.str ∧ H' = H9) ⟨rfl, rfl⟩ (fun i ys H' hi ⟨e1, _⟩ => by rw [e1, List.length_map, zqs_len]; exact small1000 (by omega)) ?_ ?_⟩
          · rintro i ys H' hi ⟨rfl, rfl⟩
            have b := em26 (fi + (0 + (i : Int)))
            refine ⟨_, rfl, _, rfl, _, rfl, _, _, rfl, rfl, _, _, rfl, rfl, (by show (0 : Int) < 26; decide), _, _, _, rfl, rfl, by decide, letter_at b.1 b.2, _, _, rfl, rfl, ?_, ?_⟩
            · exact Nat.le_of_lt (small1000 (by show 2 + 1 ≤ 1000; decide))
            · refine ⟨?_, rfl⟩
              rw [zqs_succ, List.map_append, Int.zero_add, zqE]
              show _ ++ [V.str (cps [122, 113] ++ cps [97 + ((fi + (i : Int)) % 26).toNat])] = _
              rw [cps_append]
              rfl
          · rintro ys H' ⟨rfl, rfl⟩ D3 hD3
            exact q D3 _ _ (s9.trans (same_new hD3 _)) (s9.free hD3) upd_same (by rw [zqs_len]; omega) (zqs_nodup fi (by omega)) (fun x hx => zqs_nam hx) ⟨3, by decide, fun x hx => zqs_lenE hx⟩
end
end Nw

set_option Elab.async false
set_option linter.all false
set_option maxRecDepth 100000
set_option maxHeartbeats 4000000
namespace Nw
open PySem L2
/-! ### trees -/
inductive Sg where
  | plus | minus | times
inductive Tr where
  | num (n : Int) | nam (x : Str) | op (s : Sg) (l r : Tr)
def sgS : Sg → Str
  | .plus => "+"
  | .minus => "-"
  | .times => "*"
def trD : Tr → Dt
  | .num n => .tup [.str "number", .int n]
  | .nam x => .tup [.str "name", .str x]
  | .op s l r => .tup [.str (sgS s), trD l, trD r]
def lv : Tr → Nat
  | .num _ => 1
  | .nam _ => 1
  | .op _ l r => lv l + lv r
def dp : Tr → Nat
  | .num _ => 0
  | .nam _ => 0
  | .op _ l r => max (dp l) (dp r) + 1
theorem lv_pos : ∀ t : Tr, 0 < lv t
  | .num _ => Nat.one_pos
  | .nam _ => Nat.one_pos
  | .op _ l r => Nat.add_pos_left (lv_pos l) _
theorem dp_lt : ∀ t : Tr, dp t < lv t
  | .num _ => Nat.one_pos
  | .nam _ => Nat.one_pos
  | .op _ l r => by
    have h1 := dp_lt l
    have h2 := dp_lt r
    show max (dp l) (dp r) + 1 < lv l + lv r
    omega
def Fits (l : List Str) : Tr → Prop
  | .num n => 0 ≤ n ∧ n ≤ 99
  | .nam x => x ∈ l
  | .op _ a b => Fits l a ∧ Fits l b
def Sb (d : Addr) (H H' : Hp) : Prop := ∀ b o, b ≠ d → H b = some o → H' b = some o
theorem Sb.trans {d : Addr} {H H1 H2 : Hp} (a : Sb d H H1) (b : Sb d H1 H2) : Sb d H H2 := fun c o hc e => b c o hc (a c o hc e)
theorem Sb.of {d : Addr} {H H' : Hp} (s : Same H H') : Sb d H H' := fun b o _ e => s b o e
theorem Sb.upd (d : Addr) (H : Hp) (o : HO) : Sb d H (upd H d o) := fun b u hb e => by rw [upd_ne hb]; exact e
theorem SqT.sb {K : PySem.W.Frag} {a r : Addr} {H H' : Hp} {xs ys : List V} (h : SqT K H r xs) (ha : H a = some (.lst ys)) (s : Sb a H H') : SqT K H' r xs := by
  rcases h with (h | ⟨o, h⟩) | h
  · exact .inl (.inl (s _ _ (ne_of h ha (by intro z; cases z)) h))
  · exact .inl (.inr ⟨o, s _ _ (ne_of h ha (by intro z; cases z)) h⟩)
  · exact .inr h
theorem tr_sb {K : PySem.W.Frag} {a : Addr} {H H' : Hp} {ys : List V} (ha : H a = some (.lst ys)) (s : Sb a H H') : ∀ {t : Tr} {v : V}, Is K H (trD t) v → Is K H' (trD t) v
  | .num n, v, h => by
    rw [trD, Is] at h ⊢
    obtain ⟨p, xs, e, h1, h2⟩ := h
    refine ⟨p, xs, e, SqT.sb h1 ha s, ?_⟩
    simp only [Iss, Is] at h2 ⊢
    exact h2
  | .nam n, v, h => by
    rw [trD, Is] at h ⊢
    obtain ⟨p, xs, e, h1, h2⟩ := h
    refine ⟨p, xs, e, SqT.sb h1 ha s, ?_⟩
    simp only [Iss, Is] at h2 ⊢
    exact h2
  | .op g l r, v, h => by
    rw [trD, Is] at h ⊢
    obtain ⟨p, xs, e, h1, h2⟩ := h
    refine ⟨p, xs, e, SqT.sb h1 ha s, ?_⟩
    simp only [Iss] at h2 ⊢
    obtain ⟨v1, r1, e1, i1, v2, r2, e2, i2, v3, r3, e3, i3, e4⟩ := h2
    refine ⟨v1, r1, e1, ?_, v2, r2, e2, tr_sb ha s i2, v3, r3, e3, tr_sb ha s i3, e4⟩
    rw [Is] at i1 ⊢
    exact i1
/-- a tree of data, opened -/
theorem is_num {K : PySem.W.Frag} {H : Hp} {n : Int} {v : V} (h : Is K H (trD (.num n)) v) : ∃ p, v = .ref p ∧ SqT K H p [.str "number", .int n] := by
  rw [trD, Is] at h
  obtain ⟨p, xs, e, h1, h2⟩ := h
  simp only [Iss, Is] at h2
  obtain ⟨v1, r1, rfl, rfl, v2, r2, rfl, rfl, rfl⟩ := h2
  exact ⟨p, e, h1⟩
theorem is_nam {K : PySem.W.Frag} {H : Hp} {n : Str} {v : V} (h : Is K H (trD (.nam n)) v) : ∃ p, v = .ref p ∧ SqT K H p [.str "name", .str n] := by
  rw [trD, Is] at h
  obtain ⟨p, xs, e, h1, h2⟩ := h
  simp only [Iss, Is] at h2
  obtain ⟨v1, r1, rfl, rfl, v2, r2, rfl, rfl, rfl⟩ := h2
  exact ⟨p, e, h1⟩
theorem is_op {K : PySem.W.Frag} {H : Hp} {g : Sg} {l r : Tr} {v : V} (h : Is K H (trD (.op g l r)) v) : ∃ p a b, v = .ref p ∧ SqT K H p [.str (sgS g), a, b] ∧ Is K H (trD l) a ∧ Is K H (trD r) b := by
  rw [trD, Is] at h
  obtain ⟨p, xs, e, h1, h2⟩ := h
  simp only [Iss] at h2
  obtain ⟨v1, r1, rfl, i1, v2, r2, rfl, i2, v3, r3, rfl, i3, rfl⟩ := h2
  rw [Is] at i1
  subst i1
  exact ⟨p, v2, v3, e, h1, i2, i3⟩
theorem sign_at {k : Int} (k0 : 0 ≤ k) (k1 : k < 3) : ∃ g : Sg, atI [V.str "+", V.str "-", V.str "*"] k = some (.str (sgS g)) := by
  have : k = 0 ∨ k = 1 ∨ k = 2 := by omega
  rcases this with rfl | rfl | rfl
  · exact ⟨.plus, atI_nat (j := 0) rfl⟩
  · exact ⟨.minus, atI_nat (j := 1) rfl⟩
  · exact ⟨.times, atI_nat (j := 2) rfl⟩
theorem tr_num {K : PySem.W.Frag} {H : Hp} {p : Addr} {n : Int} (h : SqT K H p [.str "number", .int n]) : Is K H (trD (.num n)) (.ref p) := by
  rw [trD, Is]
  exact ⟨p, _, rfl, h, .cons (by rw [Is]) (.cons (by rw [Is]) .nil)⟩
theorem tr_nam {K : PySem.W.Frag} {H : Hp} {p : Addr} {x : Str} (h : SqT K H p [.str "name", .str x]) : Is K H (trD (.nam x)) (.ref p) := by
  rw [trD, Is]
  exact ⟨p, _, rfl, h, .cons (by rw [Is]) (.cons (by rw [Is]) .nil)⟩
theorem tr_op {K : PySem.W.Frag} {H : Hp} {p : Addr} {g : Sg} {l r : Tr} {a b : V} (h : SqT K H p [.str (sgS g), a, b]) (h1 : Is K H (trD l) a) (h2 : Is K H (trD r) b) : Is K H (trD (.op g l r)) (.ref p) := by
  rw [trD, Is]
  exact ⟨p, _, rfl, h, .cons (by rw [Is]) (.cons h1 (.cons h2 .nil))⟩
theorem fn_none {P : Program} {w : World} {K : PySem.W.Frag} {mg : Str → Option Value} {base : Heap} {f : Addr} {fd : FuncData} {ps : List Str} {k : Nat} {sp : Sp} (h : ∀ vs H Q E, ¬ sp vs H Q E) : FnOk P w K mg base CX0 k f fd ps sp := ⟨fun vs H Q E q => absurd q (h _ _ _ _), fun _ _ _ _ _ _ _ _ _ _ _ _ _ q => absurd q (h _ _ _ _)⟩
/-! ### a state at a, names at b -/
theorem strs_ne {l : List Str} {x y : Int} : HO.lst (l.map V.str) ≠ HO.lst [.int x, .int y] := by
  intro e
  have e := HO.lst.inj e
  cases l with
  | nil => cases e
  | cons a r => cases (List.cons.inj e).1
structure StAt (H : Hp) (a b : Addr) (s1 : Int) (l : List Str) : Prop where
  st : ∃ s0 : Int, H a = some (.lst [.int s0, .int s1])
  nm : H b = some (.lst (l.map V.str))
theorem StAt.ne {H : Hp} {a b : Addr} {s1 : Int} {l : List Str} (S : StAt H a b s1 l) : b ≠ a := by
  obtain ⟨s0, h⟩ := S.st
  exact ne_of S.nm h strs_ne
theorem StAt.put {H : Hp} {a b : Addr} {s1 : Int} {l : List Str} (S : StAt H a b s1 l) (s0 : Int) : StAt (upd H a (.lst [.int s0, .int s1])) a b s1 l := ⟨⟨s0, upd_same⟩, by rw [upd_ne S.ne]; exact S.nm⟩
theorem StAt.same {H H' : Hp} {a b : Addr} {s1 : Int} {l : List Str} (S : StAt H a b s1 l) (s : Same H H') : StAt H' a b s1 l := by
  obtain ⟨s0, h⟩ := S.st
  exact ⟨⟨s0, s _ _ h⟩, s _ _ S.nm⟩
section
variable {P : Program} {w : World} {K : PySem.W.Frag} {mg : Str → Option Value} {base : Heap}
def spSum (K : PySem.W.Frag) (n : Nat) : Sp := fun vs H Q _ => ∃ (a b : Addr) (s1 near d : Int) (l : List Str), vs = [.ref a, .ref b, .int near, .int d] ∧ StAt H a b s1 l ∧ l.length ≤ 8 ∧ 0 ≤ d ∧ d.toNat < n ∧
  ∀ (p : Addr) (H' : Hp) (t : Tr), Sb a H H' → StAt H' a b s1 l → Is K H' (trD t) (.ref p) → Fits l t → lv t ≤ 2 ^ (d.toNat + 1) → dp t ≤ d.toNat + 1 → Q (.ref p) H'
theorem scSum : FnScope ["_law_state", "_law_names_here", "_law_near", "_law_depth", "_law_kind", "_law_sign", "_law_one"] ["_law_state", "_law_names_here", "_law_near", "_law_depth"] (defScope sSum) := ⟨rfl, rfl, rfl, by decide +kernel, rfl, by decide +kernel, by decide +kernel⟩
theorem ok_sum {f fD : Addr} {fd fdD : FuncData} (B : Bl mg) (F : Fun K "_law_sum" "_law_sum" sSum f fd) (bS : Binds K fd ["_law_state", "_law_names_here", "_law_near", "_law_depth"] []) (mS : mg "_law_sum" = some (.ref f))
    (FD : Fun K "_law_draw" "_law_draw" sDraw fD fdD) (bD : Binds K fdD ["_law_state", "_law_many"] []) (mD : mg "_law_draw" = some (.ref fD)) : ∀ n : Nat, FnOk P w K mg base CX0 (n + 2) f fd ["_law_state", "_law_names_here", "_law_near", "_law_depth"] (spSum K n)
  | 0 => fn_none fun vs H Q E h => by obtain ⟨a, b, s1, near, d, l, _, _, _, _, h1, _⟩ := h; omega
  | n + 1 => by
    have GD : FnOk P w K mg base CX0 1 fD fdD ["_law_state", "_law_many"] spDraw := ok_draw FD
    have GS := ok_sum B F bS mS FD bD mD n
    refine F.ok scSum (fun vs H Q E h => ?_) (fun cdv A outer s H vs Q E hr h => ?_)
    · obtain ⟨a, b, s1, near, d, l, rfl, _⟩ := h
      rfl
    obtain ⟨a, b, s1, near, d, l, rfl, S, l8, d0, hn, q⟩ := h
    have hrD := hr.mono (show 1 ≤ n + 2 by omega)
    have hu := hu60 hr
    have pw : 1 ≤ 2 ^ (d.toNat + 1) := Nat.one_le_two_pow
    have pw2 : 2 ≤ 2 ^ (d.toNat + 1) := by rw [Nat.pow_succ]; have := Nat.one_le_two_pow (n := d.toNat); omega
    refine ⟨_, (@pss_cons _ _ _ _ _ (@ps_set _ _ 4 _ _ _ _ scSum.nd rfl (Or.inl rfl) (pe_call GD hrD (by rfl) mD FD.kp bD .nil pass0 (@pa_cons _ _ _ _ _ (pv 0) (@pa_cons _ _ _ _ _ pe_int pa_nil (by rfl)) (by rfl))) rfl (Or.inl rfl)) (@pss_cons _ _ _ _ _ (@ps_if _ _ _ _ _ _ _ _ (@pt_cut _ _ _ ((@pw_or _ _ _ _ _ _ _ (@pt_cmpR _ _ _ _ _ _ _ _ op_eq (pv 4) pe_int (nomark _)) (pw_or1 (@pt_cmpR _ _ _ _ _ _ _ _ (@op_eqD _ hu) (pv 1) (@pe_lst _ _ _ _ pa_nil) (nomark _))))).pt) (@pss_one _ _ _ (@ps_ret _ _ _ _ (@pe_tup _ _ _ _ _ (@pa_cons _ _ _ _ _ pe_str (@pa_cons _ _ _ _ _ (@pe_op _ _ _ _ _ _ _ _ op_mod (@pe_op _ _ _ _ _ _ _ _ op_add (pv 2) (pe_call GD hrD (by rfl) mD FD.kp bD .nil pass0 (@pa_cons _ _ _ _ _ (pv 0) (@pa_cons _ _ _ _ _ pe_int pa_nil (by rfl)) (by rfl)))) pe_int) pa_nil (by rfl)) (by rfl))))) pss_nil) (@pss_cons _ _ _ _ _ (@ps_if _ _ _ _ _ _ _ _ (@pt_cmpR _ _ _ _ _ _ _ _ op_eq (pv 4) pe_int (nomark _)) (@pss_one _ _ _ (@ps_ret _ _ _ _ (@pe_tup _ _ _ _ _ (@pa_cons _ _ _ _ _ pe_str (@pa_cons _ _ _ _ _ (@pe_ix _ _ _ _ _ _ (rIxL K) ix_list (pv 1) (pe_call GD hrD (by rfl) mD FD.kp bD .nil pass0 (@pa_cons _ _ _ _ _ (pv 0) (@pa_cons _ _ _ _ _ (pe_callB call_len_seq (by rfl) B.len PySem.boot_len (@pa_cons _ _ _ _ _ (pv 1) pa_nil (by rfl))) pa_nil (by rfl)) (by rfl))) (fun _ _ => rfl)) pa_nil (by rfl)) (by rfl))))) pss_nil) (@pss_cons _ _ _ _ _ (@ps_if _ _ _ _ _ _ _ _ (@pt_cmpR _ _ _ _ _ _ _ _ op_eq (pv 4) pe_int (nomark _)) (@pss_one _ _ _ (@ps_ret _ _ _ _ (@pe_tup _ _ _ _ _ (@pa_cons _ _ _ _ _ pe_str (@pa_cons _ _ _ _ _ (pe_call GD hrD (by rfl) mD FD.kp bD .nil pass0 (@pa_cons _ _ _ _ _ (pv 0) (@pa_cons _ _ _ _ _ pe_int pa_nil (by rfl)) (by rfl))) pa_nil (by rfl)) (by rfl))))) pss_nil) (@pss_cons _ _ _ _ _ (@ps_set _ _ 5 _ _ _ _ scSum.nd rfl (Or.inl rfl) (@pe_ix _ _ _ _ _ _ (rIxL K) ix_list (@pe_lst _ _ _ _ (@pa_cons _ _ _ _ _ pe_str (@pa_cons _ _ _ _ _ pe_str (@pa_cons _ _ _ _ _ pe_str pa_nil (by rfl)) (by rfl)) (by rfl))) (pe_call GD hrD (by rfl) mD FD.kp bD .nil pass0 (@pa_cons _ _ _ _ _ (pv 0) (@pa_cons _ _ _ _ _ pe_int pa_nil (by rfl)) (by rfl))) (fun _ _ => rfl)) rfl (Or.inl rfl)) (@pss_cons _ _ _ _ _ (@ps_if _ _ _ _ _ _ _ _ (@pt_cut _ _ _ ((@pw_or _ _ _ _ _ _ _ (@pt_cmpR _ _ _ _ _ _ _ _ op_lt (pv 4) pe_int (nomark _)) (pw_or1 (@pt_cmpR _ _ _ _ _ _ _ _ op_eq (pv 3) pe_int (nomark _))))).pt) (@pss_one _ _ _ (@ps_ret _ _ _ _ (@pe_tup _ _ _ _ _ (@pa_cons _ _ _ _ _ (pv 5) (@pa_cons _ _ _ _ _ (@pe_tup _ _ _ _ _ (@pa_cons _ _ _ _ _ pe_str (@pa_cons _ _ _ _ _ (@pe_ix _ _ _ _ _ _ (rIxL K) ix_list (pv 1) (pe_call GD hrD (by rfl) mD FD.kp bD .nil pass0 (@pa_cons _ _ _ _ _ (pv 0) (@pa_cons _ _ _ _ _ (pe_callB call_len_seq (by rfl) B.len PySem.boot_len (@pa_cons _ _ _ _ _ (pv 1) pa_nil (by rfl))) pa_nil (by rfl)) (by rfl))) (fun _ _ => rfl)) pa_nil (by rfl)) (by rfl))) (@pa_cons _ _ _ _ _ (@pe_tup _ _ _ _ _ (@pa_cons _ _ _ _ _ pe_str (@pa_cons _ _ _ _ _ (pe_call GD hrD (by rfl) mD FD.kp bD .nil pass0 (@pa_cons _ _ _ _ _ (pv 0) (@pa_cons _ _ _ _ _ pe_int pa_nil (by rfl)) (by rfl))) pa_nil (by rfl)) (by rfl))) pa_nil (by rfl)) (by rfl)) (by rfl))))) pss_nil) (@pss_cons _ _ _ _ _ (@ps_set _ _ 6 _ _ _ _ scSum.nd rfl (Or.inl rfl) (pe_call GS hr (by rfl) mS F.kp bS .nil pass0 (@pa_cons _ _ _ _ _ (pv 0) (@pa_cons _ _ _ _ _ (pv 1) (@pa_cons _ _ _ _ _ (pv 2) (@pa_cons _ _ _ _ _ (@pe_op _ _ _ _ _ _ _ _ op_sub (pv 3) pe_int) pa_nil (by rfl)) (by rfl)) (by rfl)) (by rfl))) rfl (Or.inl rfl)) (@pss_one _ _ _ (@ps_ret _ _ _ _ (@pe_tup _ _ _ _ _ (@pa_cons _ _ _ _ _ (pv 5) (@pa_cons _ _ _ _ _ (pv 6) (@pa_cons _ _ _ _ _ (pe_call GS hr (by rfl) mS F.kp bS .nil pass0 (@pa_cons _ _ _ _ _ (pv 0) (@pa_cons _ _ _ _ _ (pv 1) (@pa_cons _ _ _ _ _ (pv 2) (@pa_cons _ _ _ _ _ (@pe_op _ _ _ _ _ _ _ _ op_sub (pv 3) pe_int) pa_nil (by rfl)) (by rfl)) (by rfl)) (by rfl))) pa_nil (by rfl)) (by rfl)) (by rfl)))))))))))), ?_⟩
    obtain ⟨s0, hs⟩ := S.st
    refine ⟨_, rfl, a, s0, s1, 6, rfl, hs, by decide, by decide, fun kd z0 k0 k1 => ?_⟩
    have S1 := S.put z0
    have b1 := Sb.upd a H (.lst [.int z0, .int s1])
    generalize upd H a (.lst [.int z0, .int s1]) = H1 at S1 b1 ⊢
    refine ⟨fun c H' => Same H1 H' ∧ (c = false → l ≠ []), ?_, ?_⟩
    · refine ⟨_, rfl, rfl, _, rfl, ite2 (fun _ => ⟨Same.refl _, fun z => by cases z⟩) (fun _ => ?_)⟩
      refine ⟨_, rfl, by decide, fun z hz => ⟨.lst (l.map Dt.str), .lst [], ?_, ?_, rfl, rfl, ?_, _, rfl, ?_⟩⟩
      · rw [Is]
        exact ⟨b, _, rfl, SqL.of ((same_new hz _) _ _ S1.nm), Iss.strs l⟩
      · rw [Is]
        exact ⟨z, _, rfl, SqL.of upd_same, Iss.nil⟩
      · rw [dep, deps_strs]; decide
      rw [eq_nilS]
      exact ⟨same_new hz _, fun e => of_decide_eq_false e⟩
    rintro c H2 ⟨s2, hc⟩
    have S2 := S1.same s2
    have b2 := b1.trans (.of s2)
    obtain ⟨y0, hy⟩ := S2.st
    cases c with
    | true =>
      refine iteT ⟨_, rfl, _, rfl, a, y0, s1, 7, rfl, hy, by decide, by decide, fun r y1 r0 r1 => ⟨_, _, rfl, rfl, _, _, rfl, rfl, (by show (0 : Int) < 100; decide), by show 2 ≤ sizeLine; decide, fun p hp => ?_⟩⟩
      have e1 := Int.emod_nonneg (near + r) (b := 100) (by decide)
      have e2 := Int.emod_lt_of_pos (near + r) (b := 100) (by decide)
      exact q p _ (.num ((near + r) % 100)) ((b2.trans (Sb.upd a H2 _)).trans (.of (same_new hp _))) ((S2.put y1).same (same_new hp _)) (tr_num (SqT.of upd_same)) ⟨e1, by omega⟩ pw (Nat.zero_le _)
    | false =>
      have hl0 := hc rfl
      have lp : 0 < l.length := List.length_pos_iff.mpr hl0
      refine iteF ⟨_, rfl, rfl, _, rfl, ite2 (fun _ => ?_) (fun _ => ?_)⟩
      · refine ⟨_, rfl, _, rfl, _, rfl, b, _, rfl, .inl (SqL.of S2.nm), a, y0, s1, _, rfl, hy, ?_, ?_, fun r y1 r0 r1 => ?_⟩
        · rw [List.length_map]; omega
        · rw [List.length_map]; omega
        rw [List.length_map] at r1
        obtain ⟨x, hx, ex⟩ := at_strs r0 r1
        refine ⟨b, _, _, _, rfl, rfl, SqL.of (S2.put y1).nm, ex, by show 2 ≤ sizeLine; decide, fun p hp => ?_⟩
        exact q p _ (.nam x) ((b2.trans (Sb.upd a H2 _)).trans (.of (same_new hp _))) ((S2.put y1).same (same_new hp _)) (tr_nam (SqT.of upd_same)) hx pw (Nat.zero_le _)
      refine ⟨_, rfl, rfl, _, rfl, ite2 (fun _ => ?_) (fun _ => ?_)⟩
      · refine ⟨_, rfl, a, y0, s1, 100, rfl, hy, by decide, by decide, fun r y1 r0 r1 => ⟨by show 2 ≤ sizeLine; decide, fun p hp => ?_⟩⟩
        exact q p _ (.num r) ((b2.trans (Sb.upd a H2 _)).trans (.of (same_new hp _))) ((S2.put y1).same (same_new hp _)) (tr_num (SqT.of upd_same)) ⟨r0, by omega⟩ pw (Nat.zero_le _)
      refine ⟨by show 3 ≤ sizeLine; decide, fun sl hsl => ?_⟩
      have t3 := same_new hsl (.lst [V.str "+", V.str "-", V.str "*"])
      have S3 := S2.same t3
      have b3 := b2.trans (.of t3)
      have esl : upd H2 sl (.lst [V.str "+", V.str "-", V.str "*"]) sl = some (.lst [V.str "+", V.str "-", V.str "*"]) := upd_same
      generalize upd H2 sl (.lst [V.str "+", V.str "-", V.str "*"]) = H3 at t3 S3 b3 esl ⊢
      obtain ⟨x0, hx3⟩ := S3.st
      refine ⟨_, rfl, a, x0, s1, 3, rfl, hx3, by decide, by decide, fun r y1 r0 r1 => ?_⟩
      obtain ⟨g, hg⟩ := sign_at r0 r1
      have sa : sl ≠ a := ne_of esl hx3 (by intro z; cases z)
      refine ⟨sl, _, _, _, rfl, rfl, SqL.of (by rw [upd_ne sa]; exact esl), hg, ?_⟩
      have S4 := S3.put y1
      have b4 := b3.trans (Sb.upd a H3 (.lst [.int y1, .int s1]))
      generalize upd H3 a (.lst [.int y1, .int s1]) = H4 at S4 b4 ⊢
      refine ⟨fun c H' => H' = H4 ∧ (c = false → 0 < d), ?_, ?_⟩
      · refine ⟨_, rfl, _, _, rfl, rfl, _, rfl, ite2 (fun _ => ⟨rfl, fun z => by cases z⟩) (fun _ => ?_)⟩
        refine ⟨_, rfl, rfl, _, rfl, rfl, fun e => ?_⟩
        have e : ¬ V.int d = V.int 0 := of_decide_eq_false e
        have e : d ≠ 0 := fun z => e (by rw [z])
        omega
      rintro c H5 ⟨rfl, hc⟩
      obtain ⟨w0, hw⟩ := S4.st
      cases c with
      | true =>
        refine iteT ⟨_, rfl, _, rfl, _, rfl, _, rfl, b, _, rfl, .inl (SqL.of S4.nm), a, w0, s1, _, rfl, hw, ?_, ?_, fun r y2 r0 r1 => ?_⟩
        · rw [List.length_map]; omega
        · rw [List.length_map]; omega
        rw [List.length_map] at r1
        obtain ⟨x, hx, ex⟩ := at_strs r0 r1
        have S5 := S4.put y2
        have b5 := b4.trans (Sb.upd a H5 (.lst [.int y2, .int s1]))
        generalize upd H5 a (.lst [.int y2, .int s1]) = H6 at S5 b5 ⊢
        refine ⟨b, _, _, _, rfl, rfl, SqL.of S5.nm, ex, by show 2 ≤ sizeLine; decide, fun p1 hp1 => ?_⟩
        have S6 := S5.same (same_new hp1 (.tup [V.str "name", V.str x]))
        have b6 := b5.trans (.of (same_new hp1 (.tup [V.str "name", V.str x])))
        have i6 : Is K (upd H6 p1 (.tup [V.str "name", V.str x])) (trD (.nam x)) (.ref p1) := tr_nam (SqT.of upd_same)
        generalize upd H6 p1 (.tup [V.str "name", V.str x]) = H7 at S6 b6 i6 ⊢
        obtain ⟨v0, hv⟩ := S6.st
        refine ⟨_, rfl, a, v0, s1, 4, rfl, hv, by decide, by decide, fun m y3 m0 m1 => ⟨by show 2 ≤ sizeLine; decide, fun p2 hp2 => ?_⟩⟩
        have S7 := (S6.put y3).same (same_new hp2 (.tup [V.str "number", V.int m]))
        have b7 := (b6.trans (Sb.upd a H7 (.lst [.int y3, .int s1]))).trans (.of (same_new hp2 (.tup [V.str "number", V.int m])))
        have i7 := (tr_sb hv (Sb.upd a H7 (.lst [.int y3, .int s1])) i6).same (same_new hp2 (.tup [V.str "number", V.int m]))
        have j7 : Is K (upd (upd H7 a (.lst [.int y3, .int s1])) p2 (.tup [V.str "number", V.int m])) (trD (.num m)) (.ref p2) := tr_num (SqT.of upd_same)
        refine ⟨by show 3 ≤ sizeLine; decide, fun p hp => ?_⟩
        exact q p _ (.op g (.nam x) (.num m)) (b7.trans (.of (same_new hp _))) (S7.same (same_new hp _)) (tr_op (SqT.of upd_same) (i7.same (same_new hp _)) (j7.same (same_new hp _))) ⟨hx, m0, by omega⟩ pw2 (Nat.le_add_left 1 _)
      | false =>
        have hd := hc rfl
        have ed : (d - 1).toNat = d.toNat - 1 := by omega
        refine iteF ⟨_, rfl, _, rfl, _, rfl, _, rfl, _, _, rfl, rfl, a, b, s1, near, d - 1, l, rfl, S4, l8, by omega, by omega, fun p1 H6 t1 c1 S5 i1 f1 l1 e1 => ?_⟩
        have b5 := b4.trans c1
        refine ⟨_, rfl, _, rfl, _, rfl, _, rfl, _, rfl, _, rfl, _, _, rfl, rfl, a, b, s1, near, d - 1, l, rfl, S5, l8, by omega, by omega, fun p2 H7 t2 c2 S6 i2 f2 l2 e2 => ?_⟩
        have b6 := b5.trans c2
        obtain ⟨v0, hv⟩ := S5.st
        have i1' := tr_sb hv c2 i1
        refine ⟨by show 3 ≤ sizeLine; decide, fun p hp => ?_⟩
        have pe : 2 ^ (d.toNat + 1) = 2 ^ ((d - 1).toNat + 1) + 2 ^ ((d - 1).toNat + 1) := by
          have : d.toNat + 1 = ((d - 1).toNat + 1) + 1 := by omega
          rw [this, Nat.pow_succ]
          omega
        exact q p _ (.op g t1 t2) (b6.trans (.of (same_new hp _))) (S6.same (same_new hp _)) (tr_op (SqT.of upd_same) (i1'.same (same_new hp _)) (i2.same (same_new hp _))) ⟨f1, f2⟩ (by show lv t1 + lv t2 ≤ _; omega) (by show max (dp t1) (dp t2) + 1 ≤ _; omega)
end
end Nw

set_option Elab.async false
set_option linter.all false
set_option maxRecDepth 100000
set_option maxHeartbeats 4000000
namespace Nw
open PySem L2
/-! ### the worth of a tree -/
def val (vf : Str → Int) : Tr → Int
  | .num n => n
  | .nam x => vf x
  | .op .plus l r => val vf l + val vf r
  | .op .minus l r => val vf l - val vf r
  | .op .times l r => val vf l * val vf r
structure ValsOk (kvs : List (Key × V)) (l : List Str) (vf : Str → Int) : Prop where
  nd : (kvs.map (·.1)).Nodup
  flat : ∀ p ∈ kvs, flatV p.2 = true
  get : ∀ x ∈ l, valV kvs (.inr x) = some (.int (vf x)) ∧ (vf x).natAbs < 2 ^ 110
theorem pow_sum {x y : Nat} (hx : 0 < x) (hy : 0 < y) : 2 ^ x + 2 ^ y ≤ 2 ^ (x + y) := by
  rw [Nat.pow_add]
  have h1 : 2 ≤ 2 ^ x := by
    have := Nat.pow_le_pow_right (n := 2) (by decide) hx
    simpa using this
  have h2 : 2 ≤ 2 ^ y := by
    have := Nat.pow_le_pow_right (n := 2) (by decide) hy
    simpa using this
  generalize 2 ^ x = a at *
  generalize 2 ^ y = b at *
  have e1 := Nat.mul_le_mul_right b h1
  have e2 := Nat.mul_le_mul_left a h2
  omega
theorem val_lt {kvs : List (Key × V)} {l : List Str} {vf : Str → Int} (O : ValsOk kvs l vf) : ∀ {t : Tr}, Fits l t → (val vf t).natAbs < 2 ^ (110 * lv t)
  | .num n, h => by
    obtain ⟨h1, h2⟩ : 0 ≤ n ∧ n ≤ 99 := h
    show n.natAbs < 2 ^ 110
    exact Nat.lt_of_le_of_lt (show n.natAbs ≤ 99 by omega) (by decide)
  | .nam x, h => by
    exact (O.get x h).2
  | .op g a b, h => by
    obtain ⟨h1, h2⟩ : Fits l a ∧ Fits l b := h
    have i1 := val_lt O h1
    have i2 := val_lt O h2
    have p1 := lv_pos a
    have p2 := lv_pos b
    have ps := pow_sum (x := 110 * lv a) (y := 110 * lv b) (by omega) (by omega)
    show (val vf (.op g a b)).natAbs < 2 ^ (110 * (lv a + lv b))
    rw [Nat.mul_add]
    cases g with
    | plus =>
      show (val vf a + val vf b).natAbs < _
      omega
    | minus =>
      show (val vf a - val vf b).natAbs < _
      omega
    | times =>
      show (val vf a * val vf b).natAbs < _
      rw [Int.natAbs_mul, Nat.pow_add]
      exact Nat.mul_lt_mul'' i1 i2
def pickS : Sg → V → V → V → V
  | .plus, x, _, _ => x
  | .minus, _, y, _ => y
  | .times, _, _, z => z
theorem pick_val (vf : Str → Int) (g : Sg) (a b : Tr) : pickS g (.int (val vf a + val vf b)) (.int (val vf a - val vf b)) (.int (val vf a * val vf b)) = .int (val vf (.op g a b)) := by cases g <;> rfl
theorem merge3 (g : Sg) (x y z : V) : valV (mergeK [] [((Sum.inr "+" : Key), x), ((Sum.inr "-" : Key), y), ((Sum.inr "*" : Key), z)]) (Sum.inr (sgS g) : Key) = some (pickS g x y z) := by
  show valV (putK (putK (putK [] (Sum.inr "+" : Key) x) (Sum.inr "-" : Key) y) (Sum.inr "*" : Key) z) _ = _
  rw [valV_put, valV_put, valV_put]
  cases g with
  | plus => rw [if_neg (by decide +kernel), if_neg (by decide +kernel), if_pos (by decide +kernel)]; rfl
  | minus => rw [if_neg (by decide +kernel), if_pos (by decide +kernel)]; rfl
  | times => rw [if_pos (by decide +kernel)]; rfl
section
variable {P : Program} {w : World} {K : PySem.W.Frag} {mg : Str → Option Value} {base : Heap}
theorem hu1_of {A : Around} {k : Nat} (hr : Room k A) : A.units + 1 < cLine := by have := hr.un; omega
def spWorth (K : PySem.W.Frag) (n : Nat) : Sp := fun vs H Q _ => ∃ (v : V) (d : Addr) (t : Tr) (kvs : List (Key × V)) (l : List Str) (vf : Str → Int), vs = [v, .ref d] ∧ Is K H (trD t) v ∧ H d = some (.dK kvs) ∧ ValsOk kvs l vf ∧ Fits l t ∧ lv t ≤ 100 ∧ dp t < n ∧ ∀ H', Same H H' → Q (.int (val vf t)) H'
theorem scWorth : FnScope ["_law_one", "_law_values_here", "_law_here", "_law_there"] ["_law_one", "_law_values_here"] (defScope sWorth) := ⟨rfl, rfl, rfl, by decide +kernel, rfl, by decide +kernel, by decide +kernel⟩
theorem ok_worth {f : Addr} {fd : FuncData} (B : Bl mg) (F : Fun K "_law_worth" "_law_worth" sWorth f fd) (bW : Binds K fd ["_law_one", "_law_values_here"] []) (mW : mg "_law_worth" = some (.ref f)) : ∀ n : Nat, FnOk P w K mg base CX0 (n + 1) f fd ["_law_one", "_law_values_here"] (spWorth K n)
  | 0 => ⟨fun vs H Q E h => by obtain ⟨v, d, t, kvs, l, vf, _, _, _, _, _, _, h1, _⟩ := h; omega, fun _ _ _ _ _ _ _ _ _ _ _ _ _ h => by obtain ⟨v, d, t, kvs, l, vf, _, _, _, _, _, _, h1, _⟩ := h; omega⟩
  | n + 1 => by
    have GW := ok_worth B F bW mW n
    refine F.ok scWorth (fun vs H Q E h => ?_) (fun cdv A outer s H vs Q E hr h => ?_)
    · obtain ⟨v, d, t, kvs, l, vf, rfl, _⟩ := h
      rfl
    obtain ⟨v, d, t, kvs, l, vf, rfl, it, hd, O, ft, l100, hn, q⟩ := h
    have hu1 := hu1_of hr
    refine ⟨_, (@pss_cons _ _ _ _ _ (@ps_if _ _ _ _ _ _ _ _ (@pt_cmpR _ _ _ _ _ _ _ _ op_eq (@pe_ix _ _ _ _ _ _ (rIxT K) ix_tup (pv 0) pe_int (fun _ _ => rfl)) pe_str (nomark _)) (@pss_one _ _ _ (@ps_ret _ _ _ _ (@pe_ix _ _ _ _ _ _ (rIxT K) ix_tup (pv 0) pe_int (fun _ _ => rfl)))) pss_nil) (@pss_cons _ _ _ _ _ (@ps_if _ _ _ _ _ _ _ _ (@pt_cmpR _ _ _ _ _ _ _ _ op_eq (@pe_ix _ _ _ _ _ _ (rIxT K) ix_tup (pv 0) pe_int (fun _ _ => rfl)) pe_str (nomark _)) (@pss_one _ _ _ (@ps_ret _ _ _ _ (@pe_dget _ _ _ _ _ _ hu1 (pv 1) (@pe_ix _ _ _ _ _ _ (rIxT K) ix_tup (pv 0) pe_int (fun _ _ => rfl)) (fun _ _ => rfl)))) pss_nil) (@pss_cons _ _ _ _ _ (@ps_set _ _ 2 _ _ _ _ scWorth.nd rfl (Or.inl rfl) (pe_call GW hr (by rfl) mW F.kp bW .nil pass0 (@pa_cons _ _ _ _ _ (@pe_ix _ _ _ _ _ _ (rIxT K) ix_tup (pv 0) pe_int (fun _ _ => rfl)) (@pa_cons _ _ _ _ _ (pv 1) pa_nil (by rfl)) (by rfl))) rfl (Or.inl rfl)) (@pss_cons _ _ _ _ _ (@ps_set _ _ 3 _ _ _ _ scWorth.nd rfl (Or.inl rfl) (pe_call GW hr (by rfl) mW F.kp bW .nil pass0 (@pa_cons _ _ _ _ _ (@pe_ix _ _ _ _ _ _ (rIxT K) ix_tup (pv 0) pe_int (fun _ _ => rfl)) (@pa_cons _ _ _ _ _ (pv 1) pa_nil (by rfl)) (by rfl))) rfl (Or.inl rfl)) (@pss_one _ _ _ (@ps_ret _ _ _ _ (@pe_dget _ _ _ _ _ _ hu1 (pe_disp (pps_cons pe_str (@pe_op _ _ _ _ _ _ _ _ op_add (pv 2) (pv 3)) (pps_cons pe_str (@pe_op _ _ _ _ _ _ _ _ op_sub (pv 2) (pv 3)) (pps_cons pe_str (@pe_op _ _ _ _ _ _ _ _ op_mulB (pv 2) (pv 3)) pps_nil))) (by rfl) (by rfl) (List.cons_ne_nil _ _) (by decide)) (@pe_ix _ _ _ _ _ _ (rIxT K) ix_tup (pv 0) pe_int (fun _ _ => rfl)) (fun _ _ => rfl)))))))), ?_⟩
    cases t with
    | num m =>
      obtain ⟨p, rfl, ht⟩ := is_num it
      refine ⟨_, rfl, p, _, _, _, rfl, rfl, ht, atI_nat (j := 0) rfl, rfl, _, rfl, ite2 (fun _ => ?_) (fun c => absurd (decide_eq_true rfl) c)⟩
      exact ⟨_, rfl, p, _, _, _, rfl, rfl, ht, atI_nat (j := 1) rfl, q _ (Same.refl _)⟩
    | nam x =>
      obtain ⟨p, rfl, ht⟩ := is_nam it
      refine ⟨_, rfl, p, _, _, _, rfl, rfl, ht, atI_nat (j := 0) rfl, rfl, _, rfl, ite2 (fun c => absurd (of_decide_eq_true c) (by decide +kernel)) (fun _ => ?_)⟩
      refine ⟨_, rfl, p, _, _, _, rfl, rfl, ht, atI_nat (j := 0) rfl, rfl, _, rfl, ite2 (fun _ => ?_) (fun c => absurd (decide_eq_true rfl) c)⟩
      obtain ⟨g1, g2⟩ := O.get x ft
      exact ⟨_, rfl, _, rfl, p, _, _, _, rfl, rfl, ht, atI_nat (j := 1) rfl, d, _, rfl, g1 ▸ DGet.k (k := .inr x) hd, q _ (Same.refl _)⟩
    | op g a b =>
      obtain ⟨p, va, vb, rfl, ht, ia, ib⟩ := is_op it
      obtain ⟨fa, fb⟩ : Fits l a ∧ Fits l b := ft
      have hn : max (dp a) (dp b) + 1 < n + 1 := hn
      have l100 : lv a + lv b ≤ 100 := l100
      have n1 : ¬ V.str (sgS g) = V.str "number" := by cases g <;> decide +kernel
      have n2 : ¬ V.str (sgS g) = V.str "name" := by cases g <;> decide +kernel
      refine ⟨_, rfl, p, _, _, _, rfl, rfl, ht, atI_nat (j := 0) rfl, rfl, _, rfl, ite2 (fun c => absurd (of_decide_eq_true c) n1) (fun _ => ?_)⟩
      refine ⟨_, rfl, p, _, _, _, rfl, rfl, ht, atI_nat (j := 0) rfl, rfl, _, rfl, ite2 (fun c => absurd (of_decide_eq_true c) n2) (fun _ => ?_)⟩
      refine ⟨_, rfl, p, _, _, _, rfl, rfl, ht, atI_nat (j := 1) rfl, _, rfl, va, d, a, kvs, l, vf, rfl, ia, hd, O, fa, by omega, by omega, fun H1 s1 => ?_⟩
      refine ⟨_, rfl, p, _, _, _, rfl, rfl, s1.tup ht, atI_nat (j := 2) rfl, _, rfl, vb, d, b, kvs, l, vf, rfl, ib.same s1, s1 _ _ hd, O, fb, by omega, by omega, fun H2 s2 => ?_⟩
      have ht := s2.tup (s1.tup ht)
      have q : ∀ H', Same H2 H' → Q (.int (val vf (.op g a b))) H' := fun H' s' => q H' (s1.trans (s2.trans s'))
      clear s1 ia ib hd
      revert ht q
      generalize H2 = H
      intro ht q
      refine fun dd hdd => ⟨_, rfl, _, rfl, _, _, rfl, rfl, _, rfl, _, rfl, _, _, rfl, rfl, _, rfl, _, rfl, _, _, rfl, rfl, ⟨110 * lv a, 110 * lv b, by omega, by omega, val_lt O fa, val_lt O fb⟩, upd_same, [(.inr "+", .int (val vf a + val vf b)), (.inr "-", .int (val vf a - val vf b)), (.inr "*", .int (val vf a * val vf b))], rfl, by show 3 ≤ 15; decide, ?_⟩
      have sd : Same H (upd (upd H dd (.dK [])) dd (.dK (mergeK [] [(.inr "+", .int (val vf a + val vf b)), (.inr "-", .int (val vf a - val vf b)), (.inr "*", .int (val vf a * val vf b))]))) := same_put (same_new hdd _) hdd _
      refine ⟨_, rfl, p, _, _, _, rfl, rfl, sd.tup ht, atI_nat (j := 0) rfl, dd, _, rfl, merge3 g _ _ _ ▸ DGet.k (k := .inr (sgS g)) upd_same, ?_⟩
      rw [pick_val]
      exact q _ sd
end
end Nw

set_option Elab.async false
set_option linter.all false
set_option maxRecDepth 100000
set_option maxHeartbeats 4000000
namespace Nw
open PySem L2
/-! ### the classes -/
inductive Kd where
  | num | nam | op (g : Sg)
def kd : Tr → Kd
  | .num _ => .num
  | .nam _ => .nam
  | .op g _ _ => .op g
def ckOf (CN CM CP CI CX : Addr) : Kd → Addr
  | .num => CN
  | .nam => CM
  | .op .plus => CP
  | .op .minus => CI
  | .op .times => CX
def numF (v : V) : List (Str × V) := putF "number" v []
def namF (v : V) : List (Str × V) := putF "name" v []
def twoF (a b : V) : List (Str × V) := putF "other" b (putF "one" a [])
theorem num_at (v : V) : (numF v).lookup ("number" : Str) = some v := by unfold numF; rw [lookup_putF, if_pos rfl]
theorem nam_at (v : V) : (namF v).lookup ("name" : Str) = some v := by unfold namF; rw [lookup_putF, if_pos rfl]
theorem two_one (a b : V) : (twoF a b).lookup ("one" : Str) = some a := by unfold twoF; rw [lookup_putF, if_neg (by decide +kernel), lookup_putF, if_pos rfl]
theorem two_oth (a b : V) : (twoF a b).lookup ("other" : Str) = some b := by unfold twoF; rw [lookup_putF, if_pos rfl]
theorem num_w (v : V) : (numF v).lookup ("worth" : Str) = none := by unfold numF; rw [lookup_putF, if_neg (by decide +kernel)]; rfl
theorem nam_w (v : V) : (namF v).lookup ("worth" : Str) = none := by unfold namF; rw [lookup_putF, if_neg (by decide +kernel)]; rfl
theorem two_w (a b : V) : (twoF a b).lookup ("worth" : Str) = none := by unfold twoF; rw [lookup_putF, if_neg (by decide +kernel), lookup_putF, if_neg (by decide +kernel)]; rfl
structure ClsA (K : PySem.W.Frag) (CK : Kd → Addr) : Prop where
  cl : ∀ k, Cls K (CK k)
  num : NoAttr K (CK .num) "number"
  nam : NoAttr K (CK .nam) "name"
  one : ∀ g, NoAttr K (CK (.op g)) "one"
  oth : ∀ g, NoAttr K (CK (.op g)) "other"
/-- the object made of a tree -/
def Obj (CK : Kd → Addr) (H : Hp) : Tr → V → Prop
  | .num n, v => ∃ p dx, v = .ref p ∧ H p = some (.ins (CK .num) dx (numF (.int n)))
  | .nam x, v => ∃ p dx, v = .ref p ∧ H p = some (.ins (CK .nam) dx (namF (.str x)))
  | .op g l r, v => ∃ p dx a b, v = .ref p ∧ H p = some (.ins (CK (.op g)) dx (twoF a b)) ∧ Obj CK H l a ∧ Obj CK H r b
theorem Obj.same {CK : Kd → Addr} {H H' : Hp} (s : Same H H') : ∀ {t : Tr} {v : V}, Obj CK H t v → Obj CK H' t v
  | .num n, v, h => by
    obtain ⟨p, dx, e, h⟩ := h
    exact ⟨p, dx, e, s _ _ h⟩
  | .nam n, v, h => by
    obtain ⟨p, dx, e, h⟩ := h
    exact ⟨p, dx, e, s _ _ h⟩
  | .op g l r, v, h => by
    obtain ⟨p, dx, a, b, e, h, h1, h2⟩ := h
    exact ⟨p, dx, a, b, e, s _ _ h, h1.same s, h2.same s⟩
theorem Obj.at_ {CK : Kd → Addr} {H : Hp} : ∀ {t : Tr} {v : V}, Obj CK H t v → ∃ p dx fs, v = .ref p ∧ H p = some (.ins (CK (kd t)) dx fs) ∧ fs.lookup ("worth" : Str) = none
  | .num n, v, h => by
    obtain ⟨p, dx, e, h⟩ := h
    exact ⟨p, dx, _, e, h, num_w _⟩
  | .nam n, v, h => by
    obtain ⟨p, dx, e, h⟩ := h
    exact ⟨p, dx, _, e, h, nam_w _⟩
  | .op g l r, v, h => by
    obtain ⟨p, dx, a, b, e, h, _⟩ := h
    exact ⟨p, dx, _, e, h, two_w _ _⟩
section
variable {P : Program} {w : World} {K : PySem.W.Frag} {mg : Str → Option Value} {base : Heap} {CK : Kd → Addr}
def spW (CK : Kd → Addr) (n : Nat) (k : Kd) : Sp := fun vs H Q _ => ∃ (v : V) (d : Addr) (t : Tr) (kvs : List (Key × V)) (l : List Str) (vf : Str → Int), vs = [v, .ref d] ∧ kd t = k ∧ Obj CK H t v ∧ H d = some (.dK kvs) ∧ ValsOk kvs l vf ∧ Fits l t ∧ lv t ≤ 100 ∧ dp t < n ∧ Q (.int (val vf t)) H
theorem scNumW : FnScope ["self", "values"] ["self", "values"] (defScope sNumW) := ⟨rfl, rfl, rfl, by decide +kernel, rfl, by decide +kernel, by decide +kernel⟩
theorem ok_numW {f : Addr} {fd : FuncData} (c : ClsA K CK) (F : Fun K "worth" "Number.worth" sNumW f fd) (n : Nat) : FnOk P w K mg base CX0 1 f fd ["self", "values"] (spW CK n .num) := by
  refine F.ok scNumW (fun vs H Q E h => ?_) (fun cdv A outer s H vs Q E hr h => ?_)
  · obtain ⟨v, d, t, kvs, l, vf, rfl, _⟩ := h
    rfl
  obtain ⟨v, d, t, kvs, l, vf, rfl, kt, ob, hd, O, ft, l100, hn, q⟩ := h
  refine ⟨_, (@pss_one _ _ _ (@ps_ret _ _ _ _ (@pe_fld _ _ _ _ _ (pv 0) rfl))), ?_⟩
  cases t with
  | num m =>
    obtain ⟨p, dx, rfl, hp⟩ := ob
    exact ⟨_, rfl, p, _, dx, _, _, rfl, hp, c.cl _, c.num, num_at _, q⟩
  | _ => cases kt
theorem scNamW : FnScope ["self", "values"] ["self", "values"] (defScope sNamW) := ⟨rfl, rfl, rfl, by decide +kernel, rfl, by decide +kernel, by decide +kernel⟩
theorem ok_namW {f : Addr} {fd : FuncData} (c : ClsA K CK) (F : Fun K "worth" "Named.worth" sNamW f fd) (n : Nat) : FnOk P w K mg base CX0 1 f fd ["self", "values"] (spW CK n .nam) := by
  refine F.ok scNamW (fun vs H Q E h => ?_) (fun cdv A outer s H vs Q E hr h => ?_)
  · obtain ⟨v, d, t, kvs, l, vf, rfl, _⟩ := h
    rfl
  obtain ⟨v, d, t, kvs, l, vf, rfl, kt, ob, hd, O, ft, l100, hn, q⟩ := h
  have hu1 := hu1_of hr
  refine ⟨_, (@pss_one _ _ _ (@ps_ret _ _ _ _ (@pe_dget _ _ _ _ _ _ hu1 (pv 1) (@pe_fld _ _ _ _ _ (pv 0) rfl) (fun _ _ => rfl)))), ?_⟩
  cases t with
  | nam x =>
    obtain ⟨p, dx, rfl, hp⟩ := ob
    obtain ⟨g1, g2⟩ := O.get x ft
    exact ⟨_, rfl, _, rfl, p, _, dx, _, _, rfl, hp, c.cl _, c.nam, nam_at _, d, _, rfl, g1 ▸ DGet.k (k := .inr x) hd, q⟩
  | _ => cases kt
theorem scPluW : FnScope ["self", "values"] ["self", "values"] (defScope sPluW) := ⟨rfl, rfl, rfl, by decide +kernel, rfl, by decide +kernel, by decide +kernel⟩
theorem scMinW : FnScope ["self", "values"] ["self", "values"] (defScope sMinW) := ⟨rfl, rfl, rfl, by decide +kernel, rfl, by decide +kernel, by decide +kernel⟩
theorem scTimW : FnScope ["self", "values"] ["self", "values"] (defScope sTimW) := ⟨rfl, rfl, rfl, by decide +kernel, rfl, by decide +kernel, by decide +kernel⟩
theorem spW_none (k : Kd) : ∀ vs H Q E, ¬ spW CK 0 k vs H Q E := fun vs H Q E h => by
  obtain ⟨v, d, t, kvs, l, vf, _, _, _, _, _, _, _, h1, _⟩ := h
  omega
theorem ok_pluW {f : Addr} {fd : FuncData} (c : ClsA K CK) (F : Fun K "worth" "Plus.worth" sPluW f fd) (n : Nat) (W : ∀ k, MOk P w K mg base (n + 1) (CK k) "worth" (spW CK n k)) : FnOk P w K mg base CX0 (n + 2) f fd ["self", "values"] (spW CK (n + 1) (.op .plus)) := by
  refine F.ok scPluW (fun vs H Q E h => ?_) (fun cdv A outer s H vs Q E hr h => ?_)
  · obtain ⟨v, d, t, kvs, l, vf, rfl, _⟩ := h
    rfl
  obtain ⟨v, d, t, kvs, l, vf, rfl, kt, ob, hd, O, ft, l100, hn, q⟩ := h
  refine ⟨_, (@pss_one _ _ _ (@ps_ret _ _ _ _ (@pe_op _ _ _ _ _ _ _ _ op_add (pe_methP (@pe_fld _ _ _ _ _ (pv 0) rfl) hr (@pa_cons _ _ _ _ _ (pv 1) pa_nil (by rfl))) (pe_methP (@pe_fld _ _ _ _ _ (pv 0) rfl) hr (@pa_cons _ _ _ _ _ (pv 1) pa_nil (by rfl)))))), ?_⟩
  cases t with
  | op g a b =>
    cases kt
    obtain ⟨p, dx, va, vb, rfl, hp, oa, ob⟩ := ob
    obtain ⟨fa, fb⟩ : Fits l a ∧ Fits l b := ft
    have hn : max (dp a) (dp b) + 1 < n + 1 := hn
    have l100 : lv a + lv b ≤ 100 := l100
    obtain ⟨pa, dxa, fsa, rfl, ha, la⟩ := oa.at_
    obtain ⟨pb, dxb, fsb, rfl, hb, lb⟩ := ob.at_
    refine ⟨_, rfl, p, _, dx, _, _, rfl, hp, c.cl _, c.one _, two_one _ _, pa, _, dxa, fsa, _, rfl, ha, la, W _, _, rfl, _, d, a, kvs, l, vf, rfl, rfl, oa, hd, O, fa, by omega, by omega, ?_⟩
    refine ⟨_, rfl, p, _, dx, _, _, rfl, hp, c.cl _, c.oth _, two_oth _ _, pb, _, dxb, fsb, _, rfl, hb, lb, W _, _, rfl, _, d, b, kvs, l, vf, rfl, rfl, ob, hd, O, fb, by omega, by omega, ?_⟩
    exact ⟨_, _, rfl, rfl, q⟩
  | _ => cases kt
theorem ok_minW {f : Addr} {fd : FuncData} (c : ClsA K CK) (F : Fun K "worth" "Minus.worth" sMinW f fd) (n : Nat) (W : ∀ k, MOk P w K mg base (n + 1) (CK k) "worth" (spW CK n k)) : FnOk P w K mg base CX0 (n + 2) f fd ["self", "values"] (spW CK (n + 1) (.op .minus)) := by
  refine F.ok scMinW (fun vs H Q E h => ?_) (fun cdv A outer s H vs Q E hr h => ?_)
  · obtain ⟨v, d, t, kvs, l, vf, rfl, _⟩ := h
    rfl
  obtain ⟨v, d, t, kvs, l, vf, rfl, kt, ob, hd, O, ft, l100, hn, q⟩ := h
  refine ⟨_, (@pss_one _ _ _ (@ps_ret _ _ _ _ (@pe_op _ _ _ _ _ _ _ _ op_sub (pe_methP (@pe_fld _ _ _ _ _ (pv 0) rfl) hr (@pa_cons _ _ _ _ _ (pv 1) pa_nil (by rfl))) (pe_methP (@pe_fld _ _ _ _ _ (pv 0) rfl) hr (@pa_cons _ _ _ _ _ (pv 1) pa_nil (by rfl)))))), ?_⟩
  cases t with
  | op g a b =>
    cases kt
    obtain ⟨p, dx, va, vb, rfl, hp, oa, ob⟩ := ob
    obtain ⟨fa, fb⟩ : Fits l a ∧ Fits l b := ft
    have hn : max (dp a) (dp b) + 1 < n + 1 := hn
    have l100 : lv a + lv b ≤ 100 := l100
    obtain ⟨pa, dxa, fsa, rfl, ha, la⟩ := oa.at_
    obtain ⟨pb, dxb, fsb, rfl, hb, lb⟩ := ob.at_
    refine ⟨_, rfl, p, _, dx, _, _, rfl, hp, c.cl _, c.one _, two_one _ _, pa, _, dxa, fsa, _, rfl, ha, la, W _, _, rfl, _, d, a, kvs, l, vf, rfl, rfl, oa, hd, O, fa, by omega, by omega, ?_⟩
    refine ⟨_, rfl, p, _, dx, _, _, rfl, hp, c.cl _, c.oth _, two_oth _ _, pb, _, dxb, fsb, _, rfl, hb, lb, W _, _, rfl, _, d, b, kvs, l, vf, rfl, rfl, ob, hd, O, fb, by omega, by omega, ?_⟩
    exact ⟨_, _, rfl, rfl, q⟩
  | _ => cases kt
theorem ok_timW {f : Addr} {fd : FuncData} (c : ClsA K CK) (F : Fun K "worth" "Times.worth" sTimW f fd) (n : Nat) (W : ∀ k, MOk P w K mg base (n + 1) (CK k) "worth" (spW CK n k)) : FnOk P w K mg base CX0 (n + 2) f fd ["self", "values"] (spW CK (n + 1) (.op .times)) := by
  refine F.ok scTimW (fun vs H Q E h => ?_) (fun cdv A outer s H vs Q E hr h => ?_)
  · obtain ⟨v, d, t, kvs, l, vf, rfl, _⟩ := h
    rfl
  obtain ⟨v, d, t, kvs, l, vf, rfl, kt, ob, hd, O, ft, l100, hn, q⟩ := h
  refine ⟨_, (@pss_one _ _ _ (@ps_ret _ _ _ _ (@pe_op _ _ _ _ _ _ _ _ op_mulB (pe_methP (@pe_fld _ _ _ _ _ (pv 0) rfl) hr (@pa_cons _ _ _ _ _ (pv 1) pa_nil (by rfl))) (pe_methP (@pe_fld _ _ _ _ _ (pv 0) rfl) hr (@pa_cons _ _ _ _ _ (pv 1) pa_nil (by rfl)))))), ?_⟩
  cases t with
  | op g a b =>
    cases kt
    obtain ⟨p, dx, va, vb, rfl, hp, oa, ob⟩ := ob
    obtain ⟨fa, fb⟩ : Fits l a ∧ Fits l b := ft
    have hn : max (dp a) (dp b) + 1 < n + 1 := hn
    have l100 : lv a + lv b ≤ 100 := l100
    obtain ⟨pa, dxa, fsa, rfl, ha, la⟩ := oa.at_
    obtain ⟨pb, dxb, fsb, rfl, hb, lb⟩ := ob.at_
    refine ⟨_, rfl, p, _, dx, _, _, rfl, hp, c.cl _, c.one _, two_one _ _, pa, _, dxa, fsa, _, rfl, ha, la, W _, _, rfl, _, d, a, kvs, l, vf, rfl, rfl, oa, hd, O, fa, by omega, by omega, ?_⟩
    refine ⟨_, rfl, p, _, dx, _, _, rfl, hp, c.cl _, c.oth _, two_oth _ _, pb, _, dxb, fsb, _, rfl, hb, lb, W _, _, rfl, _, d, b, kvs, l, vf, rfl, rfl, ob, hd, O, fb, by omega, by omega, ?_⟩
    exact ⟨_, _, rfl, rfl, ⟨110 * lv a, 110 * lv b, by omega, by omega, val_lt O fa, val_lt O fb⟩, q⟩
  | _ => cases kt
end
end Nw

set_option Elab.async false
set_option linter.all false
set_option maxRecDepth 100000
set_option maxHeartbeats 4000000
namespace Nw
open PySem L2
section
variable {P : Program} {w : World} {K : PySem.W.Frag} {mg : Str → Option Value} {base : Heap} {CK : Kd → Addr}
/-! ### making -/
def spNumI (C : Addr) : Sp := fun vs H Q _ => ∃ (x dx : Addr) (v : V), vs = [.ref x, v] ∧ H x = some (.ins C dx []) ∧ Q .non (upd H x (.ins C dx (numF v)))
theorem scNumI : FnScope ["self", "number"] ["self", "number"] (defScope sNumI) := ⟨rfl, rfl, rfl, by decide +kernel, rfl, by decide +kernel, by decide +kernel⟩
theorem ok_numI {f : Addr} {fd : FuncData} (c : ClsA K CK) (F : Fun K "__init__" "Number.__init__" sNumI f fd) : FnOk P w K mg base CX0 1 f fd ["self", "number"] (spNumI (CK .num)) := by
  refine F.ok scNumI (fun vs H Q E h => ?_) (fun cdv A outer s H vs Q E hr h => ?_)
  · obtain ⟨x, dx, v, rfl, _⟩ := h
    rfl
  obtain ⟨x, dx, v, rfl, hx, k⟩ := h
  refine ⟨_, (@pss_one _ _ _ (@ps_fld _ _ _ _ _ _ _ _ (pv 0) (pv 1) rfl)), ?_⟩
  exact ⟨_, rfl, _, rfl, x, _, dx, _, rfl, hx, c.cl _, c.num, (by show 0 < 1000; decide), k⟩
def spNamI (C : Addr) : Sp := fun vs H Q _ => ∃ (x dx : Addr) (v : V), vs = [.ref x, v] ∧ H x = some (.ins C dx []) ∧ Q .non (upd H x (.ins C dx (namF v)))
theorem scNamI : FnScope ["self", "name"] ["self", "name"] (defScope sNamI) := ⟨rfl, rfl, rfl, by decide +kernel, rfl, by decide +kernel, by decide +kernel⟩
theorem ok_namI {f : Addr} {fd : FuncData} (c : ClsA K CK) (F : Fun K "__init__" "Named.__init__" sNamI f fd) : FnOk P w K mg base CX0 1 f fd ["self", "name"] (spNamI (CK .nam)) := by
  refine F.ok scNamI (fun vs H Q E h => ?_) (fun cdv A outer s H vs Q E hr h => ?_)
  · obtain ⟨x, dx, v, rfl, _⟩ := h
    rfl
  obtain ⟨x, dx, v, rfl, hx, k⟩ := h
  refine ⟨_, (@pss_one _ _ _ (@ps_fld _ _ _ _ _ _ _ _ (pv 0) (pv 1) rfl)), ?_⟩
  exact ⟨_, rfl, _, rfl, x, _, dx, _, rfl, hx, c.cl _, c.nam, (by show 0 < 1000; decide), k⟩
def spTwoI (C : Addr) : Sp := fun vs H Q _ => ∃ (x dx : Addr) (a b : V), vs = [.ref x, a, b] ∧ H x = some (.ins C dx []) ∧ ∀ H', H' x = some (.ins C dx (twoF a b)) → (∀ b, b ≠ x → H' b = H b) → Q .non H'
theorem scTwoI : FnScope ["self", "one", "other"] ["self", "one", "other"] (defScope sTwoI) := ⟨rfl, rfl, rfl, by decide +kernel, rfl, by decide +kernel, by decide +kernel⟩
theorem ok_twoI {f : Addr} {fd : FuncData} (c : ClsA K CK) (F : Fun K "__init__" "Twofold.__init__" sTwoI f fd) (g : Sg) : FnOk P w K mg base CX0 1 f fd ["self", "one", "other"] (spTwoI (CK (.op g))) := by
  refine F.ok scTwoI (fun vs H Q E h => ?_) (fun cdv A outer s H vs Q E hr h => ?_)
  · obtain ⟨x, dx, a, b, rfl, _⟩ := h
    rfl
  obtain ⟨x, dx, a, b, rfl, hx, k⟩ := h
  refine ⟨_, (@pss_cons _ _ _ _ _ (@ps_fld _ _ _ _ _ _ _ _ (pv 0) (pv 1) rfl) (@pss_one _ _ _ (@ps_fld _ _ _ _ _ _ _ _ (pv 0) (pv 2) rfl))), ?_⟩
  refine ⟨_, rfl, _, rfl, x, _, dx, _, rfl, hx, c.cl _, c.one g, (by show 0 < 1000; decide), ?_⟩
  refine ⟨_, rfl, _, rfl, x, _, dx, _, rfl, upd_same, c.cl _, c.oth g, Nat.lt_of_le_of_lt (length_putF _ _ _) (by show 1 < 1000; decide), ?_⟩
  exact k _ upd_same fun b hb => by rw [upd_ne hb, upd_ne hb]
/-! ### a sum by hand -/
structure Maker (K : PySem.W.Frag) (mg : Str → Option Value) (CK : Kd → Addr) (fN fM fT : Addr) (dN dM dT : FuncData) : Prop where
  cls : ClsA K CK
  mkN : Mk K (CK .num) fN
  mkM : Mk K (CK .nam) fM
  mkT : ∀ g, Mk K (CK (.op g)) fT
  gN : mg "Number" = some (.ref (CK .num))
  gM : mg "Named" = some (.ref (CK .nam))
  gP : mg "Plus" = some (.ref (CK (.op .plus)))
  gI : mg "Minus" = some (.ref (CK (.op .minus)))
  gX : mg "Times" = some (.ref (CK (.op .times)))
  FN : Fun K "__init__" "Number.__init__" sNumI fN dN
  FM : Fun K "__init__" "Named.__init__" sNamI fM dM
  FT : Fun K "__init__" "Twofold.__init__" sTwoI fT dT
  bN : Binds K dN ["self", "number"] []
  bM : Binds K dM ["self", "name"] []
  bT : Binds K dT ["self", "one", "other"] []
def spHand (K : PySem.W.Frag) (CK : Kd → Addr) (n : Nat) : Sp := fun vs H Q _ => ∃ (v : V) (t : Tr), vs = [v] ∧ Is K H (trD t) v ∧ dp t < n ∧ ∀ (p : Addr) (H' : Hp), Same H H' → Obj CK H' t (.ref p) → Q (.ref p) H'
theorem scHand : FnScope ["_law_one", "_law_here", "_law_there"] ["_law_one"] (defScope sHand) := ⟨rfl, rfl, rfl, by decide +kernel, rfl, by decide +kernel, by decide +kernel⟩
theorem same_made {H : Hp} {x dx : Addr} (hx : H x = none) (hd : H dx = none) (n : dx ≠ x) (o o' : HO) : Same H (upd (upd H dx o) x o') := by
  intro b u e
  rw [upd_ne (ne_of_none e hx), upd_ne (ne_of_none e hd)]
  exact e
theorem ok_hand {f fN fM fT : Addr} {fd dN dM dT : FuncData} (T : Maker K mg CK fN fM fT dN dM dT) (F : Fun K "_law_sum_of" "_law_sum_of" sHand f fd) (bH : Binds K fd ["_law_one"] []) (mH : mg "_law_sum_of" = some (.ref f)) :
    ∀ n : Nat, FnOk P w K mg base CX0 (n + 3) f fd ["_law_one"] (spHand K CK n)
  | 0 => fn_none fun vs H Q E h => by obtain ⟨v, t, _, _, h1, _⟩ := h; omega
  | n + 1 => by
    have GH := ok_hand T F bH mH n
    have GN : FnOk P w K mg base CX0 1 fN dN ["self", "number"] (spNumI (CK .num)) := ok_numI T.cls T.FN
    have GM : FnOk P w K mg base CX0 1 fM dM ["self", "name"] (spNamI (CK .nam)) := ok_namI T.cls T.FM
    have GT : ∀ g, FnOk P w K mg base CX0 1 fT dT ["self", "one", "other"] (spTwoI (CK (.op g))) := ok_twoI T.cls T.FT
    refine F.ok scHand (fun vs H Q E h => ?_) (fun cdv A outer s H vs Q E hr h => ?_)
    · obtain ⟨v, t, rfl, _⟩ := h
      rfl
    obtain ⟨v, t, rfl, it, hn, q⟩ := h
    have hr2 := hr.mono (show 1 + 1 ≤ n + 3 by omega)
    refine ⟨_, (@pss_cons _ _ _ _ _ (@ps_if _ _ _ _ _ _ _ _ (@pt_cmpR _ _ _ _ _ _ _ _ op_eq (@pe_ix _ _ _ _ _ _ (rIxT K) ix_tup (pv 0) pe_int (fun _ _ => rfl)) pe_str (nomark _)) (@pss_one _ _ _ (@ps_ret _ _ _ _ (pe_make T.mkN GN hr2 rfl T.gN T.bN .nil pass0 (@pa_cons _ _ _ _ _ (@pe_ix _ _ _ _ _ _ (rIxT K) ix_tup (pv 0) pe_int (fun _ _ => rfl)) pa_nil (by rfl))))) pss_nil) (@pss_cons _ _ _ _ _ (@ps_if _ _ _ _ _ _ _ _ (@pt_cmpR _ _ _ _ _ _ _ _ op_eq (@pe_ix _ _ _ _ _ _ (rIxT K) ix_tup (pv 0) pe_int (fun _ _ => rfl)) pe_str (nomark _)) (@pss_one _ _ _ (@ps_ret _ _ _ _ (pe_make T.mkM GM hr2 rfl T.gM T.bM .nil pass0 (@pa_cons _ _ _ _ _ (@pe_ix _ _ _ _ _ _ (rIxT K) ix_tup (pv 0) pe_int (fun _ _ => rfl)) pa_nil (by rfl))))) pss_nil) (@pss_cons _ _ _ _ _ (@ps_set _ _ 1 _ _ _ _ scHand.nd rfl (Or.inl rfl) (pe_call GH hr (by rfl) mH F.kp bH .nil pass0 (@pa_cons _ _ _ _ _ (@pe_ix _ _ _ _ _ _ (rIxT K) ix_tup (pv 0) pe_int (fun _ _ => rfl)) pa_nil (by rfl))) rfl (Or.inl rfl)) (@pss_cons _ _ _ _ _ (@ps_set _ _ 2 _ _ _ _ scHand.nd rfl (Or.inl rfl) (pe_call GH hr (by rfl) mH F.kp bH .nil pass0 (@pa_cons _ _ _ _ _ (@pe_ix _ _ _ _ _ _ (rIxT K) ix_tup (pv 0) pe_int (fun _ _ => rfl)) pa_nil (by rfl))) rfl (Or.inl rfl)) (@pss_cons _ _ _ _ _ (@ps_if _ _ _ _ _ _ _ _ (@pt_cmpR _ _ _ _ _ _ _ _ op_eq (@pe_ix _ _ _ _ _ _ (rIxT K) ix_tup (pv 0) pe_int (fun _ _ => rfl)) pe_str (nomark _)) (@pss_one _ _ _ (@ps_ret _ _ _ _ (pe_make (T.mkT .plus) (GT .plus) hr2 rfl T.gP T.bT .nil pass0 (@pa_cons _ _ _ _ _ (pv 1) (@pa_cons _ _ _ _ _ (pv 2) pa_nil (by rfl)) (by rfl))))) pss_nil) (@pss_cons _ _ _ _ _ (@ps_if _ _ _ _ _ _ _ _ (@pt_cmpR _ _ _ _ _ _ _ _ op_eq (@pe_ix _ _ _ _ _ _ (rIxT K) ix_tup (pv 0) pe_int (fun _ _ => rfl)) pe_str (nomark _)) (@pss_one _ _ _ (@ps_ret _ _ _ _ (pe_make (T.mkT .minus) (GT .minus) hr2 rfl T.gI T.bT .nil pass0 (@pa_cons _ _ _ _ _ (pv 1) (@pa_cons _ _ _ _ _ (pv 2) pa_nil (by rfl)) (by rfl))))) pss_nil) (@pss_one _ _ _ (@ps_ret _ _ _ _ (pe_make (T.mkT .times) (GT .times) hr2 rfl T.gX T.bT .nil pass0 (@pa_cons _ _ _ _ _ (pv 1) (@pa_cons _ _ _ _ _ (pv 2) pa_nil (by rfl)) (by rfl))))))))))), ?_⟩
    cases t with
    | num m =>
      obtain ⟨p, rfl, ht⟩ := is_num it
      refine ⟨_, rfl, p, _, _, _, rfl, rfl, ht, atI_nat (j := 0) rfl, rfl, _, rfl, ite2 (fun _ => ?_) (fun c => absurd (decide_eq_true rfl) c)⟩
      refine ⟨_, rfl, p, _, _, _, rfl, rfl, ht, atI_nat (j := 1) rfl, fun x dx hx hd hxd => ?_⟩
      refine ⟨x, dx, _, rfl, upd_same, rfl, q x _ ?_ ⟨x, dx, rfl, upd_same⟩⟩
      intro b u e
      rw [upd_ne (ne_of_none e hx)]
      exact same_made hx hd hxd _ _ b u e
    | nam m =>
      obtain ⟨p, rfl, ht⟩ := is_nam it
      refine ⟨_, rfl, p, _, _, _, rfl, rfl, ht, atI_nat (j := 0) rfl, rfl, _, rfl, ite2 (fun c => absurd (of_decide_eq_true c) (by decide +kernel)) (fun _ => ?_)⟩
      refine ⟨_, rfl, p, _, _, _, rfl, rfl, ht, atI_nat (j := 0) rfl, rfl, _, rfl, ite2 (fun _ => ?_) (fun c => absurd (decide_eq_true rfl) c)⟩
      refine ⟨_, rfl, p, _, _, _, rfl, rfl, ht, atI_nat (j := 1) rfl, fun x dx hx hd hxd => ?_⟩
      refine ⟨x, dx, _, rfl, upd_same, rfl, q x _ ?_ ⟨x, dx, rfl, upd_same⟩⟩
      intro b u e
      rw [upd_ne (ne_of_none e hx)]
      exact same_made hx hd hxd _ _ b u e
    | op g a b =>
      obtain ⟨p, va, vb, rfl, ht, ia, ib⟩ := is_op it
      have hn : max (dp a) (dp b) + 1 < n + 1 := hn
      have n1 : ¬ V.str (sgS g) = V.str "number" := by cases g <;> decide +kernel
      have n2 : ¬ V.str (sgS g) = V.str "name" := by cases g <;> decide +kernel
      refine ⟨_, rfl, p, _, _, _, rfl, rfl, ht, atI_nat (j := 0) rfl, rfl, _, rfl, ite2 (fun c => absurd (of_decide_eq_true c) n1) (fun _ => ?_)⟩
      refine ⟨_, rfl, p, _, _, _, rfl, rfl, ht, atI_nat (j := 0) rfl, rfl, _, rfl, ite2 (fun c => absurd (of_decide_eq_true c) n2) (fun _ => ?_)⟩
      refine ⟨_, rfl, p, _, _, _, rfl, rfl, ht, atI_nat (j := 1) rfl, va, a, rfl, ia, by omega, fun p1 H1 s1 o1 => ?_⟩
      refine ⟨_, rfl, p, _, _, _, rfl, rfl, s1.tup ht, atI_nat (j := 2) rfl, vb, b, rfl, ib.same s1, by omega, fun p2 H2 s2 o2 => ?_⟩
      have ht2 := s2.tup (s1.tup ht)
      have fin : ∀ (x dx : Addr), H2 x = none → H2 dx = none → dx ≠ x → spTwoI (CK (.op g)) [.ref x, .ref p1, .ref p2] (upd (upd H2 dx (.own x)) x (.ins (CK (.op g)) dx [])) (fun v H3 => v = .non ∧ Q (.ref x) H3) E0 := by
        intro x dx hx hd hxd
        refine ⟨x, dx, _, _, rfl, upd_same, fun H3 h3 h4 => ⟨rfl, ?_⟩⟩
        have s3 : Same H2 H3 := by
          intro b' u e
          rw [h4 b' (ne_of_none e hx)]
          exact same_made hx hd hxd _ _ b' u e
        exact q x H3 (s1.trans (s2.trans s3)) ⟨x, dx, _, _, rfl, h3, o1.same (s2.trans s3), o2.same s3⟩
      cases g with
      | plus =>
        refine ⟨_, rfl, p, _, _, _, rfl, rfl, ht2, atI_nat (j := 0) rfl, rfl, _, rfl, ite2 (fun _ => ?_) (fun c => absurd (decide_eq_true rfl) c)⟩
        exact ⟨_, rfl, _, rfl, fin⟩
      | minus =>
        refine ⟨_, rfl, p, _, _, _, rfl, rfl, ht2, atI_nat (j := 0) rfl, rfl, _, rfl, ite2 (fun c => absurd (of_decide_eq_true c) (by decide +kernel)) (fun _ => ?_)⟩
        refine ⟨_, rfl, p, _, _, _, rfl, rfl, ht2, atI_nat (j := 0) rfl, rfl, _, rfl, ite2 (fun _ => ?_) (fun c => absurd (decide_eq_true rfl) c)⟩
        exact ⟨_, rfl, _, rfl, fin⟩
      | times =>
        refine ⟨_, rfl, p, _, _, _, rfl, rfl, ht2, atI_nat (j := 0) rfl, rfl, _, rfl, ite2 (fun c => absurd (of_decide_eq_true c) (by decide +kernel)) (fun _ => ?_)⟩
        refine ⟨_, rfl, p, _, _, _, rfl, rfl, ht2, atI_nat (j := 0) rfl, rfl, _, rfl, ite2 (fun c => absurd (of_decide_eq_true c) (by decide +kernel)) (fun _ => ?_)⟩
        exact ⟨_, rfl, _, rfl, fin⟩
end
end Nw

set_option Elab.async false
set_option linter.all false
set_option maxRecDepth 100000
set_option maxHeartbeats 4000000
namespace Nw
open PySem L2
/-! ### changes -/
inductive Kc where
  | cha | put | any
inductive Ch where
  | cha (n : Str) | put (n : Str) (t : Tr) | any (n : Str) (t u : Tr)
def kc : Ch → Kc
  | .cha _ => .cha
  | .put _ _ => .put
  | .any _ _ _ => .any
def chN : Ch → Str
  | .cha n => n
  | .put n _ => n
  | .any n _ _ => n
def ccOf (CC CU CA : Addr) : Kc → Addr
  | .cha => CC
  | .put => CU
  | .any => CA
def putFd (n o : V) : List (Str × V) := putF "one" o (namF n)
def anyFd (n a b : V) : List (Str × V) := putF "other" b (putF "one" a (namF n))
theorem nam_c (v : V) : (namF v).lookup ("choices" : Str) = none := by unfold namF; rw [lookup_putF, if_neg (by decide +kernel)]; rfl
theorem putd_one (n o : V) : (putFd n o).lookup ("one" : Str) = some o := by unfold putFd; rw [lookup_putF, if_pos rfl]
theorem putd_nam (n o : V) : (putFd n o).lookup ("name" : Str) = some n := by unfold putFd; rw [lookup_putF, if_neg (by decide +kernel)]; exact nam_at n
theorem putd_c (n o : V) : (putFd n o).lookup ("choices" : Str) = none := by unfold putFd; rw [lookup_putF, if_neg (by decide +kernel)]; exact nam_c n
theorem anyd_one (n a b : V) : (anyFd n a b).lookup ("one" : Str) = some a := by unfold anyFd; rw [lookup_putF, if_neg (by decide +kernel), lookup_putF, if_pos rfl]
theorem anyd_oth (n a b : V) : (anyFd n a b).lookup ("other" : Str) = some b := by unfold anyFd; rw [lookup_putF, if_pos rfl]
theorem anyd_nam (n a b : V) : (anyFd n a b).lookup ("name" : Str) = some n := by unfold anyFd; rw [lookup_putF, if_neg (by decide +kernel), lookup_putF, if_neg (by decide +kernel)]; exact nam_at n
theorem anyd_c (n a b : V) : (anyFd n a b).lookup ("choices" : Str) = none := by unfold anyFd; rw [lookup_putF, if_neg (by decide +kernel), lookup_putF, if_neg (by decide +kernel)]; exact nam_c n
structure ClsC (K : PySem.W.Frag) (CC : Kc → Addr) : Prop where
  cl : ∀ k, Cls K (CC k)
  nm : ∀ k, NoAttr K (CC k) "name"
  p1 : NoAttr K (CC .put) "one"
  a1 : NoAttr K (CC .any) "one"
  a2 : NoAttr K (CC .any) "other"
def ObjC (CK : Kd → Addr) (CC : Kc → Addr) (H : Hp) : Ch → V → Prop
  | .cha n, v => ∃ p dx, v = .ref p ∧ H p = some (.ins (CC .cha) dx (namF (.str n)))
  | .put n t, v => ∃ p dx o, v = .ref p ∧ H p = some (.ins (CC .put) dx (putFd (.str n) o)) ∧ Obj CK H t o
  | .any n t u, v => ∃ p dx a b, v = .ref p ∧ H p = some (.ins (CC .any) dx (anyFd (.str n) a b)) ∧ Obj CK H t a ∧ Obj CK H u b
theorem ObjC.same {CK : Kd → Addr} {CC : Kc → Addr} {H H' : Hp} (s : Same H H') : ∀ {c : Ch} {v : V}, ObjC CK CC H c v → ObjC CK CC H' c v
  | .cha n, v, h => by obtain ⟨p, dx, e, h⟩ := h; exact ⟨p, dx, e, s _ _ h⟩
  | .put n t, v, h => by obtain ⟨p, dx, o, e, h, h1⟩ := h; exact ⟨p, dx, o, e, s _ _ h, h1.same s⟩
  | .any n t u, v, h => by obtain ⟨p, dx, a, b, e, h, h1, h2⟩ := h; exact ⟨p, dx, a, b, e, s _ _ h, h1.same s, h2.same s⟩
theorem ObjC.at_ {CK : Kd → Addr} {CC : Kc → Addr} {H : Hp} : ∀ {c : Ch} {v : V}, ObjC CK CC H c v → ∃ p dx fs, v = .ref p ∧ H p = some (.ins (CC (kc c)) dx fs) ∧ fs.lookup ("choices" : Str) = none ∧ fs.lookup ("name" : Str) = some (.str (chN c))
  | .cha n, v, h => by obtain ⟨p, dx, e, h⟩ := h; exact ⟨p, dx, _, e, h, nam_c _, nam_at _⟩
  | .put n t, v, h => by obtain ⟨p, dx, o, e, h, h1⟩ := h; exact ⟨p, dx, _, e, h, putd_c _ _, putd_nam _ _⟩
  | .any n t u, v, h => by obtain ⟨p, dx, a, b, e, h, h1, h2⟩ := h; exact ⟨p, dx, _, e, h, anyd_c _ _ _, anyd_nam _ _ _⟩
def FitsC (l : List Str) (n : Nat) : Ch → Prop
  | .cha _ => True
  | .put _ t => Fits l t ∧ lv t ≤ 100 ∧ dp t < n
  | .any _ t u => (Fits l t ∧ lv t ≤ 100 ∧ dp t < n) ∧ Fits l u ∧ lv u ≤ 100 ∧ dp u < n
/-- the values that a change tells from lo to hi -/
def chV (vf : Str → Int) (lo hi : Int) : Ch → List V
  | .cha _ => []
  | .put _ t => if lo ≤ val vf t ∧ val vf t ≤ hi then [.int (val vf t)] else []
  | .any _ t u => upTo (if val vf t > lo then val vf t else lo) ((if val vf u < hi then val vf u else hi) + 1 - (if val vf t > lo then val vf t else lo)).toNat
section
variable {P : Program} {w : World} {K : PySem.W.Frag} {mg : Str → Option Value} {base : Heap} {CK : Kd → Addr} {CC : Kc → Addr}
/-! ### making -/
def spChaI (C : Addr) : Sp := fun vs H Q _ => ∃ (x dx : Addr) (v : V), vs = [.ref x, v] ∧ H x = some (.ins C dx []) ∧ Q .non (upd H x (.ins C dx (namF v)))
theorem scChaI : FnScope ["self", "name"] ["self", "name"] (defScope sChaI) := ⟨rfl, rfl, rfl, by decide +kernel, rfl, by decide +kernel, by decide +kernel⟩
theorem ok_chaI {f : Addr} {fd : FuncData} (c : ClsC K CC) (F : Fun K "__init__" "Change.__init__" sChaI f fd) (k : Kc) : FnOk P w K mg base CX0 1 f fd ["self", "name"] (spChaI (CC k)) := by
  refine F.ok scChaI (fun vs H Q E h => ?_) (fun cdv A outer s H vs Q E hr h => ?_)
  · obtain ⟨x, dx, v, rfl, _⟩ := h
    rfl
  obtain ⟨x, dx, v, rfl, hx, q⟩ := h
  refine ⟨_, (@pss_one _ _ _ (@ps_fld _ _ _ _ _ _ _ _ (pv 0) (pv 1) rfl)), ?_⟩
  exact ⟨_, rfl, _, rfl, x, _, dx, _, rfl, hx, c.cl _, c.nm _, (by show 0 < 1000; decide), q⟩
def spPutI (C : Addr) : Sp := fun vs H Q _ => ∃ (x dx : Addr) (n o : V), vs = [.ref x, n, o] ∧ H x = some (.ins C dx []) ∧ ∀ H', H' x = some (.ins C dx (putFd n o)) → (∀ b, b ≠ x → H' b = H b) → Q .non H'
theorem scPutI : FnScope ["self", "name", "one"] ["self", "name", "one"] (defScope sPutI) := ⟨rfl, rfl, rfl, by decide +kernel, rfl, by decide +kernel, by decide +kernel⟩
theorem ok_putI {f fC : Addr} {fd fdC : FuncData} (c : ClsC K CC) (F : Fun K "__init__" "Put.__init__" sPutI f fd) (FC : Fun K "__init__" "Change.__init__" sChaI fC fdC) (bC : Binds K fdC ["self", "name"] []) (gC : mg "Change" = some (.ref (CC .cha))) (M : CMeth K (CC .cha) "__init__" fC) : FnOk P w K mg base CX0 2 f fd ["self", "name", "one"] (spPutI (CC .put)) := by
  have GC : FnOk P w K mg base CX0 1 fC fdC ["self", "name"] (spChaI (CC .put)) := ok_chaI c FC .put
  refine F.ok scPutI (fun vs H Q E h => ?_) (fun cdv A outer s H vs Q E hr h => ?_)
  · obtain ⟨x, dx, n, o, rfl, _⟩ := h
    rfl
  obtain ⟨x, dx, n, o, rfl, hx, q⟩ := h
  refine ⟨_, (@pss_cons _ _ _ _ _ (@ps_expr _ _ _ _ (pe_callC rfl gC M GC hr bC .nil pass0 (@pa_cons _ _ _ _ _ (pv 0) (@pa_cons _ _ _ _ _ (pv 1) pa_nil (by rfl)) (by rfl))) (by rfl)) (@pss_one _ _ _ (@ps_fld _ _ _ _ _ _ _ _ (pv 0) (pv 2) rfl))), ?_⟩
  refine ⟨_, rfl, _, rfl, x, dx, n, rfl, hx, ?_⟩
  refine ⟨_, rfl, _, rfl, x, _, dx, _, rfl, upd_same, c.cl _, c.p1, Nat.lt_of_le_of_lt (length_putF _ _ _) (by show 1 < 1000; decide), ?_⟩
  exact q _ upd_same fun b hb => by rw [upd_ne hb, upd_ne hb]
def spAnyI (C : Addr) : Sp := fun vs H Q _ => ∃ (x dx : Addr) (n o u : V), vs = [.ref x, n, o, u] ∧ H x = some (.ins C dx []) ∧ ∀ H', H' x = some (.ins C dx (anyFd n o u)) → (∀ b, b ≠ x → H' b = H b) → Q .non H'
theorem scAnyI : FnScope ["self", "name", "one", "other"] ["self", "name", "one", "other"] (defScope sAnyI) := ⟨rfl, rfl, rfl, by decide +kernel, rfl, by decide +kernel, by decide +kernel⟩
theorem ok_anyI {f fC : Addr} {fd fdC : FuncData} (c : ClsC K CC) (F : Fun K "__init__" "Any.__init__" sAnyI f fd) (FC : Fun K "__init__" "Change.__init__" sChaI fC fdC) (bC : Binds K fdC ["self", "name"] []) (gC : mg "Change" = some (.ref (CC .cha))) (M : CMeth K (CC .cha) "__init__" fC) : FnOk P w K mg base CX0 2 f fd ["self", "name", "one", "other"] (spAnyI (CC .any)) := by
  have GC : FnOk P w K mg base CX0 1 fC fdC ["self", "name"] (spChaI (CC .any)) := ok_chaI c FC .any
  refine F.ok scAnyI (fun vs H Q E h => ?_) (fun cdv A outer s H vs Q E hr h => ?_)
  · obtain ⟨x, dx, n, o, u, rfl, _⟩ := h
    rfl
  obtain ⟨x, dx, n, o, u, rfl, hx, q⟩ := h
  refine ⟨_, (@pss_cons _ _ _ _ _ (@ps_expr _ _ _ _ (pe_callC rfl gC M GC hr bC .nil pass0 (@pa_cons _ _ _ _ _ (pv 0) (@pa_cons _ _ _ _ _ (pv 1) pa_nil (by rfl)) (by rfl))) (by rfl)) (@pss_cons _ _ _ _ _ (@ps_fld _ _ _ _ _ _ _ _ (pv 0) (pv 2) rfl) (@pss_one _ _ _ (@ps_fld _ _ _ _ _ _ _ _ (pv 0) (pv 3) rfl)))), ?_⟩
  refine ⟨_, rfl, _, rfl, x, dx, n, rfl, hx, ?_⟩
  refine ⟨_, rfl, _, rfl, x, _, dx, _, rfl, upd_same, c.cl _, c.a1, Nat.lt_of_le_of_lt (length_putF _ _ _) (by show 1 < 1000; decide), ?_⟩
  refine ⟨_, rfl, _, rfl, x, _, dx, _, rfl, upd_same, c.cl _, c.a2, Nat.lt_of_le_of_lt (length_putF _ _ _) (Nat.lt_of_le_of_lt (Nat.succ_le_succ (length_putF _ _ _)) (by show 2 < 1000; decide)), ?_⟩
  exact q _ upd_same fun b hb => by rw [upd_ne hb, upd_ne hb, upd_ne hb]
/-! ### choices -/
def spC (CK : Kd → Addr) (CC : Kc → Addr) (n : Nat) (k : Kc) : Sp := fun vs H Q _ => ∃ (v : V) (d : Addr) (lo hi : Int) (c : Ch) (kvs : List (Key × V)) (l : List Str) (vf : Str → Int), vs = [v, .ref d, .int lo, .int hi] ∧ kc c = k ∧ ObjC CK CC H c v ∧ H d = some (.dK kvs) ∧ ValsOk kvs l vf ∧ FitsC l n c ∧ hi - lo ≤ 500 ∧ ∀ p, H p = none → Q (.ref p) (upd H p (.lst (chV vf lo hi c)))
theorem scChaC : FnScope ["self", "values", "low", "high"] ["self", "values", "low", "high"] (defScope sChaC) := ⟨rfl, rfl, rfl, by decide +kernel, rfl, by decide +kernel, by decide +kernel⟩
theorem ok_chaC {f : Addr} {fd : FuncData} (F : Fun K "choices" "Change.choices" sChaC f fd) (n : Nat) : FnOk P w K mg base CX0 1 f fd ["self", "values", "low", "high"] (spC CK CC n .cha) := by
  refine F.ok scChaC (fun vs H Q E h => ?_) (fun cdv A outer s H vs Q E hr h => ?_)
  · obtain ⟨v, d, lo, hi, c, kvs, l, vf, rfl, _⟩ := h
    rfl
  obtain ⟨v, d, lo, hi, c, kvs, l, vf, rfl, kt, ob, hd, O, ft, hw, q⟩ := h
  refine ⟨_, (@pss_one _ _ _ (@ps_ret _ _ _ _ (@pe_lst _ _ _ _ pa_nil))), ?_⟩
  cases c with
  | cha m => exact ⟨Nat.zero_le _, fun p hp => q p hp⟩
  | _ => cases kt
theorem scPutC : FnScope ["self", "values", "low", "high", "worth"] ["self", "values", "low", "high"] (defScope sPutC) := ⟨rfl, rfl, rfl, by decide +kernel, rfl, by decide +kernel, by decide +kernel⟩
theorem ok_putC {f : Addr} {fd : FuncData} (c : ClsC K CC) (F : Fun K "choices" "Put.choices" sPutC f fd) (n : Nat) (W : ∀ k, MOk P w K mg base (n + 1) (CK k) "worth" (spW CK n k)) : FnOk P w K mg base CX0 (n + 2) f fd ["self", "values", "low", "high"] (spC CK CC n .put) := by
  refine F.ok scPutC (fun vs H Q E h => ?_) (fun cdv A outer s H vs Q E hr h => ?_)
  · obtain ⟨v, d, lo, hi, c, kvs, l, vf, rfl, _⟩ := h
    rfl
  obtain ⟨v, d, lo, hi, cg, kvs, l, vf, rfl, kt, ob, hd, O, ft, hw, q⟩ := h
  refine ⟨_, (@pss_cons _ _ _ _ _ (@ps_set _ _ 4 _ _ _ _ scPutC.nd rfl (Or.inl rfl) (pe_methP (@pe_fld _ _ _ _ _ (pv 0) rfl) hr (@pa_cons _ _ _ _ _ (pv 1) pa_nil (by rfl))) rfl (Or.inl rfl)) (@pss_cons _ _ _ _ _ (@ps_if _ _ _ _ _ _ _ _ ((@pw_or _ _ _ _ _ _ _ (@pt_cmpR _ _ _ _ _ _ _ _ op_lt (pv 4) (pv 2) (nomark _)) (pw_or1 (@pt_cmpR _ _ _ _ _ _ _ _ op_gt (pv 4) (pv 3) (nomark _))))).pt (@pss_one _ _ _ (@ps_ret _ _ _ _ (@pe_lst _ _ _ _ pa_nil))) pss_nil) (@pss_one _ _ _ (@ps_ret _ _ _ _ (@pe_lst _ _ _ _ (@pa_cons _ _ _ _ _ (pv 4) pa_nil (by rfl))))))), ?_⟩
  cases cg with
  | put m t =>
    obtain ⟨p, dx, o, rfl, hp, oo⟩ := ob
    obtain ⟨f1, f2, f3⟩ : Fits l t ∧ lv t ≤ 100 ∧ dp t < n := ft
    obtain ⟨pa, dxa, fsa, rfl, ha, la⟩ := oo.at_
    have q : ∀ p, H p = none → Q (.ref p) (upd H p (.lst (if lo ≤ val vf t ∧ val vf t ≤ hi then [.int (val vf t)] else []))) := q
    refine ⟨_, rfl, p, _, dx, _, _, rfl, hp, c.cl _, c.p1, putd_one _ _, pa, _, dxa, fsa, _, rfl, ha, la, W _, _, rfl, _, d, t, kvs, l, vf, rfl, rfl, oo, hd, O, f1, f2, f3, ?_⟩
    refine ⟨_, rfl, _, rfl, _, _, rfl, rfl, _, rfl, ite2 (fun c1 => ?_) (fun c1 => ?_)⟩
    · have c1 : val vf t < lo := of_decide_eq_true c1
      rw [if_neg (by omega)] at q
      exact ⟨Nat.zero_le _, q⟩
    have c1 : ¬ val vf t < lo := of_decide_eq_false (Bool.eq_false_iff.mpr c1)
    refine ⟨_, rfl, _, rfl, _, _, rfl, rfl, _, rfl, ite2 (fun c2 => ?_) (fun c2 => ?_)⟩
    · have c2 : val vf t > hi := of_decide_eq_true c2
      rw [if_neg (by omega)] at q
      exact ⟨Nat.zero_le _, q⟩
    · have c2 : ¬ val vf t > hi := of_decide_eq_false (Bool.eq_false_iff.mpr c2)
      rw [if_pos (by omega)] at q
      exact ⟨_, rfl, by show 1 ≤ sizeLine; decide, q⟩
  | _ => cases kt
theorem scAnyC : FnScope ["self", "values", "low", "high", "least", "most"] ["self", "values", "low", "high"] (defScope sAnyC) := ⟨rfl, rfl, rfl, by decide +kernel, rfl, by decide +kernel, by decide +kernel⟩
theorem ok_anyC {f : Addr} {fd : FuncData} (B : Bl mg) (c : ClsC K CC) (F : Fun K "choices" "Any.choices" sAnyC f fd) (n : Nat) (W : ∀ k, MOk P w K mg base (n + 1) (CK k) "worth" (spW CK n k)) : FnOk P w K mg base CX0 (n + 2) f fd ["self", "values", "low", "high"] (spC CK CC n .any) := by
  refine F.ok scAnyC (fun vs H Q E h => ?_) (fun cdv A outer s H vs Q E hr h => ?_)
  · obtain ⟨v, d, lo, hi, c, kvs, l, vf, rfl, _⟩ := h
    rfl
  obtain ⟨v, d, lo, hi, cg, kvs, l, vf, rfl, kt, ob, hd, O, ft, hw, q⟩ := h
  refine ⟨_, (@pss_cons _ _ _ _ _ (@ps_set _ _ 4 _ _ _ _ scAnyC.nd rfl (Or.inl rfl) (pe_callB (call_max2 rfl) (by rfl) B.max PyProof.Rows.boot_max (@pa_cons _ _ _ _ _ (pv 2) (@pa_cons _ _ _ _ _ (pe_methP (@pe_fld _ _ _ _ _ (pv 0) rfl) hr (@pa_cons _ _ _ _ _ (pv 1) pa_nil (by rfl))) pa_nil (by rfl)) (by rfl))) rfl (Or.inl rfl)) (@pss_cons _ _ _ _ _ (@ps_set _ _ 5 _ _ _ _ scAnyC.nd rfl (Or.inl rfl) (pe_callB (call_min2 rfl) (by rfl) B.min PyProof.Rows.boot_min (@pa_cons _ _ _ _ _ (pv 3) (@pa_cons _ _ _ _ _ (pe_methP (@pe_fld _ _ _ _ _ (pv 0) rfl) hr (@pa_cons _ _ _ _ _ (pv 1) pa_nil (by rfl))) pa_nil (by rfl)) (by rfl))) rfl (Or.inl rfl)) (@pss_one _ _ _ (@ps_ret _ _ _ _ (pe_listRange rfl B.list rfl B.range rfl (@pa_cons _ _ _ _ _ (pv 4) (@pa_cons _ _ _ _ _ (@pe_op _ _ _ _ _ _ _ _ op_add (pv 5) pe_int) pa_nil (by rfl)) (by rfl))))))), ?_⟩
  cases cg with
  | any m t u =>
    obtain ⟨p, dx, o, o', rfl, hp, oo, ou⟩ := ob
    obtain ⟨⟨f1, f2, f3⟩, g1, g2, g3⟩ : (Fits l t ∧ lv t ≤ 100 ∧ dp t < n) ∧ Fits l u ∧ lv u ≤ 100 ∧ dp u < n := ft
    obtain ⟨pa, dxa, fsa, rfl, ha, la⟩ := oo.at_
    obtain ⟨pb, dxb, fsb, rfl, hb, lb⟩ := ou.at_
    refine ⟨_, rfl, _, rfl, p, _, dx, _, _, rfl, hp, c.cl _, c.a1, anyd_one _ _ _, pa, _, dxa, fsa, _, rfl, ha, la, W _, _, rfl, _, d, t, kvs, l, vf, rfl, rfl, oo, hd, O, f1, f2, f3, _, _, rfl, ?_⟩
    refine ⟨_, rfl, _, rfl, p, _, dx, _, _, rfl, hp, c.cl _, c.a2, anyd_oth _ _ _, pb, _, dxb, fsb, _, rfl, hb, lb, W _, _, rfl, _, d, u, kvs, l, vf, rfl, rfl, ou, hd, O, g1, g2, g3, _, _, rfl, ?_⟩
    refine ⟨_, rfl, _, rfl, _, _, rfl, rfl, _, _, rfl, ?_, fun z hz => q z hz⟩
    split <;> split <;> omega
  | _ => cases kt
/-! ### what is right -/
def spWhole : Sp := fun vs H Q _ => ∃ i : Int, vs = [.int i] ∧ Q (.bl true) H
theorem scWhole : FnScope ["_law_found"] ["_law_found"] (defScope sWhole) := ⟨rfl, rfl, rfl, by decide +kernel, rfl, by decide +kernel, by decide +kernel⟩
theorem ok_whole {f : Addr} {fd : FuncData} (B : Bl mg) (F : Fun K "_law_whole" "_law_whole" sWhole f fd) : FnOk P w K mg base CX0 1 f fd ["_law_found"] spWhole := by
  refine F.ok scWhole (fun vs H Q E h => ?_) (fun cdv A outer s H vs Q E hr h => ?_)
  · obtain ⟨i, rfl, _⟩ := h
    rfl
  obtain ⟨i, rfl, k⟩ := h
  refine ⟨_, (@pss_one _ _ _ (@ps_ret _ _ _ _ (@pe_and _ _ _ _ _ _ _ (pe_callB call_isinst (by rfl) B.isinstance PyProof.Rows.boot_isinstance (@pa_cons _ _ _ _ _ (pv 0) (@pa_cons _ _ _ _ _ (pe_bltn (v := V.ty "int") (by rfl) B.int PyProof.Rows.boot_int (by rfl)) pa_nil (by rfl)) (by rfl))) (@pe_one _ _ _ _ _ (@pe_not _ _ _ _ (pe_callB call_isinst (by rfl) B.isinstance PyProof.Rows.boot_isinstance (@pa_cons _ _ _ _ _ (pv 0) (@pa_cons _ _ _ _ _ (pe_bltn (v := V.ty "bool") (by rfl) B.bool PyProof.Rows.boot_bool (by rfl)) pa_nil (by rfl)) (by rfl)))))))), ?_⟩
  refine ⟨_, rfl, _, _, _, _, rfl, TyOf.int i, rfl, _, rfl, ?_⟩
  rw [if_pos rfl]
  exact ⟨_, rfl, _, _, _, false, rfl, TyOf.int i, rfl, _, rfl, k⟩
end
end Nw

set_option Elab.async false
set_option linter.all false
set_option maxRecDepth 100000
set_option maxHeartbeats 4000000
namespace Nw
open PySem L2
/-! ### sayings -/
inductive Cm where
  | lt | le | eq | ne
inductive Bn where
  | and | or
inductive Sy where
  | yes | cmp (c : Cm) (l r : Tr) | neg (s : Sy) | bin (b : Bn) (l r : Sy)
def cmS : Cm → Str
  | .lt => "<"
  | .le => "<="
  | .eq => "="
  | .ne => "!="
def bnS : Bn → Str
  | .and => "and"
  | .or => "or"
def syD : Sy → Dt
  | .yes => .tup [.str "yes"]
  | .cmp c l r => .tup [.str (cmS c), trD l, trD r]
  | .neg s => .tup [.str "not", syD s]
  | .bin b l r => .tup [.str (bnS b), syD l, syD r]
def dps : Sy → Nat
  | .yes => 0
  | .cmp _ _ _ => 0
  | .neg s => dps s + 1
  | .bin _ l r => max (dps l) (dps r) + 1
def FitsS (l : List Str) : Sy → Prop
  | .yes => True
  | .cmp _ a b => Fits l a ∧ Fits l b ∧ lv a ≤ 9 ∧ lv b ≤ 9
  | .neg s => FitsS l s
  | .bin _ a b => FitsS l a ∧ FitsS l b
theorem is_yes {K : PySem.W.Frag} {H : Hp} {v : V} (h : Is K H (syD .yes) v) : ∃ p, v = .ref p ∧ SqT K H p [.str "yes"] := by
  rw [syD, Is] at h
  obtain ⟨p, xs, e, h1, h2⟩ := h
  simp only [Iss, Is] at h2
  obtain ⟨v1, r1, rfl, rfl, rfl⟩ := h2
  exact ⟨p, e, h1⟩
theorem is_cmp {K : PySem.W.Frag} {H : Hp} {g : Cm} {l r : Tr} {v : V} (h : Is K H (syD (.cmp g l r)) v) : ∃ p a b, v = .ref p ∧ SqT K H p [.str (cmS g), a, b] ∧ Is K H (trD l) a ∧ Is K H (trD r) b := by
  rw [syD, Is] at h
  obtain ⟨p, xs, e, h1, h2⟩ := h
  simp only [Iss] at h2
  obtain ⟨v1, r1, rfl, i1, v2, r2, rfl, i2, v3, r3, rfl, i3, rfl⟩ := h2
  rw [Is] at i1
  subst i1
  exact ⟨p, v2, v3, e, h1, i2, i3⟩
theorem is_neg {K : PySem.W.Frag} {H : Hp} {s : Sy} {v : V} (h : Is K H (syD (.neg s)) v) : ∃ p a, v = .ref p ∧ SqT K H p [.str "not", a] ∧ Is K H (syD s) a := by
  rw [syD, Is] at h
  obtain ⟨p, xs, e, h1, h2⟩ := h
  simp only [Iss] at h2
  obtain ⟨v1, r1, rfl, i1, v2, r2, rfl, i2, rfl⟩ := h2
  rw [Is] at i1
  subst i1
  exact ⟨p, v2, e, h1, i2⟩
theorem is_bin {K : PySem.W.Frag} {H : Hp} {g : Bn} {l r : Sy} {v : V} (h : Is K H (syD (.bin g l r)) v) : ∃ p a b, v = .ref p ∧ SqT K H p [.str (bnS g), a, b] ∧ Is K H (syD l) a ∧ Is K H (syD r) b := by
  rw [syD, Is] at h
  obtain ⟨p, xs, e, h1, h2⟩ := h
  simp only [Iss] at h2
  obtain ⟨v1, r1, rfl, i1, v2, r2, rfl, i2, v3, r3, rfl, i3, rfl⟩ := h2
  rw [Is] at i1
  subst i1
  exact ⟨p, v2, v3, e, h1, i2, i3⟩
theorem sy_yes {K : PySem.W.Frag} {H : Hp} {p : Addr} (h : SqT K H p [.str "yes"]) : Is K H (syD .yes) (.ref p) := by
  rw [syD, Is]
  exact ⟨p, _, rfl, h, .cons (by rw [Is]) .nil⟩
theorem sy_cmp {K : PySem.W.Frag} {H : Hp} {p : Addr} {g : Cm} {l r : Tr} {a b : V} (h : SqT K H p [.str (cmS g), a, b]) (h1 : Is K H (trD l) a) (h2 : Is K H (trD r) b) : Is K H (syD (.cmp g l r)) (.ref p) := by
  rw [syD, Is]
  exact ⟨p, _, rfl, h, .cons (by rw [Is]) (.cons h1 (.cons h2 .nil))⟩
theorem sy_neg {K : PySem.W.Frag} {H : Hp} {p : Addr} {s : Sy} {a : V} (h : SqT K H p [.str "not", a]) (h1 : Is K H (syD s) a) : Is K H (syD (.neg s)) (.ref p) := by
  rw [syD, Is]
  exact ⟨p, _, rfl, h, .cons (by rw [Is]) (.cons h1 .nil)⟩
theorem sy_bin {K : PySem.W.Frag} {H : Hp} {p : Addr} {g : Bn} {l r : Sy} {a b : V} (h : SqT K H p [.str (bnS g), a, b]) (h1 : Is K H (syD l) a) (h2 : Is K H (syD r) b) : Is K H (syD (.bin g l r)) (.ref p) := by
  rw [syD, Is]
  exact ⟨p, _, rfl, h, .cons (by rw [Is]) (.cons h1 (.cons h2 .nil))⟩
theorem sy_sb {K : PySem.W.Frag} {a : Addr} {H H' : Hp} {ys : List V} (ha : H a = some (.lst ys)) (s : Sb a H H') : ∀ {t : Sy} {v : V}, Is K H (syD t) v → Is K H' (syD t) v
  | .yes, v, h => by
    obtain ⟨p, rfl, h1⟩ := is_yes h
    exact sy_yes (SqT.sb h1 ha s)
  | .cmp g l r, v, h => by
    obtain ⟨p, x, y, rfl, h1, h2, h3⟩ := is_cmp h
    exact sy_cmp (SqT.sb h1 ha s) (tr_sb ha s h2) (tr_sb ha s h3)
  | .neg t, v, h => by
    obtain ⟨p, x, rfl, h1, h2⟩ := is_neg h
    exact sy_neg (SqT.sb h1 ha s) (sy_sb ha s h2)
  | .bin g l r, v, h => by
    obtain ⟨p, x, y, rfl, h1, h2, h3⟩ := is_bin h
    exact sy_bin (SqT.sb h1 ha s) (sy_sb ha s h2) (sy_sb ha s h3)
theorem cm_at {k : Int} (k0 : 0 ≤ k) (k1 : k < 4) : ∃ g : Cm, atI [V.str "<", V.str "<=", V.str "=", V.str "!="] k = some (.str (cmS g)) := by
  have : k = 0 ∨ k = 1 ∨ k = 2 ∨ k = 3 := by omega
  rcases this with rfl | rfl | rfl | rfl
  · exact ⟨.lt, atI_nat (j := 0) rfl⟩
  · exact ⟨.le, atI_nat (j := 1) rfl⟩
  · exact ⟨.eq, atI_nat (j := 2) rfl⟩
  · exact ⟨.ne, atI_nat (j := 3) rfl⟩
theorem bn_at {k : Int} (k0 : 0 ≤ k) (k1 : k < 2) : ∃ g : Bn, atI [V.str "and", V.str "or"] k = some (.str (bnS g)) := by
  have : k = 0 ∨ k = 1 := by omega
  rcases this with rfl | rfl
  · exact ⟨.and, atI_nat (j := 0) rfl⟩
  · exact ⟨.or, atI_nat (j := 1) rfl⟩
section
variable {P : Program} {w : World} {K : PySem.W.Frag} {mg : Str → Option Value} {base : Heap}
def spSay (K : PySem.W.Frag) (n : Nat) : Sp := fun vs H Q _ => ∃ (a b : Addr) (s1 near d : Int) (l : List Str), vs = [.ref a, .ref b, .int near, .int d] ∧ StAt H a b s1 l ∧ l.length ≤ 8 ∧ 0 ≤ d ∧ d.toNat < n ∧
  ∀ (p : Addr) (H' : Hp) (t : Sy), Sb a H H' → StAt H' a b s1 l → Is K H' (syD t) (.ref p) → FitsS l t → dps t ≤ d.toNat → Q (.ref p) H'
theorem scSay : FnScope ["_law_state", "_law_names_here", "_law_near", "_law_depth", "_law_kind", "_law_sign", "_law_one", "_law_word"] ["_law_state", "_law_names_here", "_law_near", "_law_depth"] (defScope sSaying) := ⟨rfl, rfl, rfl, by decide +kernel, rfl, by decide +kernel, by decide +kernel⟩
theorem ok_say {f fS fD : Addr} {fd fdS fdD : FuncData} (B : Bl mg) (F : Fun K "_law_saying" "_law_saying" sSaying f fd) (bY : Binds K fd ["_law_state", "_law_names_here", "_law_near", "_law_depth"] []) (mY : mg "_law_saying" = some (.ref f))
    (FS : Fun K "_law_sum" "_law_sum" sSum fS fdS) (bS : Binds K fdS ["_law_state", "_law_names_here", "_law_near", "_law_depth"] []) (mS : mg "_law_sum" = some (.ref fS))
    (FD : Fun K "_law_draw" "_law_draw" sDraw fD fdD) (bD : Binds K fdD ["_law_state", "_law_many"] []) (mD : mg "_law_draw" = some (.ref fD)) : ∀ n : Nat, FnOk P w K mg base CX0 (n + 7) f fd ["_law_state", "_law_names_here", "_law_near", "_law_depth"] (spSay K n)
  | 0 => fn_none fun vs H Q E h => by obtain ⟨a, b, s1, near, d, l, _, _, _, _, h1, _⟩ := h; omega
  | n + 1 => by
    have GD : FnOk P w K mg base CX0 1 fD fdD ["_law_state", "_law_many"] spDraw := ok_draw FD
    have GS : FnOk P w K mg base CX0 6 fS fdS ["_law_state", "_law_names_here", "_law_near", "_law_depth"] (spSum K 4) := ok_sum B FS bS mS FD bD mD 4
    have GY := ok_say B F bY mY FS bS mS FD bD mD n
    refine F.ok scSay (fun vs H Q E h => ?_) (fun cdv A outer s H vs Q E hr h => ?_)
    · obtain ⟨a, b, s1, near, d, l, rfl, _⟩ := h
      rfl
    obtain ⟨a, b, s1, near, d, l, rfl, S, l8, d0, hn, q⟩ := h
    have hrD := hr.mono (show 1 ≤ n + 7 by omega)
    have hrS := hr.mono (show 6 ≤ n + 7 by omega)
    refine ⟨_, (@pss_cons _ _ _ _ _ (@ps_set _ _ 4 _ _ _ _ scSay.nd rfl (Or.inl rfl) (pe_call GD hrD (by rfl) mD FD.kp bD .nil pass0 (@pa_cons _ _ _ _ _ (pv 0) (@pa_cons _ _ _ _ _ pe_int pa_nil (by rfl)) (by rfl))) rfl (Or.inl rfl)) (@pss_cons _ _ _ _ _ (@ps_if _ _ _ _ _ _ _ _ (@pt_cmpR _ _ _ _ _ _ _ _ op_eq (pv 4) pe_int (nomark _)) (@pss_one _ _ _ (@ps_ret _ _ _ _ (@pe_tup _ _ _ _ _ (@pa_cons _ _ _ _ _ pe_str pa_nil (by rfl))))) pss_nil) (@pss_cons _ _ _ _ _ (@ps_if _ _ _ _ _ _ _ _ (@pt_cut _ _ _ ((@pw_or _ _ _ _ _ _ _ (@pt_cmpR _ _ _ _ _ _ _ _ op_lt (pv 4) pe_int (nomark _)) (pw_or1 (@pt_cmpR _ _ _ _ _ _ _ _ op_eq (pv 3) pe_int (nomark _))))).pt) (@pss_cons _ _ _ _ _ (@ps_set _ _ 5 _ _ _ _ scSay.nd rfl (Or.inl rfl) (@pe_ix _ _ _ _ _ _ (rIxL K) ix_list (@pe_lst _ _ _ _ (@pa_strs _ _ ["<", "<=", "=", "!="] rfl)) (pe_call GD hrD (by rfl) mD FD.kp bD .nil pass0 (@pa_cons _ _ _ _ _ (pv 0) (@pa_cons _ _ _ _ _ pe_int pa_nil (by rfl)) (by rfl))) (fun _ _ => rfl)) rfl (Or.inl rfl)) (@pss_cons _ _ _ _ _ (@ps_set _ _ 6 _ _ _ _ scSay.nd rfl (Or.inl rfl) (pe_call GS hrS (by rfl) mS FS.kp bS .nil pass0 (@pa_cons _ _ _ _ _ (pv 0) (@pa_cons _ _ _ _ _ (pv 1) (@pa_cons _ _ _ _ _ (pv 2) (@pa_cons _ _ _ _ _ pe_int pa_nil (by rfl)) (by rfl)) (by rfl)) (by rfl))) rfl (Or.inl rfl)) (@pss_one _ _ _ (@ps_ret _ _ _ _ (@pe_tup _ _ _ _ _ (@pa_cons _ _ _ _ _ (pv 5) (@pa_cons _ _ _ _ _ (pv 6) (@pa_cons _ _ _ _ _ (pe_call GS hrS (by rfl) mS FS.kp bS .nil pass0 (@pa_cons _ _ _ _ _ (pv 0) (@pa_cons _ _ _ _ _ (pv 1) (@pa_cons _ _ _ _ _ (pv 2) (@pa_cons _ _ _ _ _ pe_int pa_nil (by rfl)) (by rfl)) (by rfl)) (by rfl))) pa_nil (by rfl)) (by rfl)) (by rfl))))))) pss_nil) (@pss_cons _ _ _ _ _ (@ps_if _ _ _ _ _ _ _ _ (@pt_cmpR _ _ _ _ _ _ _ _ op_eq (pv 4) pe_int (nomark _)) (@pss_one _ _ _ (@ps_ret _ _ _ _ (@pe_tup _ _ _ _ _ (@pa_cons _ _ _ _ _ pe_str (@pa_cons _ _ _ _ _ (pe_call GY hr (by rfl) mY F.kp bY .nil pass0 (@pa_cons _ _ _ _ _ (pv 0) (@pa_cons _ _ _ _ _ (pv 1) (@pa_cons _ _ _ _ _ (pv 2) (@pa_cons _ _ _ _ _ (@pe_op _ _ _ _ _ _ _ _ op_sub (pv 3) pe_int) pa_nil (by rfl)) (by rfl)) (by rfl)) (by rfl))) pa_nil (by rfl)) (by rfl))))) pss_nil) (@pss_cons _ _ _ _ _ (@ps_set _ _ 7 _ _ _ _ scSay.nd rfl (Or.inl rfl) (@pe_ix _ _ _ _ _ _ (rIxL K) ix_list (@pe_lst _ _ _ _ (@pa_cons _ _ _ _ _ pe_str (@pa_cons _ _ _ _ _ pe_str pa_nil (by rfl)) (by rfl))) (pe_call GD hrD (by rfl) mD FD.kp bD .nil pass0 (@pa_cons _ _ _ _ _ (pv 0) (@pa_cons _ _ _ _ _ pe_int pa_nil (by rfl)) (by rfl))) (fun _ _ => rfl)) rfl (Or.inl rfl)) (@pss_cons _ _ _ _ _ (@ps_set _ _ 6 _ _ _ _ scSay.nd rfl (Or.inl rfl) (pe_call GY hr (by rfl) mY F.kp bY .nil pass0 (@pa_cons _ _ _ _ _ (pv 0) (@pa_cons _ _ _ _ _ (pv 1) (@pa_cons _ _ _ _ _ (pv 2) (@pa_cons _ _ _ _ _ (@pe_op _ _ _ _ _ _ _ _ op_sub (pv 3) pe_int) pa_nil (by rfl)) (by rfl)) (by rfl)) (by rfl))) rfl (Or.inl rfl)) (@pss_one _ _ _ (@ps_ret _ _ _ _ (@pe_tup _ _ _ _ _ (@pa_cons _ _ _ _ _ (pv 7) (@pa_cons _ _ _ _ _ (pv 6) (@pa_cons _ _ _ _ _ (pe_call GY hr (by rfl) mY F.kp bY .nil pass0 (@pa_cons _ _ _ _ _ (pv 0) (@pa_cons _ _ _ _ _ (pv 1) (@pa_cons _ _ _ _ _ (pv 2) (@pa_cons _ _ _ _ _ (@pe_op _ _ _ _ _ _ _ _ op_sub (pv 3) pe_int) pa_nil (by rfl)) (by rfl)) (by rfl)) (by rfl))) pa_nil (by rfl)) (by rfl)) (by rfl))))))))))), ?_⟩
    obtain ⟨s0, hs⟩ := S.st
    refine ⟨_, rfl, a, s0, s1, 8, rfl, hs, by decide, by decide, fun kd z0 k0 k1 => ?_⟩
    have S1 := S.put z0
    have b1 := Sb.upd a H (.lst [.int z0, .int s1])
    generalize upd H a (.lst [.int z0, .int s1]) = H1 at S1 b1 ⊢
    refine ⟨_, rfl, rfl, _, rfl, ite2 (fun _ => ?_) (fun _ => ?_)⟩
    · refine ⟨by show 1 ≤ sizeLine; decide, fun p hp => ?_⟩
      have sp := same_new hp (.tup [V.str "yes"])
      exact q p _ .yes (b1.trans (.of sp)) (S1.same sp) (sy_yes (SqT.of upd_same)) trivial (Nat.zero_le _)
    refine ⟨fun c H' => H' = H1 ∧ (c = false → 0 < d), ?_, ?_⟩
    · refine ⟨_, rfl, _, _, rfl, rfl, _, rfl, ite2 (fun _ => ⟨rfl, fun z => by cases z⟩) (fun _ => ?_)⟩
      refine ⟨_, rfl, rfl, _, rfl, rfl, fun e => ?_⟩
      have e : ¬ V.int d = V.int 0 := of_decide_eq_false e
      have e : d ≠ 0 := fun z => e (by rw [z])
      omega
    rintro c H2 ⟨rfl, hc⟩
    obtain ⟨w0, hw⟩ := S1.st
    cases c with
    | true =>
      refine iteT ⟨by show 4 ≤ sizeLine; decide, fun sl hsl => ?_⟩
      have t3 := same_new hsl (.lst ([("<" : Str), "<=", "=", "!="].map V.str))
      have S3 := S1.same t3
      have b3 := b1.trans (.of t3)
      have esl : upd H2 sl (.lst ([("<" : Str), "<=", "=", "!="].map V.str)) sl = some (.lst ([("<" : Str), "<=", "=", "!="].map V.str)) := upd_same
      generalize upd H2 sl (.lst ([("<" : Str), "<=", "=", "!="].map V.str)) = H3 at t3 S3 b3 esl ⊢
      obtain ⟨x0, hx3⟩ := S3.st
      refine ⟨_, rfl, a, x0, s1, 4, rfl, hx3, by decide, by decide, fun r y1 r0 r1 => ?_⟩
      obtain ⟨g, hg⟩ := cm_at r0 r1
      have sa : sl ≠ a := ne_of esl hx3 (by intro z; cases z)
      refine ⟨sl, _, _, _, rfl, rfl, SqL.of (by rw [upd_ne sa]; exact esl), hg, ?_⟩
      have S4 := S3.put y1
      have b4 := b3.trans (Sb.upd a H3 (.lst [.int y1, .int s1]))
      generalize upd H3 a (.lst [.int y1, .int s1]) = H4 at S4 b4 ⊢
      refine ⟨_, rfl, _, rfl, _, rfl, a, b, s1, near, 1, l, rfl, S4, l8, by decide, by decide, fun p1 H6 t1 c1 S5 i1 f1 l1 e1 => ?_⟩
      have b5 := b4.trans c1
      refine ⟨_, rfl, _, rfl, _, rfl, _, rfl, _, rfl, a, b, s1, near, 1, l, rfl, S5, l8, by decide, by decide, fun p2 H7 t2 c2 S6 i2 f2 l2 e2 => ?_⟩
      have b6 := b5.trans c2
      obtain ⟨v0, hv⟩ := S5.st
      have i1' := tr_sb hv c2 i1
      refine ⟨by show 3 ≤ sizeLine; decide, fun p hp => ?_⟩
      have l1 : lv t1 ≤ 4 := l1
      have l2 : lv t2 ≤ 4 := l2
      exact q p _ (.cmp g t1 t2) (b6.trans (.of (same_new hp _))) (S6.same (same_new hp _)) (sy_cmp (SqT.of upd_same) (i1'.same (same_new hp _)) (i2.same (same_new hp _))) ⟨f1, f2, by omega, by omega⟩ (Nat.zero_le _)
    | false =>
      have hd := hc rfl
      refine iteF ⟨_, rfl, rfl, _, rfl, ite2 (fun _ => ?_) (fun _ => ?_)⟩
      · refine ⟨_, rfl, _, rfl, _, rfl, _, rfl, _, _, rfl, rfl, a, b, s1, near, d - 1, l, rfl, S1, l8, by omega, by omega, fun p1 H6 t1 c1 S5 i1 f1 e1 => ?_⟩
        refine ⟨by show 2 ≤ sizeLine; decide, fun p hp => ?_⟩
        have sp := same_new hp (.tup [V.str "not", .ref p1])
        exact q p _ (.neg t1) ((b1.trans c1).trans (.of sp)) (S5.same sp) (sy_neg (SqT.of upd_same) (i1.same sp)) f1 (by show dps t1 + 1 ≤ _; omega)
      refine ⟨by show 2 ≤ sizeLine; decide, fun sl hsl => ?_⟩
      have t3 := same_new hsl (.lst [V.str "and", V.str "or"])
      have S3 := S1.same t3
      have b3 := b1.trans (.of t3)
      have esl : upd H2 sl (.lst [V.str "and", V.str "or"]) sl = some (.lst [V.str "and", V.str "or"]) := upd_same
      generalize upd H2 sl (.lst [V.str "and", V.str "or"]) = H3 at t3 S3 b3 esl ⊢
      obtain ⟨x0, hx3⟩ := S3.st
      refine ⟨_, rfl, a, x0, s1, 2, rfl, hx3, by decide, by decide, fun r y1 r0 r1 => ?_⟩
      obtain ⟨g, hg⟩ := bn_at r0 r1
      have sa : sl ≠ a := ne_of esl hx3 (by intro z; cases z)
      refine ⟨sl, _, _, _, rfl, rfl, SqL.of (by rw [upd_ne sa]; exact esl), hg, ?_⟩
      have S4 := S3.put y1
      have b4 := b3.trans (Sb.upd a H3 (.lst [.int y1, .int s1]))
      generalize upd H3 a (.lst [.int y1, .int s1]) = H4 at S4 b4 ⊢
      refine ⟨_, rfl, _, rfl, _, rfl, _, rfl, _, _, rfl, rfl, a, b, s1, near, d - 1, l, rfl, S4, l8, by omega, by omega, fun p1 H6 t1 c1 S5 i1 f1 e1 => ?_⟩
      have b5 := b4.trans c1
      refine ⟨_, rfl, _, rfl, _, rfl, _, rfl, _, rfl, _, rfl, _, _, rfl, rfl, a, b, s1, near, d - 1, l, rfl, S5, l8, by omega, by omega, fun p2 H7 t2 c2 S6 i2 f2 e2 => ?_⟩
      have b6 := b5.trans c2
      obtain ⟨v0, hv⟩ := S5.st
      have i1' := sy_sb hv c2 i1
      refine ⟨by show 3 ≤ sizeLine; decide, fun p hp => ?_⟩
      exact q p _ (.bin g t1 t2) (b6.trans (.of (same_new hp _))) (S6.same (same_new hp _)) (sy_bin (SqT.of upd_same) (i1'.same (same_new hp _)) (i2.same (same_new hp _))) ⟨f1, f2⟩ (by show max (dps t1) (dps t2) + 1 ≤ _; omega)
/-! ### whether a saying holds -/
def cmB : Cm → Int → Int → Bool
  | .lt, a, b => decide (a < b)
  | .le, a, b => decide (a ≤ b)
  | .eq, a, b => decide (a = b)
  | .ne, a, b => !decide (a = b)
def bnB : Bn → Bool → Bool → Bool
  | .and, a, b => a && b
  | .or, a, b => a || b
def hol (vf : Str → Int) : Sy → Bool
  | .yes => true
  | .cmp c l r => cmB c (val vf l) (val vf r)
  | .neg s => !hol vf s
  | .bin b l r => bnB b (hol vf l) (hol vf r)
theorem dec_int (a b : Int) : decide (V.int a = V.int b) = decide (a = b) := by
  by_cases h : a = b
  · rw [h, decide_eq_true rfl, decide_eq_true rfl]
  · rw [decide_eq_false h, decide_eq_false fun z => h (V.int.inj z)]
def pickC : Cm → V → V → V → V → V
  | .lt, x, _, _, _ => x
  | .le, _, y, _, _ => y
  | .eq, _, _, z, _ => z
  | .ne, _, _, _, u => u
theorem merge4 (g : Cm) (x y z u : V) : valV (mergeK [] [((Sum.inr "<" : Key), x), ((Sum.inr "<=" : Key), y), ((Sum.inr "=" : Key), z), ((Sum.inr "!=" : Key), u)]) (Sum.inr (cmS g) : Key) = some (pickC g x y z u) := by
  show valV (putK (putK (putK (putK [] (Sum.inr "<" : Key) x) (Sum.inr "<=" : Key) y) (Sum.inr "=" : Key) z) (Sum.inr "!=" : Key) u) _ = _
  rw [valV_put, valV_put, valV_put, valV_put]
  cases g with
  | lt => rw [if_neg (by decide +kernel), if_neg (by decide +kernel), if_neg (by decide +kernel), if_pos (by decide +kernel)]; rfl
  | le => rw [if_neg (by decide +kernel), if_neg (by decide +kernel), if_pos (by decide +kernel)]; rfl
  | eq => rw [if_neg (by decide +kernel), if_pos (by decide +kernel)]; rfl
  | ne => rw [if_pos (by decide +kernel)]; rfl
theorem pick_hol (vf : Str → Int) (g : Cm) (a b : Tr) : pickC g (.bl (decide (val vf a < val vf b))) (.bl (decide (val vf a ≤ val vf b))) (.bl (decide (V.int (val vf a) = V.int (val vf b)))) (.bl (!decide (V.int (val vf a) = V.int (val vf b)))) = .bl (hol vf (.cmp g a b)) := by
  rw [dec_int]
  cases g <;> rfl
def spHolds (K : PySem.W.Frag) (n : Nat) : Sp := fun vs H Q _ => ∃ (v : V) (d : Addr) (t : Sy) (kvs : List (Key × V)) (l : List Str) (vf : Str → Int), vs = [v, .ref d] ∧ Is K H (syD t) v ∧ H d = some (.dK kvs) ∧ ValsOk kvs l vf ∧ FitsS l t ∧ dps t < n ∧ ∀ H', Same H H' → Q (.bl (hol vf t)) H'
theorem scHolds : FnScope ["_law_one", "_law_values_here", "_law_here", "_law_there"] ["_law_one", "_law_values_here"] (defScope sHolds) := ⟨rfl, rfl, rfl, by decide +kernel, rfl, by decide +kernel, by decide +kernel⟩
theorem ok_holds {f fW : Addr} {fd fdW : FuncData} (B : Bl mg) (F : Fun K "_law_holds" "_law_holds" sHolds f fd) (bH : Binds K fd ["_law_one", "_law_values_here"] []) (mH : mg "_law_holds" = some (.ref f))
    (FW : Fun K "_law_worth" "_law_worth" sWorth fW fdW) (bW : Binds K fdW ["_law_one", "_law_values_here"] []) (mW : mg "_law_worth" = some (.ref fW)) : ∀ n : Nat, FnOk P w K mg base CX0 (n + 11) f fd ["_law_one", "_law_values_here"] (spHolds K n)
  | 0 => fn_none fun vs H Q E h => by obtain ⟨v, d, t, kvs, l, vf, _, _, _, _, _, h1, _⟩ := h; omega
  | n + 1 => by
    have GW : FnOk P w K mg base CX0 10 fW fdW ["_law_one", "_law_values_here"] (spWorth K 9) := ok_worth B FW bW mW 9
    have GH := ok_holds B F bH mH FW bW mW n
    refine F.ok scHolds (fun vs H Q E h => ?_) (fun cdv A outer s H vs Q E hr h => ?_)
    · obtain ⟨v, d, t, kvs, l, vf, rfl, _⟩ := h
      rfl
    obtain ⟨v, d, t, kvs, l, vf, rfl, it, hd, O, ft, hn, q⟩ := h
    have hrW := hr.mono (show 10 ≤ n + 11 by omega)
    have hu1 := hu1_of hr
    refine ⟨_, (@pss_cons _ _ _ _ _ (@ps_if _ _ _ _ _ _ _ _ (@pt_cmpR _ _ _ _ _ _ _ _ op_eq (@pe_ix _ _ _ _ _ _ (rIxT K) ix_tup (pv 0) pe_int (fun _ _ => rfl)) pe_str (nomark _)) (@pss_one _ _ _ (@ps_ret _ _ _ _ pe_bl)) pss_nil) (@pss_cons _ _ _ _ _ (@ps_if _ _ _ _ _ _ _ _ (@pt_cmpR _ _ _ _ _ _ _ _ op_eq (@pe_ix _ _ _ _ _ _ (rIxT K) ix_tup (pv 0) pe_int (fun _ _ => rfl)) pe_str (nomark _)) (@pss_one _ _ _ (@ps_ret _ _ _ _ (@pe_not _ _ _ _ (pe_call GH hr (by rfl) mH F.kp bH .nil pass0 (@pa_cons _ _ _ _ _ (@pe_ix _ _ _ _ _ _ (rIxT K) ix_tup (pv 0) pe_int (fun _ _ => rfl)) (@pa_cons _ _ _ _ _ (pv 1) pa_nil (by rfl)) (by rfl)))))) pss_nil) (@pss_cons _ _ _ _ _ (@ps_if _ _ _ _ _ _ _ _ (@pt_cmpR _ _ _ _ _ _ _ _ op_eq (@pe_ix _ _ _ _ _ _ (rIxT K) ix_tup (pv 0) pe_int (fun _ _ => rfl)) pe_str (nomark _)) (@pss_one _ _ _ (@ps_ret _ _ _ _ (@pe_and _ _ _ _ _ _ _ (pe_call GH hr (by rfl) mH F.kp bH .nil pass0 (@pa_cons _ _ _ _ _ (@pe_ix _ _ _ _ _ _ (rIxT K) ix_tup (pv 0) pe_int (fun _ _ => rfl)) (@pa_cons _ _ _ _ _ (pv 1) pa_nil (by rfl)) (by rfl))) (@pe_one _ _ _ _ _ (pe_call GH hr (by rfl) mH F.kp bH .nil pass0 (@pa_cons _ _ _ _ _ (@pe_ix _ _ _ _ _ _ (rIxT K) ix_tup (pv 0) pe_int (fun _ _ => rfl)) (@pa_cons _ _ _ _ _ (pv 1) pa_nil (by rfl)) (by rfl))))))) pss_nil) (@pss_cons _ _ _ _ _ (@ps_if _ _ _ _ _ _ _ _ (@pt_cmpR _ _ _ _ _ _ _ _ op_eq (@pe_ix _ _ _ _ _ _ (rIxT K) ix_tup (pv 0) pe_int (fun _ _ => rfl)) pe_str (nomark _)) (@pss_one _ _ _ (@ps_ret _ _ _ _ (@pe_or _ _ _ _ _ _ _ (pe_call GH hr (by rfl) mH F.kp bH .nil pass0 (@pa_cons _ _ _ _ _ (@pe_ix _ _ _ _ _ _ (rIxT K) ix_tup (pv 0) pe_int (fun _ _ => rfl)) (@pa_cons _ _ _ _ _ (pv 1) pa_nil (by rfl)) (by rfl))) (@pe_one _ _ _ _ _ (pe_call GH hr (by rfl) mH F.kp bH .nil pass0 (@pa_cons _ _ _ _ _ (@pe_ix _ _ _ _ _ _ (rIxT K) ix_tup (pv 0) pe_int (fun _ _ => rfl)) (@pa_cons _ _ _ _ _ (pv 1) pa_nil (by rfl)) (by rfl))))))) pss_nil) (@pss_cons _ _ _ _ _ (@ps_set _ _ 2 _ _ _ _ scHolds.nd rfl (Or.inl rfl) (pe_call GW hrW (by rfl) mW FW.kp bW .nil pass0 (@pa_cons _ _ _ _ _ (@pe_ix _ _ _ _ _ _ (rIxT K) ix_tup (pv 0) pe_int (fun _ _ => rfl)) (@pa_cons _ _ _ _ _ (pv 1) pa_nil (by rfl)) (by rfl))) rfl (Or.inl rfl)) (@pss_cons _ _ _ _ _ (@ps_set _ _ 3 _ _ _ _ scHolds.nd rfl (Or.inl rfl) (pe_call GW hrW (by rfl) mW FW.kp bW .nil pass0 (@pa_cons _ _ _ _ _ (@pe_ix _ _ _ _ _ _ (rIxT K) ix_tup (pv 0) pe_int (fun _ _ => rfl)) (@pa_cons _ _ _ _ _ (pv 1) pa_nil (by rfl)) (by rfl))) rfl (Or.inl rfl)) (@pss_one _ _ _ (@ps_ret _ _ _ _ (@pe_dget _ _ _ _ _ _ hu1 (pe_disp (pps_cons pe_str (@pe_cmpR _ _ _ _ _ _ _ _ op_lt (pv 2) (pv 3) (nomark _)) (pps_cons pe_str (@pe_cmpR _ _ _ _ _ _ _ _ op_le (pv 2) (pv 3) (nomark _)) (pps_cons pe_str (@pe_cmpR _ _ _ _ _ _ _ _ op_eq (pv 2) (pv 3) (nomark _)) (pps_cons pe_str (@pe_cmpR _ _ _ _ _ _ _ _ op_ne (pv 2) (pv 3) (nomark _)) pps_nil)))) (by rfl) (by rfl) (List.cons_ne_nil _ _) (by decide)) (@pe_ix _ _ _ _ _ _ (rIxT K) ix_tup (pv 0) pe_int (fun _ _ => rfl)) (fun _ _ => rfl)))))))))), ?_⟩
    cases t with
    | yes =>
      obtain ⟨p, rfl, ht⟩ := is_yes it
      refine ⟨_, rfl, p, _, _, _, rfl, rfl, ht, atI_nat (j := 0) rfl, rfl, _, rfl, ite2 (fun _ => ?_) (fun c => absurd (decide_eq_true rfl) c)⟩
      exact q H (Same.refl H)
    | neg t =>
      obtain ⟨p, a, rfl, ht, ia⟩ := is_neg it
      have hn : dps t + 1 < n + 1 := hn
      refine ⟨_, rfl, p, _, _, _, rfl, rfl, ht, atI_nat (j := 0) rfl, rfl, _, rfl, ite2 (fun c => absurd (of_decide_eq_true c) (by decide +kernel)) (fun _ => ?_)⟩
      refine ⟨_, rfl, p, _, _, _, rfl, rfl, ht, atI_nat (j := 0) rfl, rfl, _, rfl, ite2 (fun _ => ?_) (fun c => absurd (decide_eq_true rfl) c)⟩
      exact ⟨_, rfl, p, _, _, _, rfl, rfl, ht, atI_nat (j := 1) rfl, _, rfl, a, d, t, kvs, l, vf, rfl, ia, hd, O, ft, by omega, fun H' sm => ⟨_, rfl, q H' sm⟩⟩
    | bin g a b =>
      obtain ⟨p, va, vb, rfl, ht, ia, ib⟩ := is_bin it
      obtain ⟨fa, fb⟩ : FitsS l a ∧ FitsS l b := ft
      have hn : max (dps a) (dps b) + 1 < n + 1 := hn
      have n1 : ¬ V.str (bnS g) = V.str "yes" := by cases g <;> decide +kernel
      have n2 : ¬ V.str (bnS g) = V.str "not" := by cases g <;> decide +kernel
      refine ⟨_, rfl, p, _, _, _, rfl, rfl, ht, atI_nat (j := 0) rfl, rfl, _, rfl, ite2 (fun c => absurd (of_decide_eq_true c) n1) (fun _ => ?_)⟩
      refine ⟨_, rfl, p, _, _, _, rfl, rfl, ht, atI_nat (j := 0) rfl, rfl, _, rfl, ite2 (fun c => absurd (of_decide_eq_true c) n2) (fun _ => ?_)⟩
      have q : ∀ H', Same H H' → Q (.bl (bnB g (hol vf a) (hol vf b))) H' := q
      cases g with
      | and =>
        refine ⟨_, rfl, p, _, _, _, rfl, rfl, ht, atI_nat (j := 0) rfl, rfl, _, rfl, ite2 (fun _ => ?_) (fun c => absurd (decide_eq_true rfl) c)⟩
        refine ⟨_, rfl, p, _, _, _, rfl, rfl, ht, atI_nat (j := 1) rfl, _, rfl, va, d, a, kvs, l, vf, rfl, ia, hd, O, fa, by omega, fun H1 s1 => ⟨_, rfl, ?_⟩⟩
        cases ha' : hol vf a with
        | false =>
          rw [ha'] at q
          exact q H1 s1
        | true =>
          rw [ha'] at q
          exact ⟨_, rfl, p, _, _, _, rfl, rfl, s1.tup ht, atI_nat (j := 2) rfl, _, rfl, vb, d, b, kvs, l, vf, rfl, ib.same s1, s1 _ _ hd, O, fb, by omega, fun H2 s2 => q H2 (s1.trans s2)⟩
      | or =>
        refine ⟨_, rfl, p, _, _, _, rfl, rfl, ht, atI_nat (j := 0) rfl, rfl, _, rfl, ite2 (fun c => absurd (of_decide_eq_true c) (by decide +kernel)) (fun _ => ?_)⟩
        refine ⟨_, rfl, p, _, _, _, rfl, rfl, ht, atI_nat (j := 0) rfl, rfl, _, rfl, ite2 (fun _ => ?_) (fun c => absurd (decide_eq_true rfl) c)⟩
        refine ⟨_, rfl, p, _, _, _, rfl, rfl, ht, atI_nat (j := 1) rfl, _, rfl, va, d, a, kvs, l, vf, rfl, ia, hd, O, fa, by omega, fun H1 s1 => ⟨_, rfl, ?_⟩⟩
        cases ha' : hol vf a with
        | true =>
          rw [ha'] at q
          exact q H1 s1
        | false =>
          rw [ha'] at q
          exact ⟨_, rfl, p, _, _, _, rfl, rfl, s1.tup ht, atI_nat (j := 2) rfl, _, rfl, vb, d, b, kvs, l, vf, rfl, ib.same s1, s1 _ _ hd, O, fb, by omega, fun H2 s2 => q H2 (s1.trans s2)⟩
    | cmp g a b =>
      obtain ⟨p, va, vb, rfl, ht, ia, ib⟩ := is_cmp it
      obtain ⟨fa, fb, la, lb⟩ : Fits l a ∧ Fits l b ∧ lv a ≤ 9 ∧ lv b ≤ 9 := ft
      have da := dp_lt a
      have db := dp_lt b
      have n1 : ¬ V.str (cmS g) = V.str "yes" := by cases g <;> decide +kernel
      have n2 : ¬ V.str (cmS g) = V.str "not" := by cases g <;> decide +kernel
      have n3 : ¬ V.str (cmS g) = V.str "and" := by cases g <;> decide +kernel
      have n4 : ¬ V.str (cmS g) = V.str "or" := by cases g <;> decide +kernel
      refine ⟨_, rfl, p, _, _, _, rfl, rfl, ht, atI_nat (j := 0) rfl, rfl, _, rfl, ite2 (fun c => absurd (of_decide_eq_true c) n1) (fun _ => ?_)⟩
      refine ⟨_, rfl, p, _, _, _, rfl, rfl, ht, atI_nat (j := 0) rfl, rfl, _, rfl, ite2 (fun c => absurd (of_decide_eq_true c) n2) (fun _ => ?_)⟩
      refine ⟨_, rfl, p, _, _, _, rfl, rfl, ht, atI_nat (j := 0) rfl, rfl, _, rfl, ite2 (fun c => absurd (of_decide_eq_true c) n3) (fun _ => ?_)⟩
      refine ⟨_, rfl, p, _, _, _, rfl, rfl, ht, atI_nat (j := 0) rfl, rfl, _, rfl, ite2 (fun c => absurd (of_decide_eq_true c) n4) (fun _ => ?_)⟩
      refine ⟨_, rfl, p, _, _, _, rfl, rfl, ht, atI_nat (j := 1) rfl, _, rfl, va, d, a, kvs, l, vf, rfl, ia, hd, O, fa, by omega, by omega, fun H1 s1 => ?_⟩
      refine ⟨_, rfl, p, _, _, _, rfl, rfl, s1.tup ht, atI_nat (j := 2) rfl, _, rfl, vb, d, b, kvs, l, vf, rfl, ib.same s1, s1 _ _ hd, O, fb, by omega, by omega, fun H2 s2 => ?_⟩
      have ht := s2.tup (s1.tup ht)
      have q : ∀ H', Same H2 H' → Q (.bl (hol vf (.cmp g a b))) H' := fun H' s' => q H' (s1.trans (s2.trans s'))
      clear s1 ia ib hd
      revert ht q
      generalize H2 = H
      intro ht q
      refine fun dd hdd => ⟨_, rfl, _, rfl, _, _, rfl, rfl, _, rfl, _, rfl, _, _, rfl, rfl, _, rfl, _, rfl, rfl, _, rfl, _, rfl, rfl, upd_same, [(.inr "<", .bl (decide (val vf a < val vf b))), (.inr "<=", .bl (decide (val vf a ≤ val vf b))), (.inr "=", .bl (decide (V.int (val vf a) = V.int (val vf b)))), (.inr "!=", .bl (!decide (V.int (val vf a) = V.int (val vf b))))], rfl, by show 4 ≤ 15; decide, ?_⟩
      have sd : Same H (upd (upd H dd (.dK [])) dd (.dK (mergeK [] [(.inr "<", .bl (decide (val vf a < val vf b))), (.inr "<=", .bl (decide (val vf a ≤ val vf b))), (.inr "=", .bl (decide (V.int (val vf a) = V.int (val vf b)))), (.inr "!=", .bl (!decide (V.int (val vf a) = V.int (val vf b))))]))) := same_put (same_new hdd _) hdd _
      refine ⟨_, rfl, p, _, _, _, rfl, rfl, sd.tup ht, atI_nat (j := 0) rfl, dd, _, rfl, merge4 g _ _ _ _ ▸ DGet.k (k := .inr (cmS g)) upd_same, ?_⟩
      rw [pick_hol]
      exact q _ sd
end
end Nw

set_option Elab.async false
set_option linter.all false
set_option maxRecDepth 100000
set_option maxHeartbeats 4000000
namespace Nw
open PySem L2
/-! ### the classes of sayings -/
inductive Ks where
  | yes | cmp (c : Cm) | neg | bin (b : Bn)
def ks : Sy → Ks
  | .yes => .yes
  | .cmp c _ _ => .cmp c
  | .neg _ => .neg
  | .bin b _ _ => .bin b
def cyOf (CY CL CA CE CU CB CO CN : Addr) : Ks → Addr
  | .yes => CY
  | .cmp .lt => CL
  | .cmp .le => CA
  | .cmp .eq => CE
  | .cmp .ne => CU
  | .bin .and => CB
  | .bin .or => CO
  | .neg => CN
def oneF (a : V) : List (Str × V) := putF "one" a []
theorem one_at (a : V) : (oneF a).lookup ("one" : Str) = some a := by unfold oneF; rw [lookup_putF, if_pos rfl]
theorem one_h (a : V) : (oneF a).lookup ("holds" : Str) = none := by unfold oneF; rw [lookup_putF, if_neg (by decide +kernel)]; rfl
theorem two_h (a b : V) : (twoF a b).lookup ("holds" : Str) = none := by unfold twoF; rw [lookup_putF, if_neg (by decide +kernel), lookup_putF, if_neg (by decide +kernel)]; rfl
structure ClsS (K : PySem.W.Frag) (CY : Ks → Addr) : Prop where
  cl : ∀ k, Cls K (CY k)
  c1 : ∀ c, NoAttr K (CY (.cmp c)) "one"
  c2 : ∀ c, NoAttr K (CY (.cmp c)) "other"
  b1 : ∀ c, NoAttr K (CY (.bin c)) "one"
  b2 : ∀ c, NoAttr K (CY (.bin c)) "other"
  n1 : NoAttr K (CY .neg) "one"
def ObjS (CK : Kd → Addr) (CY : Ks → Addr) (H : Hp) : Sy → V → Prop
  | .yes, v => ∃ p dx, v = .ref p ∧ H p = some (.ins (CY .yes) dx [])
  | .cmp c l r, v => ∃ p dx a b, v = .ref p ∧ H p = some (.ins (CY (.cmp c)) dx (twoF a b)) ∧ Obj CK H l a ∧ Obj CK H r b
  | .neg s, v => ∃ p dx a, v = .ref p ∧ H p = some (.ins (CY .neg) dx (oneF a)) ∧ ObjS CK CY H s a
  | .bin g l r, v => ∃ p dx a b, v = .ref p ∧ H p = some (.ins (CY (.bin g)) dx (twoF a b)) ∧ ObjS CK CY H l a ∧ ObjS CK CY H r b
theorem ObjS.same {CK : Kd → Addr} {CY : Ks → Addr} {H H' : Hp} (s : Same H H') : ∀ {t : Sy} {v : V}, ObjS CK CY H t v → ObjS CK CY H' t v
  | .yes, v, h => by
    obtain ⟨p, dx, e, h⟩ := h
    exact ⟨p, dx, e, s _ _ h⟩
  | .cmp c l r, v, h => by
    obtain ⟨p, dx, a, b, e, h, h1, h2⟩ := h
    exact ⟨p, dx, a, b, e, s _ _ h, h1.same s, h2.same s⟩
  | .neg t, v, h => by
    obtain ⟨p, dx, a, e, h, h1⟩ := h
    exact ⟨p, dx, a, e, s _ _ h, h1.same s⟩
  | .bin g l r, v, h => by
    obtain ⟨p, dx, a, b, e, h, h1, h2⟩ := h
    exact ⟨p, dx, a, b, e, s _ _ h, h1.same s, h2.same s⟩
theorem ObjS.at_ {CK : Kd → Addr} {CY : Ks → Addr} {H : Hp} : ∀ {t : Sy} {v : V}, ObjS CK CY H t v → ∃ p dx fs, v = .ref p ∧ H p = some (.ins (CY (ks t)) dx fs) ∧ fs.lookup ("holds" : Str) = none
  | .yes, v, h => by
    obtain ⟨p, dx, e, h⟩ := h
    exact ⟨p, dx, _, e, h, rfl⟩
  | .cmp c l r, v, h => by
    obtain ⟨p, dx, a, b, e, h, h1, h2⟩ := h
    exact ⟨p, dx, _, e, h, two_h _ _⟩
  | .neg t, v, h => by
    obtain ⟨p, dx, a, e, h, h1⟩ := h
    exact ⟨p, dx, _, e, h, one_h _⟩
  | .bin g l r, v, h => by
    obtain ⟨p, dx, a, b, e, h, h1, h2⟩ := h
    exact ⟨p, dx, _, e, h, two_h _ _⟩
section
variable {P : Program} {w : World} {K : PySem.W.Frag} {mg : Str → Option Value} {base : Heap} {CK : Kd → Addr} {CY : Ks → Addr}
def spH (CK : Kd → Addr) (CY : Ks → Addr) (n : Nat) (k : Ks) : Sp := fun vs H Q _ => ∃ (v : V) (d : Addr) (t : Sy) (kvs : List (Key × V)) (l : List Str) (vf : Str → Int), vs = [v, .ref d] ∧ ks t = k ∧ ObjS CK CY H t v ∧ H d = some (.dK kvs) ∧ ValsOk kvs l vf ∧ FitsS l t ∧ dps t < n ∧ Q (.bl (hol vf t)) H
theorem spH_none (k : Ks) : ∀ vs H Q E, ¬ spH CK CY 0 k vs H Q E := fun vs H Q E h => by
  obtain ⟨v, d, t, kvs, l, vf, _, _, _, _, _, _, h1, _⟩ := h
  omega
def spSayH : Sp := fun vs H Q _ => ∃ (x : Addr) (v : V), vs = [.ref x, v] ∧ Q (.bl true) H
theorem scSayH : FnScope ["self", "values"] ["self", "values"] (defScope sSayH) := ⟨rfl, rfl, rfl, by decide +kernel, rfl, by decide +kernel, by decide +kernel⟩
theorem ok_sayH {f : Addr} {fd : FuncData} (F : Fun K "holds" "Saying.holds" sSayH f fd) : FnOk P w K mg base CX0 1 f fd ["self", "values"] spSayH := by
  refine F.ok scSayH (fun vs H Q E h => ?_) (fun cdv A outer s H vs Q E hr h => ?_)
  · obtain ⟨x, v, rfl, _⟩ := h
    rfl
  obtain ⟨x, v, rfl, k⟩ := h
  exact ⟨_, (@pss_one _ _ _ (@ps_ret _ _ _ _ pe_bl)), k⟩
theorem ok_yesH {f : Addr} {fd : FuncData} (F : Fun K "holds" "Saying.holds" sSayH f fd) (n : Nat) : FnOk P w K mg base CX0 1 f fd ["self", "values"] (spH CK CY n .yes) := (ok_sayH F).imp fun vs H Q E h => by
  obtain ⟨v, d, t, kvs, l, vf, rfl, kt, ob, hd, O, ft, hn, q⟩ := h
  cases t with
  | yes =>
    obtain ⟨p, dx, rfl, hp⟩ := ob
    exact ⟨p, _, rfl, q⟩
  | _ => cases kt
theorem scLesH : FnScope ["self", "values"] ["self", "values"] (defScope sLesH) := ⟨rfl, rfl, rfl, by decide +kernel, rfl, by decide +kernel, by decide +kernel⟩
theorem ok_lesH {f : Addr} {fd : FuncData} (c : ClsS K CY) (F : Fun K "holds" "Less.holds" sLesH f fd) (W : ∀ k, MOk P w K mg base 10 (CK k) "worth" (spW CK 9 k)) (n : Nat) : FnOk P w K mg base CX0 11 f fd ["self", "values"] (spH CK CY n (.cmp .lt)) := by
  refine F.ok scLesH (fun vs H Q E h => ?_) (fun cdv A outer s H vs Q E hr h => ?_)
  · obtain ⟨v, d, t, kvs, l, vf, rfl, _⟩ := h
    rfl
  obtain ⟨v, d, t, kvs, l, vf, rfl, kt, ob, hd, O, ft, hn, q⟩ := h
  refine ⟨_, (@pss_one _ _ _ (@ps_ret _ _ _ _ (@pe_cmpR _ _ _ _ _ _ _ _ op_lt (pe_methP (@pe_fld _ _ _ _ _ (pv 0) rfl) hr (@pa_cons _ _ _ _ _ (pv 1) pa_nil (by rfl))) (pe_methP (@pe_fld _ _ _ _ _ (pv 0) rfl) hr (@pa_cons _ _ _ _ _ (pv 1) pa_nil (by rfl))) (nomark _)))), ?_⟩
  cases t with
  | cmp g a b =>
    cases kt
    obtain ⟨p, dx, va, vb, rfl, hp, oa, ob⟩ := ob
    obtain ⟨fa, fb, la9, lb9⟩ : Fits l a ∧ Fits l b ∧ lv a ≤ 9 ∧ lv b ≤ 9 := ft
    have da := dp_lt a
    have db := dp_lt b
    obtain ⟨pa, dxa, fsa, rfl, ha, la⟩ := oa.at_
    obtain ⟨pb, dxb, fsb, rfl, hb, lb⟩ := ob.at_
    refine ⟨_, rfl, p, _, dx, _, _, rfl, hp, c.cl _, c.c1 _, two_one _ _, pa, _, dxa, fsa, _, rfl, ha, la, W _, _, rfl, _, d, a, kvs, l, vf, rfl, rfl, oa, hd, O, fa, by omega, by omega, ?_⟩
    refine ⟨_, rfl, p, _, dx, _, _, rfl, hp, c.cl _, c.c2 _, two_oth _ _, pb, _, dxb, fsb, _, rfl, hb, lb, W _, _, rfl, _, d, b, kvs, l, vf, rfl, rfl, ob, hd, O, fb, by omega, by omega, ?_⟩
    exact ⟨_, _, rfl, rfl, q⟩
  | _ => cases kt
theorem scAtmH : FnScope ["self", "values"] ["self", "values"] (defScope sAtmH) := ⟨rfl, rfl, rfl, by decide +kernel, rfl, by decide +kernel, by decide +kernel⟩
theorem ok_atmH {f : Addr} {fd : FuncData} (c : ClsS K CY) (F : Fun K "holds" "AtMost.holds" sAtmH f fd) (W : ∀ k, MOk P w K mg base 10 (CK k) "worth" (spW CK 9 k)) (n : Nat) : FnOk P w K mg base CX0 11 f fd ["self", "values"] (spH CK CY n (.cmp .le)) := by
  refine F.ok scAtmH (fun vs H Q E h => ?_) (fun cdv A outer s H vs Q E hr h => ?_)
  · obtain ⟨v, d, t, kvs, l, vf, rfl, _⟩ := h
    rfl
  obtain ⟨v, d, t, kvs, l, vf, rfl, kt, ob, hd, O, ft, hn, q⟩ := h
  refine ⟨_, (@pss_one _ _ _ (@ps_ret _ _ _ _ (@pe_cmpR _ _ _ _ _ _ _ _ op_le (pe_methP (@pe_fld _ _ _ _ _ (pv 0) rfl) hr (@pa_cons _ _ _ _ _ (pv 1) pa_nil (by rfl))) (pe_methP (@pe_fld _ _ _ _ _ (pv 0) rfl) hr (@pa_cons _ _ _ _ _ (pv 1) pa_nil (by rfl))) (nomark _)))), ?_⟩
  cases t with
  | cmp g a b =>
    cases kt
    obtain ⟨p, dx, va, vb, rfl, hp, oa, ob⟩ := ob
    obtain ⟨fa, fb, la9, lb9⟩ : Fits l a ∧ Fits l b ∧ lv a ≤ 9 ∧ lv b ≤ 9 := ft
    have da := dp_lt a
    have db := dp_lt b
    obtain ⟨pa, dxa, fsa, rfl, ha, la⟩ := oa.at_
    obtain ⟨pb, dxb, fsb, rfl, hb, lb⟩ := ob.at_
    refine ⟨_, rfl, p, _, dx, _, _, rfl, hp, c.cl _, c.c1 _, two_one _ _, pa, _, dxa, fsa, _, rfl, ha, la, W _, _, rfl, _, d, a, kvs, l, vf, rfl, rfl, oa, hd, O, fa, by omega, by omega, ?_⟩
    refine ⟨_, rfl, p, _, dx, _, _, rfl, hp, c.cl _, c.c2 _, two_oth _ _, pb, _, dxb, fsb, _, rfl, hb, lb, W _, _, rfl, _, d, b, kvs, l, vf, rfl, rfl, ob, hd, O, fb, by omega, by omega, ?_⟩
    exact ⟨_, _, rfl, rfl, q⟩
  | _ => cases kt
theorem scEquH : FnScope ["self", "values"] ["self", "values"] (defScope sEquH) := ⟨rfl, rfl, rfl, by decide +kernel, rfl, by decide +kernel, by decide +kernel⟩
theorem ok_equH {f : Addr} {fd : FuncData} (c : ClsS K CY) (F : Fun K "holds" "Equal.holds" sEquH f fd) (W : ∀ k, MOk P w K mg base 10 (CK k) "worth" (spW CK 9 k)) (n : Nat) : FnOk P w K mg base CX0 11 f fd ["self", "values"] (spH CK CY n (.cmp .eq)) := by
  refine F.ok scEquH (fun vs H Q E h => ?_) (fun cdv A outer s H vs Q E hr h => ?_)
  · obtain ⟨v, d, t, kvs, l, vf, rfl, _⟩ := h
    rfl
  obtain ⟨v, d, t, kvs, l, vf, rfl, kt, ob, hd, O, ft, hn, q⟩ := h
  refine ⟨_, (@pss_one _ _ _ (@ps_ret _ _ _ _ (@pe_cmpR _ _ _ _ _ _ _ _ op_eq (pe_methP (@pe_fld _ _ _ _ _ (pv 0) rfl) hr (@pa_cons _ _ _ _ _ (pv 1) pa_nil (by rfl))) (pe_methP (@pe_fld _ _ _ _ _ (pv 0) rfl) hr (@pa_cons _ _ _ _ _ (pv 1) pa_nil (by rfl))) (nomark _)))), ?_⟩
  cases t with
  | cmp g a b =>
    cases kt
    obtain ⟨p, dx, va, vb, rfl, hp, oa, ob⟩ := ob
    obtain ⟨fa, fb, la9, lb9⟩ : Fits l a ∧ Fits l b ∧ lv a ≤ 9 ∧ lv b ≤ 9 := ft
    have da := dp_lt a
    have db := dp_lt b
    obtain ⟨pa, dxa, fsa, rfl, ha, la⟩ := oa.at_
    obtain ⟨pb, dxb, fsb, rfl, hb, lb⟩ := ob.at_
    refine ⟨_, rfl, p, _, dx, _, _, rfl, hp, c.cl _, c.c1 _, two_one _ _, pa, _, dxa, fsa, _, rfl, ha, la, W _, _, rfl, _, d, a, kvs, l, vf, rfl, rfl, oa, hd, O, fa, by omega, by omega, ?_⟩
    refine ⟨_, rfl, p, _, dx, _, _, rfl, hp, c.cl _, c.c2 _, two_oth _ _, pb, _, dxb, fsb, _, rfl, hb, lb, W _, _, rfl, _, d, b, kvs, l, vf, rfl, rfl, ob, hd, O, fb, by omega, by omega, ?_⟩
    have e := dec_int (val vf a) (val vf b)
    refine ⟨rfl, ?_⟩
    rw [e]
    exact q
  | _ => cases kt
theorem scUnlH : FnScope ["self", "values"] ["self", "values"] (defScope sUnlH) := ⟨rfl, rfl, rfl, by decide +kernel, rfl, by decide +kernel, by decide +kernel⟩
theorem ok_unlH {f : Addr} {fd : FuncData} (c : ClsS K CY) (F : Fun K "holds" "Unlike.holds" sUnlH f fd) (W : ∀ k, MOk P w K mg base 10 (CK k) "worth" (spW CK 9 k)) (n : Nat) : FnOk P w K mg base CX0 11 f fd ["self", "values"] (spH CK CY n (.cmp .ne)) := by
  refine F.ok scUnlH (fun vs H Q E h => ?_) (fun cdv A outer s H vs Q E hr h => ?_)
  · obtain ⟨v, d, t, kvs, l, vf, rfl, _⟩ := h
    rfl
  obtain ⟨v, d, t, kvs, l, vf, rfl, kt, ob, hd, O, ft, hn, q⟩ := h
  refine ⟨_, (@pss_one _ _ _ (@ps_ret _ _ _ _ (@pe_cmpR _ _ _ _ _ _ _ _ op_ne (pe_methP (@pe_fld _ _ _ _ _ (pv 0) rfl) hr (@pa_cons _ _ _ _ _ (pv 1) pa_nil (by rfl))) (pe_methP (@pe_fld _ _ _ _ _ (pv 0) rfl) hr (@pa_cons _ _ _ _ _ (pv 1) pa_nil (by rfl))) (nomark _)))), ?_⟩
  cases t with
  | cmp g a b =>
    cases kt
    obtain ⟨p, dx, va, vb, rfl, hp, oa, ob⟩ := ob
    obtain ⟨fa, fb, la9, lb9⟩ : Fits l a ∧ Fits l b ∧ lv a ≤ 9 ∧ lv b ≤ 9 := ft
    have da := dp_lt a
    have db := dp_lt b
    obtain ⟨pa, dxa, fsa, rfl, ha, la⟩ := oa.at_
    obtain ⟨pb, dxb, fsb, rfl, hb, lb⟩ := ob.at_
    refine ⟨_, rfl, p, _, dx, _, _, rfl, hp, c.cl _, c.c1 _, two_one _ _, pa, _, dxa, fsa, _, rfl, ha, la, W _, _, rfl, _, d, a, kvs, l, vf, rfl, rfl, oa, hd, O, fa, by omega, by omega, ?_⟩
    refine ⟨_, rfl, p, _, dx, _, _, rfl, hp, c.cl _, c.c2 _, two_oth _ _, pb, _, dxb, fsb, _, rfl, hb, lb, W _, _, rfl, _, d, b, kvs, l, vf, rfl, rfl, ob, hd, O, fb, by omega, by omega, ?_⟩
    have e := dec_int (val vf a) (val vf b)
    refine ⟨rfl, ?_⟩
    rw [e]
    exact q
  | _ => cases kt
theorem scBotH : FnScope ["self", "values"] ["self", "values"] (defScope sBotH) := ⟨rfl, rfl, rfl, by decide +kernel, rfl, by decide +kernel, by decide +kernel⟩
theorem ok_botH {f : Addr} {fd : FuncData} (c : ClsS K CY) (F : Fun K "holds" "Both.holds" sBotH f fd) (n : Nat) (W : ∀ k, MOk P w K mg base (n + 11) (CY k) "holds" (spH CK CY n k)) : FnOk P w K mg base CX0 (n + 12) f fd ["self", "values"] (spH CK CY (n + 1) (.bin .and)) := by
  refine F.ok scBotH (fun vs H Q E h => ?_) (fun cdv A outer s H vs Q E hr h => ?_)
  · obtain ⟨v, d, t, kvs, l, vf, rfl, _⟩ := h
    rfl
  obtain ⟨v, d, t, kvs, l, vf, rfl, kt, ob, hd, O, ft, hn, q⟩ := h
  refine ⟨_, (@pss_one _ _ _ (@ps_ret _ _ _ _ (@pe_and _ _ _ _ _ _ _ (pe_methP (@pe_fld _ _ _ _ _ (pv 0) rfl) hr (@pa_cons _ _ _ _ _ (pv 1) pa_nil (by rfl))) (@pe_one _ _ _ _ _ (pe_methP (@pe_fld _ _ _ _ _ (pv 0) rfl) hr (@pa_cons _ _ _ _ _ (pv 1) pa_nil (by rfl))))))), ?_⟩
  cases t with
  | bin g a b =>
    cases kt
    obtain ⟨p, dx, va, vb, rfl, hp, oa, ob⟩ := ob
    obtain ⟨fa, fb⟩ : FitsS l a ∧ FitsS l b := ft
    have hn : max (dps a) (dps b) + 1 < n + 1 := hn
    obtain ⟨pa, dxa, fsa, rfl, ha, la⟩ := oa.at_
    obtain ⟨pb, dxb, fsb, rfl, hb, lb⟩ := ob.at_
    refine ⟨_, rfl, p, _, dx, _, _, rfl, hp, c.cl _, c.b1 _, two_one _ _, pa, _, dxa, fsa, _, rfl, ha, la, W _, _, rfl, _, d, a, kvs, l, vf, rfl, rfl, oa, hd, O, fa, by omega, _, rfl, ?_⟩
    have q : Q (.bl (bnB .and (hol vf a) (hol vf b))) H := q
    cases ha' : hol vf a with
    | false =>
      rw [ha'] at q
      exact q
    | true =>
      rw [ha'] at q
      exact ⟨_, rfl, p, _, dx, _, _, rfl, hp, c.cl _, c.b2 _, two_oth _ _, pb, _, dxb, fsb, _, rfl, hb, lb, W _, _, rfl, _, d, b, kvs, l, vf, rfl, rfl, ob, hd, O, fb, by omega, q⟩
  | _ => cases kt
theorem scEitH : FnScope ["self", "values"] ["self", "values"] (defScope sEitH) := ⟨rfl, rfl, rfl, by decide +kernel, rfl, by decide +kernel, by decide +kernel⟩
theorem ok_eitH {f : Addr} {fd : FuncData} (c : ClsS K CY) (F : Fun K "holds" "Either.holds" sEitH f fd) (n : Nat) (W : ∀ k, MOk P w K mg base (n + 11) (CY k) "holds" (spH CK CY n k)) : FnOk P w K mg base CX0 (n + 12) f fd ["self", "values"] (spH CK CY (n + 1) (.bin .or)) := by
  refine F.ok scEitH (fun vs H Q E h => ?_) (fun cdv A outer s H vs Q E hr h => ?_)
  · obtain ⟨v, d, t, kvs, l, vf, rfl, _⟩ := h
    rfl
  obtain ⟨v, d, t, kvs, l, vf, rfl, kt, ob, hd, O, ft, hn, q⟩ := h
  refine ⟨_, (@pss_one _ _ _ (@ps_ret _ _ _ _ (@pe_or _ _ _ _ _ _ _ (pe_methP (@pe_fld _ _ _ _ _ (pv 0) rfl) hr (@pa_cons _ _ _ _ _ (pv 1) pa_nil (by rfl))) (@pe_one _ _ _ _ _ (pe_methP (@pe_fld _ _ _ _ _ (pv 0) rfl) hr (@pa_cons _ _ _ _ _ (pv 1) pa_nil (by rfl))))))), ?_⟩
  cases t with
  | bin g a b =>
    cases kt
    obtain ⟨p, dx, va, vb, rfl, hp, oa, ob⟩ := ob
    obtain ⟨fa, fb⟩ : FitsS l a ∧ FitsS l b := ft
    have hn : max (dps a) (dps b) + 1 < n + 1 := hn
    obtain ⟨pa, dxa, fsa, rfl, ha, la⟩ := oa.at_
    obtain ⟨pb, dxb, fsb, rfl, hb, lb⟩ := ob.at_
    refine ⟨_, rfl, p, _, dx, _, _, rfl, hp, c.cl _, c.b1 _, two_one _ _, pa, _, dxa, fsa, _, rfl, ha, la, W _, _, rfl, _, d, a, kvs, l, vf, rfl, rfl, oa, hd, O, fa, by omega, _, rfl, ?_⟩
    have q : Q (.bl (bnB .or (hol vf a) (hol vf b))) H := q
    cases ha' : hol vf a with
    | true =>
      rw [ha'] at q
      exact q
    | false =>
      rw [ha'] at q
      exact ⟨_, rfl, p, _, dx, _, _, rfl, hp, c.cl _, c.b2 _, two_oth _ _, pb, _, dxb, fsb, _, rfl, hb, lb, W _, _, rfl, _, d, b, kvs, l, vf, rfl, rfl, ob, hd, O, fb, by omega, q⟩
  | _ => cases kt
theorem scNotH : FnScope ["self", "values"] ["self", "values"] (defScope sNotH) := ⟨rfl, rfl, rfl, by decide +kernel, rfl, by decide +kernel, by decide +kernel⟩
theorem ok_notH {f : Addr} {fd : FuncData} (c : ClsS K CY) (F : Fun K "holds" "Not.holds" sNotH f fd) (n : Nat) (W : ∀ k, MOk P w K mg base (n + 11) (CY k) "holds" (spH CK CY n k)) : FnOk P w K mg base CX0 (n + 12) f fd ["self", "values"] (spH CK CY (n + 1) .neg) := by
  refine F.ok scNotH (fun vs H Q E h => ?_) (fun cdv A outer s H vs Q E hr h => ?_)
  · obtain ⟨v, d, t, kvs, l, vf, rfl, _⟩ := h
    rfl
  obtain ⟨v, d, t, kvs, l, vf, rfl, kt, ob, hd, O, ft, hn, q⟩ := h
  refine ⟨_, (@pss_one _ _ _ (@ps_ret _ _ _ _ (@pe_not _ _ _ _ (pe_methP (@pe_fld _ _ _ _ _ (pv 0) rfl) hr (@pa_cons _ _ _ _ _ (pv 1) pa_nil (by rfl)))))), ?_⟩
  cases t with
  | neg a =>
    obtain ⟨p, dx, va, rfl, hp, oa⟩ := ob
    have ft : FitsS l a := ft
    have hn : dps a + 1 < n + 1 := hn
    obtain ⟨pa, dxa, fsa, rfl, ha, la⟩ := oa.at_
    exact ⟨_, rfl, p, _, dx, _, _, rfl, hp, c.cl _, c.n1, one_at _, pa, _, dxa, fsa, _, rfl, ha, la, W _, _, rfl, _, d, a, kvs, l, vf, rfl, rfl, oa, hd, O, ft, by omega, _, rfl, q⟩
  | _ => cases kt
end
end Nw

set_option Elab.async false
set_option linter.all false
set_option maxRecDepth 100000
set_option maxHeartbeats 4000000
namespace Nw
open PySem L2
section
variable {P : Program} {w : World} {K : PySem.W.Frag} {mg : Str → Option Value} {base : Heap} {CK : Kd → Addr} {CY : Ks → Addr}
/-! ### making sayings -/
theorem scPaiI : FnScope ["self", "one", "other"] ["self", "one", "other"] (defScope sPaiI) := ⟨rfl, rfl, rfl, by decide +kernel, rfl, by decide +kernel, by decide +kernel⟩
theorem ok_paiI {f C : Addr} {fd : FuncData} (c : Cls K C) (c1 : NoAttr K C "one") (c2 : NoAttr K C "other") (F : Fun K "__init__" "Pairing.__init__" sPaiI f fd) : FnOk P w K mg base CX0 1 f fd ["self", "one", "other"] (spTwoI C) := by
  refine F.ok scPaiI (fun vs H Q E h => ?_) (fun cdv A outer s H vs Q E hr h => ?_)
  · obtain ⟨x, dx, a, b, rfl, _⟩ := h
    rfl
  obtain ⟨x, dx, a, b, rfl, hx, k⟩ := h
  refine ⟨_, (@pss_cons _ _ _ _ _ (@ps_fld _ _ _ _ _ _ _ _ (pv 0) (pv 1) rfl) (@pss_one _ _ _ (@ps_fld _ _ _ _ _ _ _ _ (pv 0) (pv 2) rfl))), ?_⟩
  refine ⟨_, rfl, _, rfl, x, _, dx, _, rfl, hx, c, c1, (by show 0 < 1000; decide), ?_⟩
  refine ⟨_, rfl, _, rfl, x, _, dx, _, rfl, upd_same, c, c2, Nat.lt_of_le_of_lt (length_putF _ _ _) (by show 1 < 1000; decide), ?_⟩
  exact k _ upd_same fun b hb => by rw [upd_ne hb, upd_ne hb]
def spNotI (C : Addr) : Sp := fun vs H Q _ => ∃ (x dx : Addr) (a : V), vs = [.ref x, a] ∧ H x = some (.ins C dx []) ∧ Q .non (upd H x (.ins C dx (oneF a)))
theorem scNotI : FnScope ["self", "one"] ["self", "one"] (defScope sNotI) := ⟨rfl, rfl, rfl, by decide +kernel, rfl, by decide +kernel, by decide +kernel⟩
theorem ok_notI {f : Addr} {fd : FuncData} (c : ClsS K CY) (F : Fun K "__init__" "Not.__init__" sNotI f fd) : FnOk P w K mg base CX0 1 f fd ["self", "one"] (spNotI (CY .neg)) := by
  refine F.ok scNotI (fun vs H Q E h => ?_) (fun cdv A outer s H vs Q E hr h => ?_)
  · obtain ⟨x, dx, a, rfl, _⟩ := h
    rfl
  obtain ⟨x, dx, a, rfl, hx, k⟩ := h
  refine ⟨_, (@pss_one _ _ _ (@ps_fld _ _ _ _ _ _ _ _ (pv 0) (pv 1) rfl)), ?_⟩
  exact ⟨_, rfl, _, rfl, x, _, dx, _, rfl, hx, c.cl _, c.n1, (by show 0 < 1000; decide), k⟩
structure MakerS (K : PySem.W.Frag) (mg : Str → Option Value) (CY : Ks → Addr) (fP fN : Addr) (dP dN : FuncData) : Prop where
  cls : ClsS K CY
  mkP : ∀ c, Mk K (CY (.cmp c)) fP
  mkB : ∀ c, Mk K (CY (.bin c)) fP
  mkN : Mk K (CY .neg) fN
  mkY : Mk0 K (CY .yes)
  gY : mg "Saying" = some (.ref (CY .yes))
  gL : mg "Less" = some (.ref (CY (.cmp .lt)))
  gA : mg "AtMost" = some (.ref (CY (.cmp .le)))
  gE : mg "Equal" = some (.ref (CY (.cmp .eq)))
  gU : mg "Unlike" = some (.ref (CY (.cmp .ne)))
  gB : mg "Both" = some (.ref (CY (.bin .and)))
  gO : mg "Either" = some (.ref (CY (.bin .or)))
  gN : mg "Not" = some (.ref (CY .neg))
  FP : Fun K "__init__" "Pairing.__init__" sPaiI fP dP
  FN : Fun K "__init__" "Not.__init__" sNotI fN dN
  bP : Binds K dP ["self", "one", "other"] []
  bN : Binds K dN ["self", "one"] []
def spTold (K : PySem.W.Frag) (CK : Kd → Addr) (CY : Ks → Addr) (n : Nat) : Sp := fun vs H Q _ => ∃ (v : V) (t : Sy) (l : List Str), vs = [v] ∧ Is K H (syD t) v ∧ FitsS l t ∧ dps t < n ∧ ∀ (p : Addr) (H' : Hp), Same H H' → ObjS CK CY H' t (.ref p) → Q (.ref p) H'
theorem scTold : FnScope ["_law_one", "_law_here", "_law_there"] ["_law_one"] (defScope sTold) := ⟨rfl, rfl, rfl, by decide +kernel, rfl, by decide +kernel, by decide +kernel⟩
theorem ok_told {f fH fN fM fT fP fO : Addr} {fd fdH dN dM dT dP dO : FuncData} (T : Maker K mg CK fN fM fT dN dM dT) (S : MakerS K mg CY fP fO dP dO) (F : Fun K "_law_saying_of" "_law_saying_of" sTold f fd) (bT : Binds K fd ["_law_one"] []) (mT : mg "_law_saying_of" = some (.ref f))
    (FH : Fun K "_law_sum_of" "_law_sum_of" sHand fH fdH) (bH : Binds K fdH ["_law_one"] []) (mH : mg "_law_sum_of" = some (.ref fH)) :
    ∀ n : Nat, FnOk P w K mg base CX0 (n + 13) f fd ["_law_one"] (spTold K CK CY n)
  | 0 => fn_none fun vs H Q E h => by obtain ⟨v, t, l, _, _, _, h1, _⟩ := h; omega
  | n + 1 => by
    have GT := ok_told T S F bT mT FH bH mH n
    have GH : FnOk P w K mg base CX0 12 fH fdH ["_law_one"] (spHand K CK 9) := ok_hand T FH bH mH 9
    have GC : ∀ c, FnOk P w K mg base CX0 1 fP dP ["self", "one", "other"] (spTwoI (CY (.cmp c))) := fun c => ok_paiI (S.cls.cl _) (S.cls.c1 c) (S.cls.c2 c) S.FP
    have GB : ∀ c, FnOk P w K mg base CX0 1 fP dP ["self", "one", "other"] (spTwoI (CY (.bin c))) := fun c => ok_paiI (S.cls.cl _) (S.cls.b1 c) (S.cls.b2 c) S.FP
    have GN : FnOk P w K mg base CX0 1 fO dO ["self", "one"] (spNotI (CY .neg)) := ok_notI S.cls S.FN
    refine F.ok scTold (fun vs H Q E h => ?_) (fun cdv A outer s H vs Q E hr h => ?_)
    · obtain ⟨v, t, l, rfl, _⟩ := h
      rfl
    obtain ⟨v, t, l, rfl, it, ft, hn, q⟩ := h
    have hr2 := hr.mono (show 1 + 1 ≤ n + 13 by omega)
    have hrH := hr.mono (show 12 ≤ n + 13 by omega)
    refine ⟨_, (@pss_cons _ _ _ _ _ (@ps_if _ _ _ _ _ _ _ _ (@pt_cmpR _ _ _ _ _ _ _ _ op_eq (@pe_ix _ _ _ _ _ _ (rIxT K) ix_tup (pv 0) pe_int (fun _ _ => rfl)) pe_str (nomark _)) (@pss_one _ _ _ (@ps_ret _ _ _ _ (pe_make00 S.mkY rfl S.gY))) pss_nil) (@pss_cons _ _ _ _ _ (@ps_if _ _ _ _ _ _ _ _ (@pt_cmpR _ _ _ _ _ _ _ _ op_eq (@pe_ix _ _ _ _ _ _ (rIxT K) ix_tup (pv 0) pe_int (fun _ _ => rfl)) pe_str (nomark _)) (@pss_one _ _ _ (@ps_ret _ _ _ _ (pe_make S.mkN GN hr2 rfl S.gN S.bN .nil pass0 (@pa_cons _ _ _ _ _ (pe_call GT hr (by rfl) mT F.kp bT .nil pass0 (@pa_cons _ _ _ _ _ (@pe_ix _ _ _ _ _ _ (rIxT K) ix_tup (pv 0) pe_int (fun _ _ => rfl)) pa_nil (by rfl))) pa_nil (by rfl))))) pss_nil) (@pss_cons _ _ _ _ _ (@ps_if _ _ _ _ _ _ _ _ (@pt_cmpR _ _ _ _ _ _ _ _ op_eq (@pe_ix _ _ _ _ _ _ (rIxT K) ix_tup (pv 0) pe_int (fun _ _ => rfl)) pe_str (nomark _)) (@pss_one _ _ _ (@ps_ret _ _ _ _ (pe_make (S.mkB .and) (GB .and) hr2 rfl S.gB S.bP .nil pass0 (@pa_cons _ _ _ _ _ (pe_call GT hr (by rfl) mT F.kp bT .nil pass0 (@pa_cons _ _ _ _ _ (@pe_ix _ _ _ _ _ _ (rIxT K) ix_tup (pv 0) pe_int (fun _ _ => rfl)) pa_nil (by rfl))) (@pa_cons _ _ _ _ _ (pe_call GT hr (by rfl) mT F.kp bT .nil pass0 (@pa_cons _ _ _ _ _ (@pe_ix _ _ _ _ _ _ (rIxT K) ix_tup (pv 0) pe_int (fun _ _ => rfl)) pa_nil (by rfl))) pa_nil (by rfl)) (by rfl))))) pss_nil) (@pss_cons _ _ _ _ _ (@ps_if _ _ _ _ _ _ _ _ (@pt_cmpR _ _ _ _ _ _ _ _ op_eq (@pe_ix _ _ _ _ _ _ (rIxT K) ix_tup (pv 0) pe_int (fun _ _ => rfl)) pe_str (nomark _)) (@pss_one _ _ _ (@ps_ret _ _ _ _ (pe_make (S.mkB .or) (GB .or) hr2 rfl S.gO S.bP .nil pass0 (@pa_cons _ _ _ _ _ (pe_call GT hr (by rfl) mT F.kp bT .nil pass0 (@pa_cons _ _ _ _ _ (@pe_ix _ _ _ _ _ _ (rIxT K) ix_tup (pv 0) pe_int (fun _ _ => rfl)) pa_nil (by rfl))) (@pa_cons _ _ _ _ _ (pe_call GT hr (by rfl) mT F.kp bT .nil pass0 (@pa_cons _ _ _ _ _ (@pe_ix _ _ _ _ _ _ (rIxT K) ix_tup (pv 0) pe_int (fun _ _ => rfl)) pa_nil (by rfl))) pa_nil (by rfl)) (by rfl))))) pss_nil) (@pss_cons _ _ _ _ _ (@ps_set _ _ 1 _ _ _ _ scTold.nd rfl (Or.inl rfl) (pe_call GH hrH (by rfl) mH FH.kp bH .nil pass0 (@pa_cons _ _ _ _ _ (@pe_ix _ _ _ _ _ _ (rIxT K) ix_tup (pv 0) pe_int (fun _ _ => rfl)) pa_nil (by rfl))) rfl (Or.inl rfl)) (@pss_cons _ _ _ _ _ (@ps_set _ _ 2 _ _ _ _ scTold.nd rfl (Or.inl rfl) (pe_call GH hrH (by rfl) mH FH.kp bH .nil pass0 (@pa_cons _ _ _ _ _ (@pe_ix _ _ _ _ _ _ (rIxT K) ix_tup (pv 0) pe_int (fun _ _ => rfl)) pa_nil (by rfl))) rfl (Or.inl rfl)) (@pss_cons _ _ _ _ _ (@ps_if _ _ _ _ _ _ _ _ (@pt_cmpR _ _ _ _ _ _ _ _ op_eq (@pe_ix _ _ _ _ _ _ (rIxT K) ix_tup (pv 0) pe_int (fun _ _ => rfl)) pe_str (nomark _)) (@pss_one _ _ _ (@ps_ret _ _ _ _ (pe_make (S.mkP .lt) (GC .lt) hr2 rfl S.gL S.bP .nil pass0 (@pa_cons _ _ _ _ _ (pv 1) (@pa_cons _ _ _ _ _ (pv 2) pa_nil (by rfl)) (by rfl))))) pss_nil) (@pss_cons _ _ _ _ _ (@ps_if _ _ _ _ _ _ _ _ (@pt_cmpR _ _ _ _ _ _ _ _ op_eq (@pe_ix _ _ _ _ _ _ (rIxT K) ix_tup (pv 0) pe_int (fun _ _ => rfl)) pe_str (nomark _)) (@pss_one _ _ _ (@ps_ret _ _ _ _ (pe_make (S.mkP .le) (GC .le) hr2 rfl S.gA S.bP .nil pass0 (@pa_cons _ _ _ _ _ (pv 1) (@pa_cons _ _ _ _ _ (pv 2) pa_nil (by rfl)) (by rfl))))) pss_nil) (@pss_cons _ _ _ _ _ (@ps_if _ _ _ _ _ _ _ _ (@pt_cmpR _ _ _ _ _ _ _ _ op_eq (@pe_ix _ _ _ _ _ _ (rIxT K) ix_tup (pv 0) pe_int (fun _ _ => rfl)) pe_str (nomark _)) (@pss_one _ _ _ (@ps_ret _ _ _ _ (pe_make (S.mkP .eq) (GC .eq) hr2 rfl S.gE S.bP .nil pass0 (@pa_cons _ _ _ _ _ (pv 1) (@pa_cons _ _ _ _ _ (pv 2) pa_nil (by rfl)) (by rfl))))) pss_nil) (@pss_one _ _ _ (@ps_ret _ _ _ _ (pe_make (S.mkP .ne) (GC .ne) hr2 rfl S.gU S.bP .nil pass0 (@pa_cons _ _ _ _ _ (pv 1) (@pa_cons _ _ _ _ _ (pv 2) pa_nil (by rfl)) (by rfl)))))))))))))), ?_⟩
    cases t with
    | yes =>
      obtain ⟨p, rfl, ht⟩ := is_yes it
      refine ⟨_, rfl, p, _, _, _, rfl, rfl, ht, atI_nat (j := 0) rfl, rfl, _, rfl, ite2 (fun _ => ?_) (fun c => absurd (decide_eq_true rfl) c)⟩
      intro x dx hx hd hxd
      exact q x _ (same_made hx hd hxd _ _) ⟨x, dx, rfl, upd_same⟩
    | neg t =>
      obtain ⟨p, a, rfl, ht, ia⟩ := is_neg it
      have hn : dps t + 1 < n + 1 := hn
      refine ⟨_, rfl, p, _, _, _, rfl, rfl, ht, atI_nat (j := 0) rfl, rfl, _, rfl, ite2 (fun c => absurd (of_decide_eq_true c) (by decide +kernel)) (fun _ => ?_)⟩
      refine ⟨_, rfl, p, _, _, _, rfl, rfl, ht, atI_nat (j := 0) rfl, rfl, _, rfl, ite2 (fun _ => ?_) (fun c => absurd (decide_eq_true rfl) c)⟩
      refine ⟨_, rfl, p, _, _, _, rfl, rfl, ht, atI_nat (j := 1) rfl, a, t, l, rfl, ia, ft, by omega, fun p1 H1 s1 o1 => ?_⟩
      intro x dx hx hd hxd
      have s2 : Same H1 (upd (upd (upd H1 dx (.own x)) x (.ins (CY .neg) dx [])) x (.ins (CY .neg) dx (oneF (.ref p1)))) := by
        intro b u e
        rw [upd_ne (ne_of_none e hx)]
        exact same_made hx hd hxd _ _ b u e
      exact ⟨x, dx, _, rfl, upd_same, rfl, q x _ (s1.trans s2) ⟨x, dx, _, rfl, upd_same, o1.same s2⟩⟩
    | bin g a b =>
      obtain ⟨p, va, vb, rfl, ht, ia, ib⟩ := is_bin it
      obtain ⟨fa, fb⟩ : FitsS l a ∧ FitsS l b := ft
      have hn : max (dps a) (dps b) + 1 < n + 1 := hn
      have n1 : ¬ V.str (bnS g) = V.str "yes" := by cases g <;> decide +kernel
      have n2 : ¬ V.str (bnS g) = V.str "not" := by cases g <;> decide +kernel
      refine ⟨_, rfl, p, _, _, _, rfl, rfl, ht, atI_nat (j := 0) rfl, rfl, _, rfl, ite2 (fun c => absurd (of_decide_eq_true c) n1) (fun _ => ?_)⟩
      refine ⟨_, rfl, p, _, _, _, rfl, rfl, ht, atI_nat (j := 0) rfl, rfl, _, rfl, ite2 (fun c => absurd (of_decide_eq_true c) n2) (fun _ => ?_)⟩
      have fin : ∀ (p1 : Addr) (H1 : Hp), Same H H1 → ObjS CK CY H1 a (.ref p1) → ∀ (p2 : Addr) (H2 : Hp), Same H1 H2 → ObjS CK CY H2 b (.ref p2) → ∀ (x dx : Addr), H2 x = none → H2 dx = none → dx ≠ x → spTwoI (CY (.bin g)) [.ref x, .ref p1, .ref p2] (upd (upd H2 dx (.own x)) x (.ins (CY (.bin g)) dx [])) (fun v H3 => v = .non ∧ Q (.ref x) H3) E0 := by
        intro p1 H1 s1 o1 p2 H2 s2 o2 x dx hx hd hxd
        refine ⟨x, dx, _, _, rfl, upd_same, fun H3 h3 h4 => ⟨rfl, ?_⟩⟩
        have s3 : Same H2 H3 := by
          intro b' u e
          rw [h4 b' (ne_of_none e hx)]
          exact same_made hx hd hxd _ _ b' u e
        exact q x H3 (s1.trans (s2.trans s3)) ⟨x, dx, _, _, rfl, h3, o1.same (s2.trans s3), o2.same s3⟩
      cases g with
      | and =>
        refine ⟨_, rfl, p, _, _, _, rfl, rfl, ht, atI_nat (j := 0) rfl, rfl, _, rfl, ite2 (fun _ => ?_) (fun c => absurd (decide_eq_true rfl) c)⟩
        refine ⟨_, rfl, p, _, _, _, rfl, rfl, ht, atI_nat (j := 1) rfl, va, a, l, rfl, ia, fa, by omega, fun p1 H1 s1 o1 => ?_⟩
        exact ⟨_, rfl, p, _, _, _, rfl, rfl, s1.tup ht, atI_nat (j := 2) rfl, vb, b, l, rfl, ib.same s1, fb, by omega, fin p1 H1 s1 o1⟩
      | or =>
        refine ⟨_, rfl, p, _, _, _, rfl, rfl, ht, atI_nat (j := 0) rfl, rfl, _, rfl, ite2 (fun c => absurd (of_decide_eq_true c) (by decide +kernel)) (fun _ => ?_)⟩
        refine ⟨_, rfl, p, _, _, _, rfl, rfl, ht, atI_nat (j := 0) rfl, rfl, _, rfl, ite2 (fun _ => ?_) (fun c => absurd (decide_eq_true rfl) c)⟩
        refine ⟨_, rfl, p, _, _, _, rfl, rfl, ht, atI_nat (j := 1) rfl, va, a, l, rfl, ia, fa, by omega, fun p1 H1 s1 o1 => ?_⟩
        exact ⟨_, rfl, p, _, _, _, rfl, rfl, s1.tup ht, atI_nat (j := 2) rfl, vb, b, l, rfl, ib.same s1, fb, by omega, fin p1 H1 s1 o1⟩
    | cmp g a b =>
      obtain ⟨p, va, vb, rfl, ht, ia, ib⟩ := is_cmp it
      obtain ⟨fa, fb, la9, lb9⟩ : Fits l a ∧ Fits l b ∧ lv a ≤ 9 ∧ lv b ≤ 9 := ft
      have da := dp_lt a
      have db := dp_lt b
      have n1 : ¬ V.str (cmS g) = V.str "yes" := by cases g <;> decide +kernel
      have n2 : ¬ V.str (cmS g) = V.str "not" := by cases g <;> decide +kernel
      have n3 : ¬ V.str (cmS g) = V.str "and" := by cases g <;> decide +kernel
      have n4 : ¬ V.str (cmS g) = V.str "or" := by cases g <;> decide +kernel
      refine ⟨_, rfl, p, _, _, _, rfl, rfl, ht, atI_nat (j := 0) rfl, rfl, _, rfl, ite2 (fun c => absurd (of_decide_eq_true c) n1) (fun _ => ?_)⟩
      refine ⟨_, rfl, p, _, _, _, rfl, rfl, ht, atI_nat (j := 0) rfl, rfl, _, rfl, ite2 (fun c => absurd (of_decide_eq_true c) n2) (fun _ => ?_)⟩
      refine ⟨_, rfl, p, _, _, _, rfl, rfl, ht, atI_nat (j := 0) rfl, rfl, _, rfl, ite2 (fun c => absurd (of_decide_eq_true c) n3) (fun _ => ?_)⟩
      refine ⟨_, rfl, p, _, _, _, rfl, rfl, ht, atI_nat (j := 0) rfl, rfl, _, rfl, ite2 (fun c => absurd (of_decide_eq_true c) n4) (fun _ => ?_)⟩
      refine ⟨_, rfl, p, _, _, _, rfl, rfl, ht, atI_nat (j := 1) rfl, va, a, rfl, ia, by omega, fun p1 H1 s1 o1 => ?_⟩
      refine ⟨_, rfl, p, _, _, _, rfl, rfl, s1.tup ht, atI_nat (j := 2) rfl, vb, b, rfl, ib.same s1, by omega, fun p2 H2 s2 o2 => ?_⟩
      have ht2 := s2.tup (s1.tup ht)
      have fin : ∀ (x dx : Addr), H2 x = none → H2 dx = none → dx ≠ x → spTwoI (CY (.cmp g)) [.ref x, .ref p1, .ref p2] (upd (upd H2 dx (.own x)) x (.ins (CY (.cmp g)) dx [])) (fun v H3 => v = .non ∧ Q (.ref x) H3) E0 := by
        intro x dx hx hd hxd
        refine ⟨x, dx, _, _, rfl, upd_same, fun H3 h3 h4 => ⟨rfl, ?_⟩⟩
        have s3 : Same H2 H3 := by
          intro b' u e
          rw [h4 b' (ne_of_none e hx)]
          exact same_made hx hd hxd _ _ b' u e
        exact q x H3 (s1.trans (s2.trans s3)) ⟨x, dx, _, _, rfl, h3, o1.same (s2.trans s3), o2.same s3⟩
      cases g with
      | lt =>
        exact ⟨_, rfl, p, _, _, _, rfl, rfl, ht2, atI_nat (j := 0) rfl, rfl, _, rfl, ite2 (fun _ => ⟨_, rfl, _, rfl, fin⟩) (fun c => absurd (decide_eq_true rfl) c)⟩
      | le =>
        refine ⟨_, rfl, p, _, _, _, rfl, rfl, ht2, atI_nat (j := 0) rfl, rfl, _, rfl, ite2 (fun c => absurd (of_decide_eq_true c) (by decide +kernel)) (fun _ => ?_)⟩
        exact ⟨_, rfl, p, _, _, _, rfl, rfl, ht2, atI_nat (j := 0) rfl, rfl, _, rfl, ite2 (fun _ => ⟨_, rfl, _, rfl, fin⟩) (fun c => absurd (decide_eq_true rfl) c)⟩
      | eq =>
        refine ⟨_, rfl, p, _, _, _, rfl, rfl, ht2, atI_nat (j := 0) rfl, rfl, _, rfl, ite2 (fun c => absurd (of_decide_eq_true c) (by decide +kernel)) (fun _ => ?_)⟩
        refine ⟨_, rfl, p, _, _, _, rfl, rfl, ht2, atI_nat (j := 0) rfl, rfl, _, rfl, ite2 (fun c => absurd (of_decide_eq_true c) (by decide +kernel)) (fun _ => ?_)⟩
        exact ⟨_, rfl, p, _, _, _, rfl, rfl, ht2, atI_nat (j := 0) rfl, rfl, _, rfl, ite2 (fun _ => ⟨_, rfl, _, rfl, fin⟩) (fun c => absurd (decide_eq_true rfl) c)⟩
      | ne =>
        refine ⟨_, rfl, p, _, _, _, rfl, rfl, ht2, atI_nat (j := 0) rfl, rfl, _, rfl, ite2 (fun c => absurd (of_decide_eq_true c) (by decide +kernel)) (fun _ => ?_)⟩
        refine ⟨_, rfl, p, _, _, _, rfl, rfl, ht2, atI_nat (j := 0) rfl, rfl, _, rfl, ite2 (fun c => absurd (of_decide_eq_true c) (by decide +kernel)) (fun _ => ?_)⟩
        refine ⟨_, rfl, p, _, _, _, rfl, rfl, ht2, atI_nat (j := 0) rfl, rfl, _, rfl, ite2 (fun c => absurd (of_decide_eq_true c) (by decide +kernel)) (fun _ => ?_)⟩
        exact ⟨_, rfl, _, rfl, fin⟩
end
end Nw

set_option Elab.async false
set_option linter.all false
set_option maxRecDepth 100000
set_option maxHeartbeats 4000000
namespace Nw
open PySem L2
/-! ### data of tuples alone -/
mutual
def tOnly : Dt → Bool
  | .lst _ => false
  | .tup l => tOnlys l
  | _ => true
def tOnlys : List Dt → Bool
  | [] => true
  | a :: l => tOnly a && tOnlys l
end
mutual
theorem is_sb {K : PySem.W.Frag} {a : Addr} {H H' : Hp} {ys : List V} (ha : H a = some (.lst ys)) (s : Sb a H H') : ∀ {D : Dt} {v : V}, tOnly D = true → Is K H D v → Is K H' D v
  | .non, v, _, h => by rw [Is] at h ⊢; exact h
  | .bl _, v, _, h => by rw [Is] at h ⊢; exact h
  | .int _, v, _, h => by rw [Is] at h ⊢; exact h
  | .str _, v, _, h => by rw [Is] at h ⊢; exact h
  | .lst l, v, t, h => by rw [tOnly] at t; cases t
  | .tup l, v, t, h => by
    rw [Is] at h ⊢
    rw [tOnly] at t
    obtain ⟨p, xs, e, h1, h2⟩ := h
    exact ⟨p, xs, e, SqT.sb h1 ha s, iss_sb ha s t h2⟩
theorem iss_sb {K : PySem.W.Frag} {a : Addr} {H H' : Hp} {ys : List V} (ha : H a = some (.lst ys)) (s : Sb a H H') : ∀ {l : List Dt} {vs : List V}, tOnlys l = true → Iss K H l vs → Iss K H' l vs
  | [], vs, _, h => by rw [Iss] at h ⊢; exact h
  | d :: l, vs, t, h => by
    rw [Iss] at h ⊢
    rw [tOnlys, Bool.and_eq_true] at t
    obtain ⟨v, r, e, h1, h2⟩ := h
    exact ⟨v, r, e, is_sb ha s t.1 h1, iss_sb ha s t.2 h2⟩
end
theorem tr_only : ∀ t : Tr, tOnly (trD t) = true
  | .num n => by simp [trD, tOnly, tOnlys]
  | .nam n => by simp [trD, tOnly, tOnlys]
  | .op g l r => by simp [trD, tOnly, tOnlys, tr_only l, tr_only r]
theorem sy_only : ∀ t : Sy, tOnly (syD t) = true
  | .yes => by simp [syD, tOnly, tOnlys]
  | .cmp g l r => by simp [syD, tOnly, tOnlys, tr_only l, tr_only r]
  | .neg s => by simp [syD, tOnly, tOnlys, sy_only s]
  | .bin g l r => by simp [syD, tOnly, tOnlys, sy_only l, sy_only r]
theorem onlys_map {α : Type} {f : α → Dt} (h : ∀ x, tOnly (f x) = true) : ∀ l : List α, tOnlys (l.map f) = true
  | [] => by rw [List.map_nil, tOnlys]
  | a :: l => by rw [List.map_cons, tOnlys, h a, onlys_map h l]; rfl
theorem app_data {K : PySem.W.Frag} {α : Type} {D : α → Dt} (ho : ∀ x, tOnly (D x) = true) {H : Hp} {pl : Addr} {ys : List V} {xs : List α} {x : α} {v : V} (hl : H pl = some (.lst ys)) (hi : Iss K H (xs.map D) ys) (hv : Is K H (D x) v) : Iss K (upd H pl (.lst (ys ++ [v]))) ((xs ++ [x]).map D) (ys ++ [v]) := by
  rw [List.map_append]
  exact Iss.snoc (is_sb hl (Sb.upd pl H _) (ho x) hv) (iss_sb hl (Sb.upd pl H _) (onlys_map ho xs) hi)
theorem same_sb {H H' : Hp} {p : Addr} (hp : H p = none) (o : HO) (sb : Sb p (upd H p o) H') : Same H H' := fun b u e => sb b u (ne_of_none e hp) (by rw [upd_ne (ne_of_none e hp)]; exact e)
theorem same_made2 {H H3 : Hp} {x dx : Addr} {o o' : HO} (hx : H x = none) (hd : H dx = none) (n : dx ≠ x) (h4 : ∀ b, b ≠ x → H3 b = upd (upd H dx o) x o' b) : Same H H3 := by
  intro b u e
  rw [h4 b (ne_of_none e hx)]
  exact same_made hx hd n _ _ b u e
theorem iss_at {K : PySem.W.Frag} {H : Hp} {α : Type} {D : α → Dt} {xs : List α} {ys : List V} (h : Iss K H (xs.map D) ys) {i : Nat} (hi : i < xs.length) : ∃ v, ys[i]? = some v ∧ Is K H (D xs[i]) v := by
  have hl := h.length
  rw [List.length_map] at hl
  have hi' : i < ys.length := by omega
  obtain ⟨d, e, h1⟩ := h.get (i := i) (List.getElem?_eq_getElem hi')
  rw [List.getElem?_map, List.getElem?_eq_getElem hi] at e
  cases e
  exact ⟨ys[i], List.getElem?_eq_getElem hi', h1⟩
theorem eq_nilD {α : Type} (D : α → Dt) (ms : List α) : dEq (.lst (ms.map D)) (.lst []) = ms.isEmpty := by
  cases ms with
  | nil => rw [List.map_nil, dEq, dEqs]; rfl
  | cons m r => rw [List.map_cons, dEq]; simp [dEqs]
/-! ### places, changes, deeds -/
structure Pl where
  n : Str
  lo : Int
  hi : Int
  st : Int
structure PlOk (p : Pl) : Prop where
  a : 0 ≤ p.lo
  b : p.lo ≤ 94
  c : p.lo ≤ p.hi
  d : p.hi ≤ p.lo + 5
  e : p.lo ≤ p.st
  f : p.st ≤ p.hi
def plD (p : Pl) : Dt := .tup [.str p.n, .int p.lo, .int p.hi, .int p.st]
theorem is_pl {K : PySem.W.Frag} {H : Hp} {p : Pl} {v : V} (h : Is K H (plD p) v) : ∃ r, v = .ref r ∧ SqT K H r [.str p.n, .int p.lo, .int p.hi, .int p.st] := by
  rw [plD, Is] at h
  obtain ⟨r, xs, e, h1, h2⟩ := h
  simp only [Iss, Is] at h2
  obtain ⟨v1, r1, rfl, rfl, v2, r2, rfl, rfl, v3, r3, rfl, rfl, v4, r4, rfl, rfl, rfl⟩ := h2
  exact ⟨r, e, h1⟩
theorem pl_is {K : PySem.W.Frag} {H : Hp} {p : Pl} {r : Addr} (h : SqT K H r [.str p.n, .int p.lo, .int p.hi, .int p.st]) : Is K H (plD p) (.ref r) := by
  rw [plD, Is]
  exact ⟨r, _, rfl, h, .cons (by rw [Is]) (.cons (by rw [Is]) (.cons (by rw [Is]) (.cons (by rw [Is]) .nil)))⟩
theorem dep_pls : ∀ ps : List Pl, deps (ps.map plD) ≤ 1
  | [] => by simp [deps]
  | p :: ps => by
    have h := dep_pls ps
    rw [List.map_cons, deps]
    have : dep (plD p) = 1 := by simp [plD, dep, deps]
    omega
theorem pl_only (p : Pl) : tOnly (plD p) = true := by simp [plD, tOnly, tOnlys]
def chD : Ch → Dt
  | .cha n => .tup [.str n]
  | .put n t => .tup [.str n, trD t]
  | .any n t u => .tup [.str n, trD t, trD u]
theorem ch_only : ∀ c : Ch, tOnly (chD c) = true
  | .cha n => by simp [chD, tOnly, tOnlys]
  | .put n t => by simp [chD, tOnly, tOnlys, tr_only t]
  | .any n t u => by simp [chD, tOnly, tOnlys, tr_only t, tr_only u]
theorem is_put {K : PySem.W.Frag} {H : Hp} {n : Str} {t : Tr} {v : V} (h : Is K H (chD (.put n t)) v) : ∃ p a, v = .ref p ∧ SqT K H p [.str n, a] ∧ Is K H (trD t) a := by
  rw [chD, Is] at h
  obtain ⟨p, xs, e, h1, h2⟩ := h
  simp only [Iss] at h2
  obtain ⟨v1, r1, rfl, i1, v2, r2, rfl, i2, rfl⟩ := h2
  rw [Is] at i1
  subst i1
  exact ⟨p, v2, e, h1, i2⟩
theorem is_any {K : PySem.W.Frag} {H : Hp} {n : Str} {t u : Tr} {v : V} (h : Is K H (chD (.any n t u)) v) : ∃ p a b, v = .ref p ∧ SqT K H p [.str n, a, b] ∧ Is K H (trD t) a ∧ Is K H (trD u) b := by
  rw [chD, Is] at h
  obtain ⟨p, xs, e, h1, h2⟩ := h
  simp only [Iss] at h2
  obtain ⟨v1, r1, rfl, i1, v2, r2, rfl, i2, v3, r3, rfl, i3, rfl⟩ := h2
  rw [Is] at i1
  subst i1
  exact ⟨p, v2, v3, e, h1, i2, i3⟩
theorem put_is {K : PySem.W.Frag} {H : Hp} {p : Addr} {n : Str} {t : Tr} {a : V} (h : SqT K H p [.str n, a]) (h1 : Is K H (trD t) a) : Is K H (chD (.put n t)) (.ref p) := by
  rw [chD, Is]
  exact ⟨p, _, rfl, h, .cons (by rw [Is]) (.cons h1 .nil)⟩
theorem any_is {K : PySem.W.Frag} {H : Hp} {p : Addr} {n : Str} {t u : Tr} {a b : V} (h : SqT K H p [.str n, a, b]) (h1 : Is K H (trD t) a) (h2 : Is K H (trD u) b) : Is K H (chD (.any n t u)) (.ref p) := by
  rw [chD, Is]
  exact ⟨p, _, rfl, h, .cons (by rw [Is]) (.cons h1 (.cons h2 .nil))⟩
structure De where
  nm : Str
  wh : Sy
  chs : List Ch
structure DeOk (l : List Str) (d : De) : Prop where
  wh : FitsS l d.wh
  dp : dps d.wh < 4
  ch : ∀ c ∈ d.chs, FitsC l 8 c ∧ kc c ≠ .cha
  ln : d.chs.length ≤ 8
def deD (d : De) : Dt := .tup [.str d.nm, syD d.wh, .tup (d.chs.map chD)]
theorem de_only (d : De) : tOnly (deD d) = true := by simp [deD, tOnly, tOnlys, sy_only d.wh, onlys_map ch_only d.chs]
theorem is_de {K : PySem.W.Frag} {H : Hp} {d : De} {v : V} (h : Is K H (deD d) v) : ∃ p a c ys, v = .ref p ∧ SqT K H p [.str d.nm, a, .ref c] ∧ Is K H (syD d.wh) a ∧ SqT K H c ys ∧ Iss K H (d.chs.map chD) ys := by
  rw [deD, Is] at h
  obtain ⟨p, xs, e, h1, h2⟩ := h
  simp only [Iss] at h2
  obtain ⟨v1, r1, rfl, i1, v2, r2, rfl, i2, v3, r3, rfl, i3, rfl⟩ := h2
  rw [Is] at i1
  rw [Is] at i3
  subst i1
  obtain ⟨c, ys, rfl, j1, j2⟩ := i3
  exact ⟨p, v2, c, ys, e, h1, i2, j1, j2⟩
theorem de_is {K : PySem.W.Frag} {H : Hp} {d : De} {p c : Addr} {a : V} {ys : List V} (h : SqT K H p [.str d.nm, a, .ref c]) (h1 : Is K H (syD d.wh) a) (h2 : SqT K H c ys) (h3 : Iss K H (d.chs.map chD) ys) : Is K H (deD d) (.ref p) := by
  rw [deD, Is]
  exact ⟨p, _, rfl, h, .cons (by rw [Is]) (.cons h1 (.cons (by rw [Is]; exact ⟨c, ys, rfl, h2, h3⟩) .nil))⟩
section
variable {P : Program} {w : World} {K : PySem.W.Frag} {mg : Str → Option Value} {base : Heap}
def spPlaces (K : PySem.W.Frag) : Sp := fun vs H Q _ => ∃ (a b : Addr) (ns : List Int) (st : Int) (l : List Str), vs = [.ref a, .int st, .ref b] ∧ SqL K H a (ns.map V.int) ∧ ns.length ≤ 63 ∧ 0 ≤ st ∧ st ≤ 100 ∧ H b = some (.lst (l.map V.str)) ∧ l.length ≤ 8 ∧
  ∀ (p : Addr) (H' : Hp) (ps : List Pl) (ys : List V), Same H H' → H p = none → H' p = some (.lst ys) → Iss K H' (ps.map plD) ys → ps.map (·.n) = l → (∀ q ∈ ps, PlOk q) → Q (.ref p) H'
theorem scPlaces : FnScope ["_law_script", "_law_start", "_law_names_here", "_law_places_here", "_law_k", "_law_state", "_law_far", "_law_wide", "_law_first", "_law_low"] ["_law_script", "_law_start", "_law_names_here"] (defScope sPlaces) := ⟨rfl, rfl, rfl, by decide +kernel, rfl, by decide +kernel, by decide +kernel⟩
theorem ok_places {f fA fB fD : Addr} {fd fdA fdB fdD : FuncData} (B : Bl mg) (F : Fun K "_law_places" "_law_places" sPlaces f fd) (FA : Fun K "_law_at" "_law_at" sAt fA fdA) (bA : Binds K fdA ["_law_script", "_law_k"] []) (mA : mg "_law_at" = some (.ref fA))
    (FB : Fun K "_law_begin" "_law_begin" sBegin fB fdB) (bB : Binds K fdB ["_law_cell"] []) (mB : mg "_law_begin" = some (.ref fB)) (FD : Fun K "_law_draw" "_law_draw" sDraw fD fdD) (bD : Binds K fdD ["_law_state", "_law_many"] []) (mD : mg "_law_draw" = some (.ref fD)) : FnOk P w K mg base CX0 2 f fd ["_law_script", "_law_start", "_law_names_here"] (spPlaces K) := by
  have GA : FnOk P w K mg base CX0 1 fA fdA ["_law_script", "_law_k"] (spAt K) := ok_at B FA
  have GB : FnOk P w K mg base CX0 1 fB fdB ["_law_cell"] spBegin := ok_begin FB
  have GD : FnOk P w K mg base CX0 1 fD fdD ["_law_state", "_law_many"] spDraw := ok_draw FD
  refine F.ok scPlaces (fun vs H Q E h => ?_) (fun cdv A outer s H vs Q E hrA h => ?_)
  · obtain ⟨a, b, ns, st, l, rfl, _⟩ := h
    rfl
  obtain ⟨a, b, ns, st, l, rfl, hS, h63, st0, st1, hb, l8, q⟩ := h
  refine ⟨_, (@pss_cons _ _ _ _ _ (@ps_set _ _ 3 _ _ _ _ scPlaces.nd rfl (Or.inl rfl) (@pe_lst _ _ _ _ pa_nil) rfl (Or.inl rfl)) (@pss_cons _ _ _ _ _ (@ps_for _ _ _ _ _ _ _ _ PassesOwn.never rfl (pi_range1 rfl B.range (@pa_cons _ _ _ _ _ (pe_callB call_len_seq (by rfl) B.len PySem.boot_len (@pa_cons _ _ _ _ _ (pv 2) pa_nil (by rfl))) pa_nil (by rfl))) (pg_name (i := 4) scPlaces.nd rfl (Or.inl rfl)) (@pss_cons _ _ _ _ _ (@ps_set _ _ 5 _ _ _ _ scPlaces.nd rfl (Or.inl rfl) (pe_call GB hrA (by rfl) mB FB.kp bB .nil pass0 (@pa_cons _ _ _ _ _ (pe_call GA hrA (by rfl) mA FA.kp bA .nil pass0 (@pa_cons _ _ _ _ _ (pv 0) (@pa_cons _ _ _ _ _ (@pe_op _ _ _ _ _ _ _ _ op_add (pv 1) (pv 4)) pa_nil (by rfl)) (by rfl))) pa_nil (by rfl))) rfl (Or.inl rfl)) (@pss_cons _ _ _ _ _ (@ps_set _ _ 6 _ _ _ _ scPlaces.nd rfl (Or.inl rfl) (pe_call GD hrA (by rfl) mD FD.kp bD .nil pass0 (@pa_cons _ _ _ _ _ (pv 5) (@pa_cons _ _ _ _ _ pe_int pa_nil (by rfl)) (by rfl))) rfl (Or.inl rfl)) (@pss_cons _ _ _ _ _ (@ps_set _ _ 7 _ _ _ _ scPlaces.nd rfl (Or.inl rfl) (pe_call GD hrA (by rfl) mD FD.kp bD .nil pass0 (@pa_cons _ _ _ _ _ (pv 5) (@pa_cons _ _ _ _ _ pe_int pa_nil (by rfl)) (by rfl))) rfl (Or.inl rfl)) (@pss_cons _ _ _ _ _ (@ps_set _ _ 8 _ _ _ _ scPlaces.nd rfl (Or.inl rfl) (pe_call GD hrA (by rfl) mD FD.kp bD .nil pass0 (@pa_cons _ _ _ _ _ (pv 5) (@pa_cons _ _ _ _ _ (@pe_op _ _ _ _ _ _ _ _ op_add (pv 7) pe_int) pa_nil (by rfl)) (by rfl))) rfl (Or.inl rfl)) (@pss_cons _ _ _ _ _ (@ps_set _ _ 9 _ _ _ _ scPlaces.nd rfl (Or.inl rfl) (@pe_op _ _ _ _ _ _ _ _ op_mul (pv 6) (pe_call GD hrA (by rfl) mD FD.kp bD .nil pass0 (@pa_cons _ _ _ _ _ (pv 5) (@pa_cons _ _ _ _ _ pe_int pa_nil (by rfl)) (by rfl)))) rfl (Or.inl rfl)) (@pss_one _ _ _ (@ps_expr _ _ _ _ (pe_bm PySem.F.plainAttrs_list PySem.F.slot_list_append PySem.F.type_list_append mt_append (pv 3) (@pa_cons _ _ _ _ _ (@pe_tup _ _ _ _ _ (@pa_cons _ _ _ _ _ (@pe_ix _ _ _ _ _ _ (rIxL K) ix_list (pv 2) (pv 4) (fun _ _ => rfl)) (@pa_cons _ _ _ _ _ (pv 9) (@pa_cons _ _ _ _ _ (@pe_op _ _ _ _ _ _ _ _ op_add (pv 9) (pv 7)) (@pa_cons _ _ _ _ _ (@pe_op _ _ _ _ _ _ _ _ op_add (pv 9) (pv 8)) pa_nil (by rfl)) (by rfl)) (by rfl)) (by rfl))) pa_nil (by rfl))) (by rfl)))))))) (by intro _; rfl)) (@pss_one _ _ _ (@ps_ret _ _ _ _ (pv 3))))), ?_⟩
  refine ⟨by decide, fun pl hpl => ?_⟩
  have s1 := same_new hpl (.lst [])
  refine ⟨_, rfl, b, _, rfl, .inl (SqL.of (s1 _ _ hb)), _, rfl, by omega, ?_, ?_⟩
  · rw [List.length_map]; omega
  refine for_range (n := (((l.map V.str).length : Nat) : Int).toNat) (fun i σ H2 => ∃ (v1 v2 v3 v4 v5 v6 : Option V) (ys : List V) (ps : List Pl), σ = [some (.ref a), some (.int st), some (.ref b), some (.ref pl), v1, v2, v3, v4, v5, v6] ∧ Same H H2 ∧ H2 pl = some (.lst ys) ∧ Iss K H2 (ps.map plD) ys ∧ ps.map (·.n) = l.take i ∧ ∀ p ∈ ps, PlOk p) ⟨none, none, none, none, none, none, [], [], rfl, s1, upd_same, .nil, rfl, fun _ h => nomatch h⟩ ?_ ?_
  · rintro i σ H2 hi ⟨v1, v2, v3, v4, v5, v6, ys, ps, rfl, g1, g2, g3, g4, g5⟩
    have hi : i < l.length := by rw [List.length_map] at hi; omega
    have lp : ps.length = i := by
      have := congrArg List.length g4
      rw [List.length_map, List.length_take] at this
      omega
    have ly : ys.length = i := by rw [g3.length, List.length_map, lp]
    refine ⟨_, rfl, _, rfl, _, rfl, _, _, rfl, rfl, a, ns, _, rfl, g1.seq hS, h63, by omega, by omega, fun r H3 s3 => ⟨r, rfl, fun sp hsp => ?_⟩⟩
    refine ⟨_, rfl, sp, _, _, 2, rfl, upd_same, by decide, by decide, fun fa z1 a0 a1 => ?_⟩
    rw [upd_upd]
    refine ⟨_, rfl, sp, _, _, 6, rfl, upd_same, by decide, by decide, fun wd z2 w0 w1 => ?_⟩
    rw [upd_upd]
    refine ⟨_, rfl, _, rfl, _, _, rfl, rfl, sp, _, _, wd + 1, rfl, upd_same, by omega, by omega, fun fi z3 f0 f1 => ?_⟩
    rw [upd_upd]
    refine ⟨_, rfl, _, rfl, sp, _, _, 95, rfl, upd_same, by decide, by decide, fun lo z4 l0 l1 => ⟨_, _, rfl, rfl, .inl ⟨by omega, by omega⟩, ?_⟩⟩
    rw [upd_upd]
    have s4 := s3.trans (same_new hsp (.lst [.int z4, .int (r % 2)]))
    generalize upd H3 sp (.lst [.int z4, .int (r % 2)]) = H4 at s4 ⊢
    have t4 := g1.trans s4
    have e4 := s4 _ _ g2
    have i4 := g3.same s4
    have hat : atI (l.map V.str) (0 + (i : Int)) = some (.str l[i]) := by
      rw [Int.zero_add]
      exact atI_nat (by rw [List.getElem?_map, List.getElem?_eq_getElem hi]; rfl)
    refine ⟨_, rfl, .inl ⟨rfl, _, SqL.of e4⟩, _, rfl, _, rfl, b, _, _, _, rfl, rfl, SqL.of (t4 _ _ hb), hat, _, rfl, _, rfl, _, rfl, _, _, rfl, rfl, _, rfl, _, rfl, _, _, rfl, rfl, by show 4 ≤ sizeLine; decide, fun n hn => ⟨pl, _, _, rfl, rfl, (same_new hn _) _ _ e4, small1000 (by omega), ?_⟩⟩
    have bl : 0 ≤ fa * lo ∧ fa * lo ≤ 94 := by
      have : fa = 0 ∨ fa = 1 := by omega
      rcases this with rfl | rfl <;> omega
    have s5 := same_new hn (.tup [V.str l[i], V.int (fa * lo), V.int (fa * lo + wd), V.int (fa * lo + fi)])
    refine ⟨_, _, _, _, _, _, _, ps ++ [⟨l[i], fa * lo, fa * lo + wd, fa * lo + fi⟩], rfl, same_put (t4.trans s5) hpl _, upd_same, ?_, ?_, ?_⟩
    · exact app_data pl_only (s5 _ _ e4) (i4.same s5) (pl_is (SqT.of upd_same))
    · rw [List.map_append, g4, List.take_add_one, List.getElem?_eq_getElem hi]
      rfl
    · intro p hp
      rcases List.mem_append.mp hp with z | z
      · exact g5 p z
      · rw [List.mem_singleton.mp z]
        exact ⟨bl.1, bl.2, by show fa * lo ≤ fa * lo + wd; omega, by show fa * lo + wd ≤ fa * lo + 5; omega, by show fa * lo ≤ fa * lo + fi; omega, by show fa * lo + fi ≤ fa * lo + wd; omega⟩
  · rintro σ H2 ⟨v1, v2, v3, v4, v5, v6, ys, ps, rfl, g1, g2, g3, g4, g5⟩
    rw [List.take_of_length_le (by rw [List.length_map]; omega)] at g4
    exact ⟨_, rfl, q pl H2 ps ys g1 hpl g2 g3 g4 g5⟩
def spChange (K : PySem.W.Frag) : Sp := fun vs H Q _ => ∃ (c : Int) (v : V) (b : Addr) (p : Pl) (l : List Str), vs = [.int c, v, .ref b] ∧ Is K H (plD p) v ∧ H b = some (.lst (l.map V.str)) ∧ l.length ≤ 8 ∧ ∀ (x : Addr) (H' : Hp) (g : Ch), Same H H' → Is K H' (chD g) (.ref x) → FitsC l 8 g → kc g ≠ .cha → chN g = p.n → Q (.ref x) H'
theorem scChange : FnScope ["_law_cell", "_law_place", "_law_names_here", "_law_state", "_law_wide", "_law_one"] ["_law_cell", "_law_place", "_law_names_here"] (defScope sChange) := ⟨rfl, rfl, rfl, by decide +kernel, rfl, by decide +kernel, by decide +kernel⟩
theorem ok_change {f fS fB fD : Addr} {fd fdS fdB fdD : FuncData} (B : Bl mg) (F : Fun K "_law_change" "_law_change" sChange f fd) (FS : Fun K "_law_sum" "_law_sum" sSum fS fdS) (bS : Binds K fdS ["_law_state", "_law_names_here", "_law_near", "_law_depth"] []) (mS : mg "_law_sum" = some (.ref fS))
    (FB : Fun K "_law_begin" "_law_begin" sBegin fB fdB) (bB : Binds K fdB ["_law_cell"] []) (mB : mg "_law_begin" = some (.ref fB)) (FD : Fun K "_law_draw" "_law_draw" sDraw fD fdD) (bD : Binds K fdD ["_law_state", "_law_many"] []) (mD : mg "_law_draw" = some (.ref fD)) : FnOk P w K mg base CX0 7 f fd ["_law_cell", "_law_place", "_law_names_here"] (spChange K) := by
  have GB : FnOk P w K mg base CX0 1 fB fdB ["_law_cell"] spBegin := ok_begin FB
  have GD : FnOk P w K mg base CX0 1 fD fdD ["_law_state", "_law_many"] spDraw := ok_draw FD
  have GS : FnOk P w K mg base CX0 6 fS fdS ["_law_state", "_law_names_here", "_law_near", "_law_depth"] (spSum K 4) := ok_sum B FS bS mS FD bD mD 4
  refine F.ok scChange (fun vs H Q E h => ?_) (fun cdv A outer s H vs Q E hrS h => ?_)
  · obtain ⟨c, v, b, p, l, rfl, _⟩ := h
    rfl
  obtain ⟨c, v, b, p, l, rfl, ip, hb, l8, q⟩ := h
  have hrA : Room 1 _ := hrS.mono (by decide)
  obtain ⟨r, rfl, hr⟩ := is_pl ip
  refine ⟨_, (@pss_cons _ _ _ _ _ (@ps_set _ _ 3 _ _ _ _ scChange.nd rfl (Or.inl rfl) (pe_call GB hrA (by rfl) mB FB.kp bB .nil pass0 (@pa_cons _ _ _ _ _ (pv 0) pa_nil (by rfl))) rfl (Or.inl rfl)) (@pss_cons _ _ _ _ _ (@ps_set _ _ 4 _ _ _ _ scChange.nd rfl (Or.inl rfl) (pe_call GD hrA (by rfl) mD FD.kp bD .nil pass0 (@pa_cons _ _ _ _ _ (pv 3) (@pa_cons _ _ _ _ _ pe_int pa_nil (by rfl)) (by rfl))) rfl (Or.inl rfl)) (@pss_cons _ _ _ _ _ (@ps_set _ _ 5 _ _ _ _ scChange.nd rfl (Or.inl rfl) (pe_call GS hrS (by rfl) mS FS.kp bS .nil pass0 (@pa_cons _ _ _ _ _ (pv 3) (@pa_cons _ _ _ _ _ (pv 2) (@pa_cons _ _ _ _ _ (@pe_ix _ _ _ _ _ _ (rIxT K) ix_tup (pv 1) pe_int (fun _ _ => rfl)) (@pa_cons _ _ _ _ _ pe_int pa_nil (by rfl)) (by rfl)) (by rfl)) (by rfl))) rfl (Or.inl rfl)) (@pss_cons _ _ _ _ _ (@ps_if _ _ _ _ _ _ _ _ (@pt_cmpR _ _ _ _ _ _ _ _ op_eq (pv 4) pe_int (nomark _)) (@pss_one _ _ _ (@ps_ret _ _ _ _ (@pe_tup _ _ _ _ _ (@pa_cons _ _ _ _ _ (@pe_ix _ _ _ _ _ _ (rIxT K) ix_tup (pv 1) pe_int (fun _ _ => rfl)) (@pa_cons _ _ _ _ _ (pv 5) (@pa_cons _ _ _ _ _ (pe_call GS hrS (by rfl) mS FS.kp bS .nil pass0 (@pa_cons _ _ _ _ _ (pv 3) (@pa_cons _ _ _ _ _ (pv 2) (@pa_cons _ _ _ _ _ (@pe_op _ _ _ _ _ _ _ _ op_add (@pe_ix _ _ _ _ _ _ (rIxT K) ix_tup (pv 1) pe_int (fun _ _ => rfl)) pe_int) (@pa_cons _ _ _ _ _ pe_int pa_nil (by rfl)) (by rfl)) (by rfl)) (by rfl))) pa_nil (by rfl)) (by rfl)) (by rfl))))) pss_nil) (@pss_one _ _ _ (@ps_ret _ _ _ _ (@pe_tup _ _ _ _ _ (@pa_cons _ _ _ _ _ (@pe_ix _ _ _ _ _ _ (rIxT K) ix_tup (pv 1) pe_int (fun _ _ => rfl)) (@pa_cons _ _ _ _ _ (pv 5) pa_nil (by rfl)) (by rfl))))))))), ?_⟩
  refine ⟨_, rfl, c, rfl, fun a ha => ?_⟩
  refine ⟨_, rfl, a, _, _, 3, rfl, upd_same, by decide, by decide, fun wd z w0 w1 => ?_⟩
  rw [upd_upd]
  have s1 := same_new ha (.lst [.int z, .int (c % 2)])
  have S1 : StAt (upd H a (.lst [.int z, .int (c % 2)])) a b (c % 2) l := ⟨⟨z, upd_same⟩, s1 _ _ hb⟩
  have b1 : Sb a (upd H a (.lst [.int z, .int (c % 2)])) (upd H a (.lst [.int z, .int (c % 2)])) := fun _ _ _ e => e
  have k1 : ∀ H', Sb a (upd H a (.lst [.int z, .int (c % 2)])) H' → Same H H' := fun H' => same_sb ha _
  generalize upd H a (.lst [.int z, .int (c % 2)]) = H1 at s1 S1 b1 k1 ⊢
  obtain ⟨z1, hz1⟩ := S1.st
  refine ⟨_, rfl, _, rfl, _, rfl, r, _, _, _, rfl, rfl, s1.tup hr, atI_nat (j := 1) rfl, a, b, _, _, 2, l, rfl, S1, l8, by decide, by decide, fun p1 H2 t c2 S2 i2 f2 l2 e2 => ?_⟩
  have hr2 := (k1 H2 c2).tup hr
  have l2 : lv t ≤ 8 := l2
  have e2 : dp t ≤ 3 := e2
  refine ⟨_, rfl, rfl, _, rfl, ite2 (fun _ => ?_) (fun _ => ?_)⟩
  · refine ⟨_, rfl, r, _, _, _, rfl, rfl, hr2, atI_nat (j := 0) rfl, _, rfl, _, rfl, _, rfl, _, rfl, r, _, _, _, rfl, rfl, hr2, atI_nat (j := 1) rfl, _, _, rfl, rfl, a, b, _, _, 1, l, rfl, S2, l8, by decide, by decide, fun p2 H3 u c3 S3 i3 f3 l3 e3 => ?_⟩
    obtain ⟨z2, hz2⟩ := S2.st
    have l3 : lv u ≤ 4 := l3
    have e3 : dp u ≤ 2 := e3
    refine ⟨by show 3 ≤ sizeLine; decide, fun x hx => ?_⟩
    have sx := same_new hx (.tup [V.str p.n, .ref p1, .ref p2])
    exact q x _ (.any p.n t u) ((k1 H3 (c2.trans c3)).trans sx) (any_is (SqT.of upd_same) ((tr_sb hz2 c3 i2).same sx) (i3.same sx)) ⟨⟨f2, by omega, by omega⟩, f3, by omega, by omega⟩ (by intro z; cases z) rfl
  · refine ⟨_, rfl, r, _, _, _, rfl, rfl, hr2, atI_nat (j := 0) rfl, _, rfl, by show 2 ≤ sizeLine; decide, fun x hx => ?_⟩
    have sx := same_new hx (.tup [V.str p.n, .ref p1])
    exact q x _ (.put p.n t) ((k1 H2 c2).trans sx) (put_is (SqT.of upd_same) (i2.same sx)) ⟨f2, by omega, by omega⟩ (by intro z; cases z) rfl
def spDeed (K : PySem.W.Frag) : Sp := fun vs H Q _ => ∃ (a b : Addr) (ns : List Int) (st : Int) (nm : Str) (ps : List Pl) (ys : List V), vs = [.ref a, .int st, .str nm, .ref b] ∧ SqL K H a (ns.map V.int) ∧ ns.length ≤ 63 ∧ 0 ≤ st ∧ st ≤ 100 ∧ H b = some (.lst ys) ∧ Iss K H (ps.map plD) ys ∧ ps.length ≤ 8 ∧
  ∀ (x : Addr) (H' : Hp) (e : De), Same H H' → Is K H' (deD e) (.ref x) → e.nm = nm → DeOk (ps.map (·.n)) e → Q (.ref x) H'
theorem scDeed : FnScope ["_law_script", "_law_start", "_law_called", "_law_places_here", "_law_names_here", "_law_near", "_law_when", "_law_state", "_law_many", "_law_first", "_law_changes", "_law_k", "_law_place"] ["_law_script", "_law_start", "_law_called", "_law_places_here"] (defScope sDeed) := ⟨rfl, rfl, rfl, by decide +kernel, rfl, by decide +kernel, by decide +kernel⟩
theorem nd_scDeed1 : (["_law_script", "_law_start", "_law_called", "_law_places_here", "_law_names_here", "_law_near", "_law_when", "_law_state", "_law_many", "_law_first", "_law_changes", "_law_k", "_law_place"] : List Str).Nodup := by decide +kernel
theorem ok_deed {f fA fS fB fD fY fC : Addr} {fd fdA fdS fdB fdD fdY fdC : FuncData} (B : Bl mg) (F : Fun K "_law_deed" "_law_deed" sDeed f fd) (FA : Fun K "_law_at" "_law_at" sAt fA fdA) (bA : Binds K fdA ["_law_script", "_law_k"] []) (mA : mg "_law_at" = some (.ref fA))
    (FS : Fun K "_law_sum" "_law_sum" sSum fS fdS) (bS : Binds K fdS ["_law_state", "_law_names_here", "_law_near", "_law_depth"] []) (mS : mg "_law_sum" = some (.ref fS))
    (FB : Fun K "_law_begin" "_law_begin" sBegin fB fdB) (bB : Binds K fdB ["_law_cell"] []) (mB : mg "_law_begin" = some (.ref fB)) (FD : Fun K "_law_draw" "_law_draw" sDraw fD fdD) (bD : Binds K fdD ["_law_state", "_law_many"] []) (mD : mg "_law_draw" = some (.ref fD))
    (FY : Fun K "_law_saying" "_law_saying" sSaying fY fdY) (bY : Binds K fdY ["_law_state", "_law_names_here", "_law_near", "_law_depth"] []) (mY : mg "_law_saying" = some (.ref fY))
    (FC : Fun K "_law_change" "_law_change" sChange fC fdC) (bC : Binds K fdC ["_law_cell", "_law_place", "_law_names_here"] []) (mC : mg "_law_change" = some (.ref fC)) : FnOk P w K mg base CX0 12 f fd ["_law_script", "_law_start", "_law_called", "_law_places_here"] (spDeed K) := by
  have GA : FnOk P w K mg base CX0 1 fA fdA ["_law_script", "_law_k"] (spAt K) := ok_at B FA
  have GB : FnOk P w K mg base CX0 1 fB fdB ["_law_cell"] spBegin := ok_begin FB
  have GD : FnOk P w K mg base CX0 1 fD fdD ["_law_state", "_law_many"] spDraw := ok_draw FD
  have GY : FnOk P w K mg base CX0 11 fY fdY ["_law_state", "_law_names_here", "_law_near", "_law_depth"] (spSay K 4) := ok_say B FY bY mY FS bS mS FD bD mD 4
  have GC : FnOk P w K mg base CX0 7 fC fdC ["_law_cell", "_law_place", "_law_names_here"] (spChange K) := ok_change B FC FS bS mS FB bB mB FD bD mD
  refine F.ok scDeed (fun vs H Q E h => ?_) (fun cdv A outer s H vs Q E hrY h => ?_)
  · obtain ⟨a, b, ns, st, nm, ps, ys, rfl, _⟩ := h
    rfl
  obtain ⟨a, b, ns, st, nm, ps, ys, rfl, hS, h63, st0, st1, hb, hp, l8, q⟩ := h
  have hrA : Room 1 _ := hrY.mono (by decide)
  have hrC : Room 7 _ := hrY.mono (by decide)
  have hu := hu60 hrY
  have ly : ys.length = ps.length := by rw [hp.length, List.length_map]
  refine ⟨_, (@pss_cons _ _ _ _ _ (ps_comp (NX := ["_law_script", "_law_start", "_law_called", "_law_places_here", "_law_names_here", "_law_near", "_law_when", "_law_state", "_law_many", "_law_first", "_law_changes", "_law_k", "_law_place"]) (N := ["_law_script", "_law_start", "_law_called", "_law_places_here", "_law_names_here", "_law_near", "_law_when", "_law_state", "_law_many", "_law_first", "_law_changes", "_law_k", "_law_place"]) (ms := [true, true, true, true, true, true, true, true, true, true, true, true, false]) (ks := [12]) (out := defScope sDeed) (by exact ⟨rfl, by decide +kernel, by decide +kernel, by decide +kernel, by decide +kernel, by decide +kernel⟩) rfl rfl rfl (i := 4) scDeed.nd rfl (Or.inl rfl) (@pi_list _ _ _ _ (pv 3)) (@sets_name 12) (by decide) (fun C ex s H => (pg_name (i := 12) nd_scDeed1 rfl (Or.inl rfl))) (fun C ex s H => pts_nil) (fun C ex s H => (@pe_ix _ _ _ _ _ _ (rIxT K) ix_tup (pv 12) pe_int (fun _ _ => rfl))) (by with_unfolding_all rfl)) (@pss_cons _ _ _ _ _ (@ps_set _ _ 5 _ _ _ _ scDeed.nd rfl (Or.inl rfl) pe_int rfl (Or.inl rfl)) (@pss_cons _ _ _ _ _ (@ps_cut _ _ _ (@ps_if _ _ _ _ _ _ _ _ (@pt_cmpR _ _ _ _ _ _ _ _ (@op_neD _ hu) (pv 3) (@pe_lst _ _ _ _ pa_nil) (nomark _)) (@pss_one _ _ _ (@ps_set _ _ 5 _ _ _ _ scDeed.nd rfl (Or.inl rfl) (@pe_ix _ _ _ _ _ _ (rIxT K) ix_tup (@pe_ix _ _ _ _ _ _ (rIxL K) ix_list (pv 3) pe_int (fun _ _ => rfl)) pe_int (fun _ _ => rfl)) rfl (Or.inl rfl))) pss_nil)) (@pss_cons _ _ _ _ _ (@ps_set _ _ 6 _ _ _ _ scDeed.nd rfl (Or.inl rfl) (pe_call GY hrY (by rfl) mY FY.kp bY .nil pass0 (@pa_cons _ _ _ _ _ (pe_call GB hrA (by rfl) mB FB.kp bB .nil pass0 (@pa_cons _ _ _ _ _ (pe_call GA hrA (by rfl) mA FA.kp bA .nil pass0 (@pa_cons _ _ _ _ _ (pv 0) (@pa_cons _ _ _ _ _ (pv 1) pa_nil (by rfl)) (by rfl))) pa_nil (by rfl))) (@pa_cons _ _ _ _ _ (pv 4) (@pa_cons _ _ _ _ _ (pv 5) (@pa_cons _ _ _ _ _ pe_int pa_nil (by rfl)) (by rfl)) (by rfl)) (by rfl))) rfl (Or.inl rfl)) (@pss_cons _ _ _ _ _ (@ps_set _ _ 7 _ _ _ _ scDeed.nd rfl (Or.inl rfl) (pe_call GB hrA (by rfl) mB FB.kp bB .nil pass0 (@pa_cons _ _ _ _ _ (pe_call GA hrA (by rfl) mA FA.kp bA .nil pass0 (@pa_cons _ _ _ _ _ (pv 0) (@pa_cons _ _ _ _ _ (@pe_op _ _ _ _ _ _ _ _ op_add (pv 1) pe_int) pa_nil (by rfl)) (by rfl))) pa_nil (by rfl))) rfl (Or.inl rfl)) (@pss_cons _ _ _ _ _ (@ps_set _ _ 8 _ _ _ _ scDeed.nd rfl (Or.inl rfl) (pe_call GD hrA (by rfl) mD FD.kp bD .nil pass0 (@pa_cons _ _ _ _ _ (pv 7) (@pa_cons _ _ _ _ _ (@pe_op _ _ _ _ _ _ _ _ op_add (pe_callB call_len_seq (by rfl) B.len PySem.boot_len (@pa_cons _ _ _ _ _ (pv 3) pa_nil (by rfl))) pe_int) pa_nil (by rfl)) (by rfl))) rfl (Or.inl rfl)) (@pss_cons _ _ _ _ _ (@ps_set _ _ 9 _ _ _ _ scDeed.nd rfl (Or.inl rfl) (pe_call GD hrA (by rfl) mD FD.kp bD .nil pass0 (@pa_cons _ _ _ _ _ (pv 7) (@pa_cons _ _ _ _ _ pe_int pa_nil (by rfl)) (by rfl))) rfl (Or.inl rfl)) (@pss_cons _ _ _ _ _ (@ps_set _ _ 10 _ _ _ _ scDeed.nd rfl (Or.inl rfl) (@pe_lst _ _ _ _ pa_nil) rfl (Or.inl rfl)) (@pss_cons _ _ _ _ _ (@ps_for _ _ _ _ _ _ _ _ PassesOwn.never rfl (pi_range1 rfl B.range (@pa_cons _ _ _ _ _ (pv 8) pa_nil (by rfl))) (pg_name (i := 11) scDeed.nd rfl (Or.inl rfl)) (@pss_cons _ _ _ _ _ (@ps_set _ _ 12 _ _ _ _ scDeed.nd rfl (Or.inl rfl) (@pe_ix _ _ _ _ _ _ (rIxL K) ix_list (pv 3) (@pe_op _ _ _ _ _ _ _ _ op_mod (@pe_op _ _ _ _ _ _ _ _ op_add (pv 9) (pv 11)) (pe_callB call_len_seq (by rfl) B.len PySem.boot_len (@pa_cons _ _ _ _ _ (pv 3) pa_nil (by rfl)))) (fun _ _ => rfl)) rfl (Or.inl rfl)) (@pss_one _ _ _ (@ps_expr _ _ _ _ (pe_bm PySem.F.plainAttrs_list PySem.F.slot_list_append PySem.F.type_list_append mt_append (pv 10) (@pa_cons _ _ _ _ _ (pe_call GC hrC (by rfl) mC FC.kp bC .nil pass0 (@pa_cons _ _ _ _ _ (pe_call GA hrA (by rfl) mA FA.kp bA .nil pass0 (@pa_cons _ _ _ _ _ (pv 0) (@pa_cons _ _ _ _ _ (@pe_op _ _ _ _ _ _ _ _ op_add (@pe_op _ _ _ _ _ _ _ _ op_add (pv 1) pe_int) (pv 11)) pa_nil (by rfl)) (by rfl))) (@pa_cons _ _ _ _ _ (pv 12) (@pa_cons _ _ _ _ _ (pv 4) pa_nil (by rfl)) (by rfl)) (by rfl))) pa_nil (by rfl))) (by rfl)))) (by intro _; rfl)) (@pss_one _ _ _ (@ps_ret _ _ _ _ (@pe_tup _ _ _ _ _ (@pa_cons _ _ _ _ _ (pv 2) (@pa_cons _ _ _ _ _ (pv 6) (@pa_cons _ _ _ _ _ (pe_callTy call_tuple_of (by rfl) B.tuple PyProof.Rows.boot_tuple (@pa_cons _ _ _ _ _ (pv 10) pa_nil (by rfl))) pa_nil (by rfl)) (by rfl)) (by rfl)))))))))))))), ?_⟩
  refine ⟨_, rfl, b, rfl, ⟨_, SqL.of hb⟩, comp_list (xs := ys) (fun i zs H' => zs = ((ps.map (·.n)).take i).map V.str ∧ H' = H) ⟨rfl, rfl⟩ (fun i zs H' _ ⟨_, e⟩ => by rw [e]; exact SqL.of hb) (fun i zs H' _ ⟨e, _⟩ => by rw [e, List.length_map]; exact small1000 (by rw [List.length_take, List.length_map]; omega)) ?_ ?_⟩
  · rintro i x zs H' hx ⟨rfl, rfl⟩
    have hi : i < ps.length := by rw [← ly]; exact (List.getElem?_eq_some_iff.mp hx).1
    obtain ⟨v, e1, iv⟩ := iss_at hp hi
    rw [hx] at e1
    cases e1
    obtain ⟨r, rfl, hr⟩ := is_pl iv
    refine ⟨_, rfl, r, _, _, _, rfl, rfl, hr, atI_nat (j := 0) rfl, ?_, rfl⟩
    rw [List.take_add_one, List.getElem?_map, List.getElem?_eq_getElem hi, List.map_append]
    rfl
  rintro zs H' ⟨rfl, rfl⟩ pn hpn
  rw [List.take_of_length_le (by rw [List.length_map]; omega)]
  have lN : (ps.map (·.n)).length ≤ 8 := by rw [List.length_map]; exact l8
  have s1 := same_new hpn (.lst ((ps.map (·.n)).map V.str))
  have e1 : upd H' pn (.lst ((ps.map (·.n)).map V.str)) pn = some (.lst ((ps.map (·.n)).map V.str)) := upd_same
  generalize upd H' pn (.lst ((ps.map (·.n)).map V.str)) = H1 at s1 e1 ⊢
  refine ⟨fun σ H2 => ∃ near : Int, σ = [some (.ref a), some (.int st), some (.str nm), some (.ref b), some (.ref pn), some (.int near), none, none, none, none, none, none, none] ∧ Same H1 H2, ?_, ?_⟩
  · refine ⟨_, rfl, Nat.zero_le _, fun z hz => ⟨.lst (ps.map plD), .lst [], ?_, ?_, rfl, rfl, ?_, _, rfl, ?_⟩⟩
    · rw [Is]
      exact ⟨b, _, rfl, SqL.of ((same_new hz _) _ _ (s1 _ _ hb)), (hp.same s1).same (same_new hz _)⟩
    · rw [Is]
      exact ⟨z, _, rfl, SqL.of upd_same, Iss.nil⟩
    · rw [dep]; have := dep_pls ps; omega
    rw [eq_nilD]
    have s2 := same_new hz (.lst [])
    cases ps with
    | nil => exact iteF ⟨0, rfl, s2⟩
    | cons p0 r0 =>
      obtain ⟨v, ev, iv⟩ := iss_at hp (i := 0) (Nat.zero_lt_succ _)
      obtain ⟨r, rfl, hr⟩ := is_pl iv
      exact iteT ⟨_, rfl, b, _, _, _, rfl, rfl, SqL.of (s2 _ _ (s1 _ _ hb)), atI_nat (j := 0) ev, r, _, _, _, rfl, rfl, (s1.trans s2).tup hr, atI_nat (j := 1) rfl, _, rfl, s2⟩
  rintro σ H2 ⟨near, rfl, s2⟩
  have t2 := s1.trans s2
  have e2 := s2 _ _ e1
  refine ⟨_, rfl, _, rfl, a, ns, st, rfl, t2.seq hS, h63, st0, by omega, fun c H3 s3 => ⟨c, rfl, fun p hp' => ?_⟩⟩
  have e3 := s3 _ _ e2
  refine ⟨_, rfl, _, rfl, p, pn, _, near, 2, _, rfl, ⟨⟨_, upd_same⟩, (same_new hp' _) _ _ e3⟩, lN, by decide, by decide, fun pw H4 wh b4 _ i4 f4 d4 => ?_⟩
  have s4 := s3.trans (same_sb hp' _ b4)
  have t4 := t2.trans s4
  have e4 := s4 _ _ e2
  have d4 : dps wh ≤ 2 := d4
  refine ⟨_, rfl, _, rfl, _, _, rfl, rfl, a, ns, _, rfl, t4.seq hS, h63, by omega, by omega, fun c2 H5 s5 => ⟨c2, rfl, fun sp hsp => ?_⟩⟩
  have t5 := t4.trans s5
  refine ⟨_, rfl, _, rfl, b, _, rfl, .inl (SqL.of ((same_new hsp _) _ _ (t5 _ _ hb))), _, _, rfl, rfl, sp, _, _, _, rfl, upd_same, by omega, by omega, fun m z1 m0 m1 => ?_⟩
  rw [upd_upd]
  refine ⟨_, rfl, sp, _, _, 3, rfl, upd_same, by decide, by decide, fun fi z2 f0 f1 => ?_⟩
  rw [upd_upd]
  have s6 := s5.trans (same_new hsp (.lst [.int z2, .int (c2 % 2)]))
  generalize upd H5 sp (.lst [.int z2, .int (c2 % 2)]) = H6 at s6 ⊢
  have t6 := t4.trans s6
  have e6 := s6 _ _ e4
  have i6 := i4.same s6
  refine ⟨by decide, fun pc hpc => ?_⟩
  have npc : H' pc = none := t6.free hpc
  have s7 := same_new hpc (.lst [])
  refine ⟨_, rfl, m, rfl, by omega, by omega, for_range (n := m.toNat) (fun i σ H8 => ∃ (v1 v2 : Option V) (us : List V) (cs : List Ch), σ = [some (.ref a), some (.int st), some (.str nm), some (.ref b), some (.ref pn), some (.int near), some (.ref pw), some (.ref sp), some (.int m), some (.int fi), some (.ref pc), v1, v2] ∧ Same H6 H8 ∧ H8 pc = some (.lst us) ∧ Iss K H8 (cs.map chD) us ∧ cs.length = i ∧ ∀ g ∈ cs, FitsC (ps.map (·.n)) 8 g ∧ kc g ≠ .cha) ⟨none, none, [], [], rfl, s7, upd_same, .nil, rfl, fun _ h => nomatch h⟩ ?_ ?_⟩
  · rintro i σ H8 hi ⟨v1, v2, us, cs, rfl, g1, g2, g3, g4, g5⟩
    have lu : us.length = i := by rw [g3.length, List.length_map, g4]
    have hpos : 0 < ps.length := by omega
    have t8 := t6.trans g1
    have b8 := t8 _ _ hb
    have r1 := Int.emod_nonneg (fi + (0 + (i : Int))) (b := (ps.length : Int)) (by omega)
    have r2 := Int.emod_lt_of_pos (fi + (0 + (i : Int))) (b := (ps.length : Int)) (by omega)
    obtain ⟨j, hj⟩ : ∃ j : Nat, (fi + (0 + (i : Int))) % (ps.length : Int) = j := ⟨((fi + (0 + (i : Int))) % (ps.length : Int)).toNat, by omega⟩
    have hj' : j < ps.length := by omega
    obtain ⟨v, ev, iv⟩ := iss_at hp hj'
    obtain ⟨r, rfl, hr⟩ := is_pl iv
    have hat : atI ys ((fi + (0 + (i : Int))) % ((ys.length : Nat) : Int)) = some (.ref r) := by
      rw [ly, hj]
      exact atI_nat ev
    refine ⟨_, rfl, _, rfl, _, rfl, _, _, rfl, rfl, _, rfl, b, _, rfl, .inl (SqL.of b8), _, _, rfl, rfl, (by show (0 : Int) < ((ys.length : Nat) : Int); omega), b, _, _, _, rfl, rfl, SqL.of b8, hat, ?_⟩
    refine ⟨_, rfl, .inl ⟨rfl, _, SqL.of g2⟩, _, rfl, _, rfl, _, _, rfl, rfl, _, rfl, _, _, rfl, rfl, a, ns, _, rfl, t8.seq hS, h63, by omega, by omega, fun cc H9 s9 => ?_⟩
    refine ⟨_, rfl, _, rfl, cc, _, pn, ps[j], _, rfl, (iv.same t8).same s9, s9 _ _ (g1 _ _ e6), lN, fun x HA g sA iA fA kA _ => ?_⟩
    have tA := s9.trans sA
    refine ⟨pc, _, _, rfl, rfl, tA _ _ g2, small1000 (by omega), ?_⟩
    refine ⟨_, _, _, cs ++ [g], rfl, same_put (g1.trans tA) hpc _, upd_same, app_data ch_only (tA _ _ g2) (g3.same tA) iA, by rw [List.length_append, g4]; rfl, ?_⟩
    intro g' hg'
    rcases List.mem_append.mp hg' with z | z
    · exact g5 g' z
    · rw [List.mem_singleton.mp z]
      exact ⟨fA, kA⟩
  · rintro σ H8 ⟨v1, v2, us, cs, rfl, g1, g2, g3, g4, g5⟩
    refine ⟨_, rfl, _, rfl, _, rfl, pc, _, rfl, .inl ⟨SqL.of g2, fun t ht => ⟨by show 3 ≤ sizeLine; decide, fun x hx => ?_⟩⟩⟩
    have sx := (same_new ht (.tup us)).trans (same_new hx (.tup [V.str nm, .ref pw, .ref t]))
    exact q x _ ⟨nm, wh, cs⟩ ((t6.trans g1).trans sx) (de_is (SqT.of upd_same) ((i6.same g1).same sx) ((same_new hx _).tup (SqT.of upd_same)) (g3.same sx)) rfl ⟨f4, by show dps wh < 4; omega, g5, by show cs.length ≤ 8; omega⟩
structure MaOk (ps : List Pl) (ds : List De) : Prop where
  pl : ∀ p ∈ ps, PlOk p
  de : ∀ d ∈ ds, DeOk (ps.map (·.n)) d
  nd : (ds.map (·.nm)).Nodup
  ln : ∃ n : Nat, n ≤ 8 ∧ ∀ d ∈ ds, d.nm.length = n
  pn : (ps.map (·.n)).Nodup
def maD (ps : List Pl) (ds : List De) : Dt := .tup [.tup (ps.map plD), .tup (ds.map deD)]
def spMachine (K : PySem.W.Frag) : Sp := fun vs H Q _ => ∃ (a : Addr) (ns : List Int) (st m k : Int), vs = [.ref a, .int st, .int m, .int k] ∧ SqL K H a (ns.map V.int) ∧ ns.length ≤ 63 ∧ 0 ≤ st ∧ st ≤ 20 ∧ 0 ≤ m ∧ m ≤ 5 ∧ 0 ≤ k ∧ k ≤ 5 ∧
  ∀ (x : Addr) (H' : Hp) (ps : List Pl) (ds : List De), Same H H' → Is K H' (maD ps ds) (.ref x) → MaOk ps ds → (ps.length : Int) = m → (ds.length : Int) = k → Q (.ref x) H'
theorem scMachine : FnScope ["_law_script", "_law_start", "_law_many_names", "_law_many_deeds", "_law_names_here", "_law_places_here", "_law_called", "_law_deeds", "_law_k"] ["_law_script", "_law_start", "_law_many_names", "_law_many_deeds"] (defScope sMachine) := ⟨rfl, rfl, rfl, by decide +kernel, rfl, by decide +kernel, by decide +kernel⟩
theorem ok_machine {f fA fN fP fE : Addr} {fd fdA fdN fdP fdE : FuncData} (B : Bl mg) (F : Fun K "_law_machine" "_law_machine" sMachine f fd) (FA : Fun K "_law_at" "_law_at" sAt fA fdA) (bA : Binds K fdA ["_law_script", "_law_k"] []) (mA : mg "_law_at" = some (.ref fA))
    (FN : Fun K "_law_names" "_law_names" sNames fN fdN) (bN : Binds K fdN ["_law_cell", "_law_many"] []) (mN : mg "_law_names" = some (.ref fN)) (GN : FnOk P w K mg base CX0 2 fN fdN ["_law_cell", "_law_many"] spNames)
    (FP : Fun K "_law_places" "_law_places" sPlaces fP fdP) (bP : Binds K fdP ["_law_script", "_law_start", "_law_names_here"] []) (mP : mg "_law_places" = some (.ref fP)) (GP : FnOk P w K mg base CX0 2 fP fdP ["_law_script", "_law_start", "_law_names_here"] (spPlaces K))
    (FE : Fun K "_law_deed" "_law_deed" sDeed fE fdE) (bE : Binds K fdE ["_law_script", "_law_start", "_law_called", "_law_places_here"] []) (mE : mg "_law_deed" = some (.ref fE)) (GE : FnOk P w K mg base CX0 12 fE fdE ["_law_script", "_law_start", "_law_called", "_law_places_here"] (spDeed K)) : FnOk P w K mg base CX0 13 f fd ["_law_script", "_law_start", "_law_many_names", "_law_many_deeds"] (spMachine K) := by
  have GA : FnOk P w K mg base CX0 1 fA fdA ["_law_script", "_law_k"] (spAt K) := ok_at B FA
  refine F.ok scMachine (fun vs H Q E h => ?_) (fun cdv A outer s H vs Q E hr h => ?_)
  · obtain ⟨a, ns, st, m, k, rfl, _⟩ := h
    rfl
  obtain ⟨a, ns, st, m, k, rfl, hS, h63, st0, st1, m0, m1, k0, k1, q⟩ := h
  have hrA : Room 1 _ := hr.mono (by decide)
  have hrN : Room 2 _ := hr.mono (by decide)
  have hrP : Room 2 _ := hr.mono (by decide)
  refine ⟨_, (@pss_cons _ _ _ _ _ (@ps_set _ _ 4 _ _ _ _ scMachine.nd rfl (Or.inl rfl) (pe_call GN hrN (by rfl) mN FN.kp bN .nil pass0 (@pa_cons _ _ _ _ _ (pe_call GA hrA (by rfl) mA FA.kp bA .nil pass0 (@pa_cons _ _ _ _ _ (pv 0) (@pa_cons _ _ _ _ _ (pv 1) pa_nil (by rfl)) (by rfl))) (@pa_cons _ _ _ _ _ (pv 2) pa_nil (by rfl)) (by rfl))) rfl (Or.inl rfl)) (@pss_cons _ _ _ _ _ (@ps_set _ _ 5 _ _ _ _ scMachine.nd rfl (Or.inl rfl) (pe_call GP hrP (by rfl) mP FP.kp bP .nil pass0 (@pa_cons _ _ _ _ _ (pv 0) (@pa_cons _ _ _ _ _ (@pe_op _ _ _ _ _ _ _ _ op_add (pv 1) pe_int) (@pa_cons _ _ _ _ _ (pv 4) pa_nil (by rfl)) (by rfl)) (by rfl))) rfl (Or.inl rfl)) (@pss_cons _ _ _ _ _ (@ps_set _ _ 6 _ _ _ _ scMachine.nd rfl (Or.inl rfl) (pe_call GN hrN (by rfl) mN FN.kp bN .nil pass0 (@pa_cons _ _ _ _ _ (pe_call GA hrA (by rfl) mA FA.kp bA .nil pass0 (@pa_cons _ _ _ _ _ (pv 0) (@pa_cons _ _ _ _ _ (@pe_op _ _ _ _ _ _ _ _ op_add (pv 1) pe_int) pa_nil (by rfl)) (by rfl))) (@pa_cons _ _ _ _ _ (pv 3) pa_nil (by rfl)) (by rfl))) rfl (Or.inl rfl)) (@pss_cons _ _ _ _ _ (@ps_set _ _ 7 _ _ _ _ scMachine.nd rfl (Or.inl rfl) (@pe_lst _ _ _ _ pa_nil) rfl (Or.inl rfl)) (@pss_cons _ _ _ _ _ (@ps_for _ _ _ _ _ _ _ _ PassesOwn.never rfl (pi_range1 rfl B.range (@pa_cons _ _ _ _ _ (pv 3) pa_nil (by rfl))) (pg_name (i := 8) scMachine.nd rfl (Or.inl rfl)) (@pss_one _ _ _ (@ps_expr _ _ _ _ (pe_bm PySem.F.plainAttrs_list PySem.F.slot_list_append PySem.F.type_list_append mt_append (pv 7) (@pa_cons _ _ _ _ _ (pe_call GE hr (by rfl) mE FE.kp bE .nil pass0 (@pa_cons _ _ _ _ _ (pv 0) (@pa_cons _ _ _ _ _ (@pe_op _ _ _ _ _ _ _ _ op_add (@pe_op _ _ _ _ _ _ _ _ op_add (pv 1) pe_int) (@pe_op _ _ _ _ _ _ _ _ op_mul pe_int (pv 8))) (@pa_cons _ _ _ _ _ (@pe_ix _ _ _ _ _ _ (rIxL K) ix_list (pv 6) (pv 8) (fun _ _ => rfl)) (@pa_cons _ _ _ _ _ (pv 5) pa_nil (by rfl)) (by rfl)) (by rfl)) (by rfl))) pa_nil (by rfl))) (by rfl))) (by intro _; rfl)) (@pss_one _ _ _ (@ps_ret _ _ _ _ (@pe_tup _ _ _ _ _ (@pa_cons _ _ _ _ _ (pe_callTy call_tuple_of (by rfl) B.tuple PyProof.Rows.boot_tuple (@pa_cons _ _ _ _ _ (pv 5) pa_nil (by rfl))) (@pa_cons _ _ _ _ _ (pe_callTy call_tuple_of (by rfl) B.tuple PyProof.Rows.boot_tuple (@pa_cons _ _ _ _ _ (pv 7) pa_nil (by rfl))) pa_nil (by rfl)) (by rfl)))))))))), ?_⟩
  refine ⟨_, rfl, _, rfl, a, ns, st, rfl, hS, h63, st0, by omega, fun c H1 s1 => ⟨_, rfl, c, m, rfl, m0, by omega, fun pn H2 l s2 _ e2 l2 nd2 _ _ => ?_⟩⟩
  have t2 := s1.trans s2
  refine ⟨_, rfl, _, rfl, _, _, rfl, rfl, _, rfl, a, pn, ns, _, l, rfl, t2.seq hS, h63, by omega, by omega, e2, by omega, fun pp H3 ps ys s3 _ e3 i3 n3 o3 => ?_⟩
  have t3 := t2.trans s3
  have lp : ps.length = l.length := by rw [← n3, List.length_map]
  refine ⟨_, rfl, _, rfl, _, _, rfl, rfl, a, ns, _, rfl, t3.seq hS, h63, by omega, by omega, fun c2 H4 s4 => ⟨_, rfl, c2, k, rfl, k0, by omega, fun pcl H5 cl s5 _ e5 l5 nd5 _ ln5 => ?_⟩⟩
  have s35 := s4.trans s5
  have t5 := t3.trans s35
  have p5 := s35 _ _ e3
  have i5 := i3.same s35
  refine ⟨by decide, fun pd hpd => ?_⟩
  have npd : H pd = none := t5.free hpd
  have s6 := same_new hpd (.lst [])
  refine ⟨_, rfl, k, rfl, by omega, by omega, for_range (n := k.toNat) (fun i σ H8 => ∃ (v1 : Option V) (us : List V) (ds : List De), σ = [some (.ref a), some (.int st), some (.int m), some (.int k), some (.ref pn), some (.ref pp), some (.ref pcl), some (.ref pd), v1] ∧ Same H5 H8 ∧ H8 pd = some (.lst us) ∧ Iss K H8 (ds.map deD) us ∧ ds.map (·.nm) = cl.take i ∧ ∀ d ∈ ds, DeOk (ps.map (·.n)) d) ⟨none, [], [], rfl, s6, upd_same, .nil, rfl, fun _ h => nomatch h⟩ ?_ ?_⟩
  · rintro i σ H8 hi ⟨v1, us, ds, rfl, g1, g2, g3, g4, g5⟩
    have hi : i < cl.length := by omega
    have ld : ds.length = i := by
      have := congrArg List.length g4
      rw [List.length_map, List.length_take] at this
      omega
    have lu : us.length = i := by rw [g3.length, List.length_map, ld]
    have t8 := t5.trans g1
    have hat : atI (cl.map V.str) (0 + (i : Int)) = some (.str cl[i]) := by
      rw [Int.zero_add]
      exact atI_nat (by rw [List.getElem?_map, List.getElem?_eq_getElem hi]; rfl)
    refine ⟨_, rfl, .inl ⟨rfl, _, SqL.of g2⟩, _, rfl, _, rfl, _, _, rfl, rfl, _, rfl, _, _, rfl, rfl, .inl ⟨by decide, by decide⟩, _, _, rfl, rfl, _, rfl, _, rfl, pcl, _, _, _, rfl, rfl, SqL.of (g1 _ _ e5), hat, _, rfl, a, pp, ns, _, _, ps, ys, rfl, t8.seq hS, h63, by omega, by omega, g1 _ _ p5, i5.same g1, by omega, fun x H9 e s9 i9 n9 o9 => ?_⟩
    refine ⟨pd, _, _, rfl, rfl, s9 _ _ g2, small1000 (by omega), ?_⟩
    refine ⟨_, _, ds ++ [e], rfl, same_put (g1.trans s9) hpd _, upd_same, app_data de_only (s9 _ _ g2) (g3.same s9) i9, ?_, ?_⟩
    · rw [List.map_append, g4, List.take_add_one, List.getElem?_eq_getElem hi, ← n9]
      rfl
    · intro d hd
      rcases List.mem_append.mp hd with z | z
      · exact g5 d z
      · rw [List.mem_singleton.mp z]
        exact o9
  · rintro σ H8 ⟨v1, us, ds, rfl, g1, g2, g3, g4, g5⟩
    rw [List.take_of_length_le (by omega)] at g4
    refine ⟨_, rfl, pp, _, rfl, .inl ⟨SqL.of (g1 _ _ p5), fun t1 ht1 => ?_⟩⟩
    have u1 := same_new ht1 (.tup ys)
    refine ⟨_, rfl, pd, _, rfl, .inl ⟨SqL.of (u1 _ _ g2), fun t2 ht2 => ⟨by show 2 ≤ sizeLine; decide, fun x hx => ?_⟩⟩⟩
    have u2 := same_new ht2 (.tup us)
    have u3 := same_new hx (.tup [V.ref t1, .ref t2])
    refine q x _ ps ds (t5.trans (g1.trans (u1.trans (u2.trans u3)))) ?_ ⟨o3, g5, by rw [g4]; exact nd5, ?_, by rw [n3]; exact nd2⟩ (by rw [lp]; exact l2) ?_
    · rw [maD, Is]
      refine ⟨x, _, rfl, SqT.of upd_same, .cons ?_ (.cons ?_ .nil)⟩
      · rw [Is]
        exact ⟨t1, ys, rfl, (u2.trans u3).tup (SqT.of upd_same), ((i5.same g1).same u1).same (u2.trans u3)⟩
      · rw [Is]
        exact ⟨t2, us, rfl, u3.tup (SqT.of upd_same), g3.same (u1.trans (u2.trans u3))⟩
    · obtain ⟨n, hn, hl⟩ := ln5
      exact ⟨n, hn, fun d hd => hl _ (by rw [← g4]; exact List.mem_map.mpr ⟨d, hd, rfl⟩)⟩
    · have := congrArg List.length g4
      rw [List.length_map] at this
      omega
end
end Nw

set_option Elab.async false
set_option linter.all false
set_option maxRecDepth 100000
set_option maxHeartbeats 4000000
namespace Nw
open PySem L2
/-! ### the values -/
theorem keys_put {κ : Type} [DecidableEq κ] {kvs : List (κ × V)} (k : κ) (v : V) (hn : (kvs.map (·.1)).Nodup) : ((putK kvs k v).map (·.1)).Nodup := by
  by_cases h : valV kvs k = none
  · exact nd_putK v hn h
  · unfold putK
    have a : (kvs.any fun kv => decide (kv.1 = k)) = true := by
      rw [valV_any]
      cases e : valV kvs k with
      | none => exact absurd e h
      | some _ => rfl
    rw [if_pos a, List.map_map]
    have : ((fun kv : κ × V => kv.1) ∘ fun kv => if kv.1 = k then (kv.1, v) else kv) = fun kv => kv.1 := by
      funext kv
      show (if kv.1 = k then (kv.1, v) else kv).1 = kv.1
      split <;> rfl
    rw [this]
    exact hn
theorem mem_put {κ : Type} [DecidableEq κ] {kvs : List (κ × V)} {k : κ} {v : V} {p : κ × V} (h : p ∈ putK kvs k v) : p ∈ kvs ∨ p.2 = v := by
  unfold putK at h
  split at h
  · obtain ⟨q, hq, e⟩ := List.mem_map.mp h
    split at e
    · rw [← e]; exact .inr rfl
    · rw [← e]; exact .inl hq
  · rcases List.mem_append.mp h with z | z
    · exact .inl z
    · rw [List.mem_singleton.mp z]; exact .inr rfl
theorem putK_length {κ : Type} [DecidableEq κ] (kvs : List (κ × V)) (k : κ) (v : V) : (putK kvs k v).length ≤ kvs.length + 1 := by
  unfold putK
  split
  · rw [List.length_map]; omega
  · rw [List.length_append]; exact Nat.le_refl _
theorem valV_memP {κ : Type} [DecidableEq κ] : ∀ {kvs : List (κ × V)} {k : κ} {v : V}, valV kvs k = some v → (k, v) ∈ kvs
  | [], k, v, h => by rw [valV_nil] at h; cases h
  | p :: r, k, v, h => by
    by_cases e : p.1 = k
    · rw [valV_pos e] at h
      cases h
      rw [← e]
      exact List.mem_cons_self
    · rw [valV_neg e] at h
      exact List.mem_cons_of_mem _ (valV_memP h)
def vfOf (kvs : List (Key × V)) (x : Str) : Int := match valV kvs (.inr x) with
  | some (.int i) => i
  | _ => 0
structure Fil (l : List Str) (kvs : List (Key × V)) (n : Nat) : Prop where
  nd : (kvs.map (·.1)).Nodup
  nums : ∀ p ∈ kvs, ∃ i : Int, p.2 = .int i ∧ i.natAbs < 2 ^ 110
  got : ∀ x ∈ l, ∃ v, valV kvs (.inr x) = some v
  len : kvs.length ≤ n
theorem Fil.put {l : List Str} {kvs : List (Key × V)} {n : Nat} (F : Fil l kvs n) (x : Str) {i : Int} (h : i.natAbs < 2 ^ 110) : Fil (l ++ [x]) (putK kvs (.inr x) (.int i)) (n + 1) := by
  refine ⟨keys_put _ _ F.nd, fun p hp => ?_, fun y hy => ?_, Nat.le_trans (putK_length _ _ _) (Nat.succ_le_succ F.len)⟩
  · rcases mem_put hp with z | z
    · exact F.nums p z
    · exact ⟨i, z, h⟩
  · rw [valV_put]
    by_cases e : (Sum.inr y : Key) = .inr x
    · exact ⟨_, if_pos e⟩
    · rw [if_neg e]
      rcases List.mem_append.mp hy with z | z
      · exact F.got y z
      · exact absurd (by rw [List.mem_singleton.mp z]) e
theorem Fil.ok {l : List Str} {kvs : List (Key × V)} {n : Nat} (F : Fil l kvs n) : ValsOk kvs l (vfOf kvs) := by
  refine ⟨F.nd, fun p hp => ?_, fun x hx => ?_⟩
  · obtain ⟨i, e, _⟩ := F.nums p hp
    rw [e]
    rfl
  · obtain ⟨v, hv⟩ := F.got x hx
    obtain ⟨m, em, hm⟩ := F.nums _ (valV_memP hv)
    have em : v = .int m := em
    subst em
    have ev : vfOf kvs x = m := by
      unfold vfOf
      rw [hv]
    rw [ev]
    exact ⟨hv, hm⟩
def cnt (lo w u j : Int) : Nat := ((if u + 1 < lo + j then u + 1 else lo + j) - (if w > lo then w else lo)).toNat
theorem cnt_0 (lo w u : Int) : cnt lo w u 0 = 0 := by
  unfold cnt
  split <;> split <;> omega
theorem cnt_le (lo w u j : Int) : cnt lo w u j ≤ j.toNat := by
  unfold cnt
  split <;> split <;> omega
theorem cnt_in {lo w u : Int} {j : Nat} (h1 : w ≤ lo + (j : Int)) (h2 : lo + (j : Int) ≤ u) : L2.upTo (if w > lo then w else lo) (cnt lo w u ((j + 1 : Nat) : Int)) = L2.upTo (if w > lo then w else lo) (cnt lo w u (j : Int)) ++ [.int (lo + (j : Int))] := by
  have e : cnt lo w u ((j + 1 : Nat) : Int) = cnt lo w u (j : Int) + 1 := by
    unfold cnt
    split <;> split <;> split <;> omega
  have e2 : (if w > lo then w else lo) + ((cnt lo w u (j : Int) : Nat) : Int) = lo + (j : Int) := by
    unfold cnt
    split <;> split <;> omega
  rw [e, upTo_succ, e2]
theorem cnt_out {lo w u : Int} {j : Nat} (h : ¬ (w ≤ lo + (j : Int) ∧ lo + (j : Int) ≤ u)) : cnt lo w u ((j + 1 : Nat) : Int) = cnt lo w u (j : Int) := by
  unfold cnt
  split <;> split <;> split <;> omega
structure Al {α : Type} (R : α → V → Prop) (ps : List α) (vs : List V) : Prop where
  len : ps.length = vs.length
  at_ : ∀ (i : Nat) p v, ps[i]? = some p → vs[i]? = some v → R p v
theorem Al.nil {α : Type} {R : α → V → Prop} : Al R [] [] := ⟨rfl, fun i p v h => by simp at h⟩
theorem Al.snoc {α : Type} {R : α → V → Prop} {p : α} {ps : List α} {v : V} {vs : List V} (a : Al R ps vs) (h : R p v) : Al R (ps ++ [p]) (vs ++ [v]) := by
  refine ⟨by rw [List.length_append, List.length_append, a.len]; rfl, fun i q u h1 h2 => ?_⟩
  by_cases hi : i < ps.length
  · rw [List.getElem?_append_left hi] at h1
    rw [List.getElem?_append_left (by rw [← a.len]; exact hi)] at h2
    exact a.at_ i q u h1 h2
  · rw [List.getElem?_append_right (by omega)] at h1
    rw [List.getElem?_append_right (by rw [← a.len]; omega), ← a.len] at h2
    have e : i - ps.length = 0 := by
      have := (List.getElem?_eq_some_iff.mp h1).1
      simp at this
      omega
    rw [e] at h1 h2
    cases h1
    cases h2
    exact h
theorem Al.mono {α : Type} {R S : α → V → Prop} {ps : List α} {vs : List V} (a : Al R ps vs) (h : ∀ p v, R p v → S p v) : Al S ps vs := ⟨a.len, fun i p v h1 h2 => h p v (a.at_ i p v h1 h2)⟩
theorem Al.get {α : Type} {R : α → V → Prop} {ps : List α} {vs : List V} (a : Al R ps vs) {i : Nat} {v : V} (h : vs[i]? = some v) : ∃ p, ps[i]? = some p ∧ R p v := by
  have hi : i < ps.length := by rw [a.len]; exact (List.getElem?_eq_some_iff.mp h).1
  exact ⟨ps[i], List.getElem?_eq_getElem hi, a.at_ i _ v (List.getElem?_eq_getElem hi) h⟩
/-! ### what a deed leads to -/
theorem iss_intsE {K : PySem.W.Frag} {H : Hp} : ∀ {ns : List Int} {vs : List V}, Iss K H (ns.map Dt.int) vs → vs = ns.map V.int
  | [], vs, h => by rw [List.map_nil, Iss] at h; rw [h]; rfl
  | n :: ns, vs, h => by
    rw [List.map_cons, Iss] at h
    obtain ⟨v, r, rfl, h1, h2⟩ := h
    rw [Is] at h1
    rw [h1, iss_intsE h2]
    rfl
def rmD (r : List Int) : Dt := .tup (r.map Dt.int)
theorem rm_only (r : List Int) : tOnly (rmD r) = true := by
  rw [rmD, tOnly]
  exact onlys_map (fun x => by simp [tOnly]) r
theorem is_rm {K : PySem.W.Frag} {H : Hp} {r : List Int} {v : V} (h : Is K H (rmD r) v) : ∃ p, v = .ref p ∧ SqT K H p (r.map V.int) := by
  rw [rmD, Is] at h
  obtain ⟨p, xs, e, h1, h2⟩ := h
  rw [iss_intsE h2] at h1
  exact ⟨p, e, h1⟩
theorem rm_is {K : PySem.W.Frag} {H : Hp} {r : List Int} {p : Addr} (h : SqT K H p (r.map V.int)) : Is K H (rmD r) (.ref p) := by
  rw [rmD, Is]
  exact ⟨p, _, rfl, h, Iss.ints r⟩
def kvT (zs : List (Pl × Int)) : List (Key × V) := zs.foldl (fun k z => putK k (.inr z.1.n) (.int z.2)) []
theorem kvT_take {zs : List (Pl × Int)} {i : Nat} (h : i < zs.length) : kvT (zs.take (i + 1)) = putK (kvT (zs.take i)) (.inr zs[i].1.n) (.int zs[i].2) := by
  unfold kvT
  rw [List.take_add_one, List.getElem?_eq_getElem h, List.foldl_append]
  rfl
theorem fil_take {zs : List (Pl × Int)} (hb : ∀ z ∈ zs, z.2.natAbs < 1000) : ∀ i, i ≤ zs.length → Fil ((zs.map (·.1.n)).take i) (kvT (zs.take i)) i
  | 0, _ => ⟨by simp [kvT], fun p hp => by simp [kvT] at hp, fun x hx => by simp at hx, by simp [kvT]⟩
  | i + 1, h => by
    have h' : i < zs.length := h
    rw [kvT_take h', List.take_add_one, List.getElem?_map, List.getElem?_eq_getElem h']
    exact (fil_take hb i (Nat.le_of_lt h')).put zs[i].1.n (Nat.lt_of_lt_of_le (hb _ (List.getElem_mem h')) (by decide))
theorem fil_all {zs : List (Pl × Int)} (hb : ∀ z ∈ zs, z.2.natAbs < 1000) : Fil (zs.map (·.1.n)) (kvT zs) zs.length := by
  have := fil_take hb zs.length (Nat.le_refl _)
  rw [List.take_of_length_le (Nat.le_refl _), List.take_of_length_le (by rw [List.length_map]; exact Nat.le_refl _)] at this
  exact this
/-- the values that a change tells, as ints -/
def chI (vf : Str → Int) (lo hi : Int) : Ch → List Int
  | .cha _ => []
  | .put _ t => if lo ≤ val vf t ∧ val vf t ≤ hi then [val vf t] else []
  | .any _ t u => (List.range ((if val vf u < hi then val vf u else hi) + 1 - (if val vf t > lo then val vf t else lo)).toNat).map fun k : Nat => (if val vf t > lo then val vf t else lo) + (k : Int)
theorem upTo_ints (i : Int) (n : Nat) : L2.upTo i n = ((List.range n).map fun k : Nat => i + (k : Int)).map V.int := by unfold L2.upTo; rw [List.map_map]; rfl
theorem chV_I (vf : Str → Int) (lo hi : Int) : ∀ c : Ch, chV vf lo hi c = (chI vf lo hi c).map V.int
  | .cha _ => rfl
  | .put _ t => by
    show (if lo ≤ val vf t ∧ val vf t ≤ hi then [V.int (val vf t)] else []) = (if lo ≤ val vf t ∧ val vf t ≤ hi then [val vf t] else []).map V.int
    split <;> rfl
  | .any _ t u => upTo_ints _ _
theorem chI_len (vf : Str → Int) {lo hi : Int} (h : hi - lo ≤ 5) : ∀ c : Ch, (chI vf lo hi c).length ≤ 6
  | .cha _ => by show 0 ≤ 6; decide
  | .put _ t => by
    show (if lo ≤ val vf t ∧ val vf t ≤ hi then [val vf t] else []).length ≤ 6
    split
    · show 1 ≤ 6; decide
    · show 0 ≤ 6; decide
  | .any _ t u => by
    show ((List.range _).map _).length ≤ 6
    rw [List.length_map, List.length_range]
    split <;> split <;> omega
def optI (vf : Str → Int) (p : Pl) (x : Int) : List Ch → List Int
  | [] => [x]
  | c :: cs => if chN c = p.n then chI vf p.lo p.hi c else optI vf p x cs
theorem optI_len (vf : Str → Int) {p : Pl} (h : PlOk p) (x : Int) : ∀ cs : List Ch, (optI vf p x cs).length ≤ 6
  | [] => by show 1 ≤ 6; decide
  | c :: cs => by
    rw [optI]
    split
    · exact chI_len vf (by have := h.d; omega) c
    · exact optI_len vf h x cs
theorem optI_drop {vf : Str → Int} {p : Pl} {x : Int} {cs : List Ch} {i : Nat} (h : i < cs.length) : optI vf p x (cs.drop i) = if chN cs[i] = p.n then chI vf p.lo p.hi cs[i] else optI vf p x (cs.drop (i + 1)) := by
  rw [List.drop_eq_getElem_cons h, optI]
def rg (lo hi w u : Int) : List V := L2.upTo (if w > lo then w else lo) (cnt lo w u (((hi + 1 - lo).toNat : Nat) : Int))
theorem rg_put {vf : Str → Int} {lo hi : Int} (h : lo ≤ hi) (n : Str) (t : Tr) : rg lo hi (val vf t) (val vf t) = (chI vf lo hi (.put n t)).map V.int := by
  show rg lo hi (val vf t) (val vf t) = (if lo ≤ val vf t ∧ val vf t ≤ hi then [val vf t] else []).map V.int
  unfold rg
  generalize val vf t = y
  by_cases hh : lo ≤ y ∧ y ≤ hi
  · have e1 : (if y > lo then y else lo) = y := by split <;> omega
    have e2 : cnt lo y y (((hi + 1 - lo).toNat : Nat) : Int) = 1 := by unfold cnt; split <;> split <;> omega
    rw [if_pos hh, e1, e2]
    unfold L2.upTo
    simp
  · have e2 : cnt lo y y (((hi + 1 - lo).toNat : Nat) : Int) = 0 := by unfold cnt; split <;> split <;> omega
    rw [if_neg hh, e2]
    unfold L2.upTo
    simp
theorem rg_any {vf : Str → Int} {lo hi : Int} (h : lo ≤ hi) (n : Str) (t u : Tr) : rg lo hi (val vf t) (val vf u) = (chI vf lo hi (.any n t u)).map V.int := by
  rw [← chV_I]
  show _ = L2.upTo (if val vf t > lo then val vf t else lo) ((if val vf u < hi then val vf u else hi) + 1 - (if val vf t > lo then val vf t else lo)).toNat
  unfold rg
  congr 1
  unfold cnt
  split <;> split <;> split <;> omega
theorem upTo_len (i : Int) (n : Nat) : (L2.upTo i n).length = n := by unfold L2.upTo; simp
theorem snoc_take {α β : Type} (A : List β) (cs : List α) (f : α → β) {k : Nat} (hk : k < cs.length) : A ++ (cs.take (k + 1)).map f = A ++ (cs.take k).map f ++ [f cs[k]] := by
  rw [List.take_add_one, List.getElem?_eq_getElem hk, List.map_append, ← List.append_assoc]
  rfl
def stepP (rooms : List (List Int)) (cs : List Int) : List (List Int) := rooms.flatMap fun r => cs.map fun c => r ++ [c]
def prodP (ls : List (List Int)) : List (List Int) := ls.foldl stepP [[]]
theorem prodP_take {ls : List (List Int)} {i : Nat} (h : i < ls.length) : prodP (ls.take (i + 1)) = stepP (prodP (ls.take i)) ls[i] := by
  unfold prodP
  rw [List.take_add_one, List.getElem?_eq_getElem h, List.foldl_append]
  rfl
theorem stepP_take {rs : List (List Int)} {cs : List Int} {j : Nat} (h : j < rs.length) : stepP (rs.take (j + 1)) cs = stepP (rs.take j) cs ++ cs.map fun c => rs[j] ++ [c] := by
  unfold stepP
  rw [List.take_add_one, List.getElem?_eq_getElem h, List.flatMap_append]
  simp
theorem stepP_len {cs : List Int} (h : cs.length ≤ 6) : ∀ rs : List (List Int), (stepP rs cs).length ≤ rs.length * 6
  | [] => by simp [stepP]
  | r :: rs => by
    have ih := stepP_len h rs
    have e : stepP (r :: rs) cs = (cs.map fun c => r ++ [c]) ++ stepP rs cs := rfl
    rw [e, List.length_append, List.length_map, List.length_cons]
    omega
theorem prodP_len {ls : List (List Int)} (h : ∀ l ∈ ls, l.length ≤ 6) : ∀ i, i ≤ ls.length → (prodP (ls.take i)).length ≤ 6 ^ i
  | 0, _ => by show 1 ≤ 1; decide
  | i + 1, hi => by
    have hi' : i < ls.length := hi
    rw [prodP_take hi', Nat.pow_succ]
    have h1 := prodP_len h i (Nat.le_of_lt hi')
    have h2 := stepP_len (h _ (List.getElem_mem hi')) (prodP (ls.take i))
    omega
theorem prodP_each {ls : List (List Int)} : ∀ i, i ≤ ls.length → ∀ r ∈ prodP (ls.take i), r.length = i
  | 0, _, r, hr => by
    have : r = [] := by simpa [prodP] using hr
    rw [this]
    rfl
  | i + 1, hi, r, hr => by
    have hi' : i < ls.length := hi
    rw [prodP_take hi'] at hr
    unfold stepP at hr
    obtain ⟨r0, h0, h1⟩ := List.mem_flatMap.mp hr
    obtain ⟨c, _, rfl⟩ := List.mem_map.mp h1
    rw [List.length_append, prodP_each i (Nat.le_of_lt hi') r0 h0]
    rfl
def optsR (ps : List Pl) (d : De) (rm : List Int) : List (List Int) := (ps.zip rm).map fun z => optI (vfOf (kvT (ps.zip rm))) z.1 z.2 d.chs
def behR (ps : List Pl) (d : De) (rm : List Int) : List (List Int) := if hol (vfOf (kvT (ps.zip rm))) d.wh = true then prodP (optsR ps d rm) else []
structure RmOk (ps : List Pl) (rm : List Int) : Prop where
  len : rm.length = ps.length
  few : ps.length ≤ 4
  small : ∀ r ∈ rm, r.natAbs < 1000
theorem RmOk.zs {ps : List Pl} {rm : List Int} (O : RmOk ps rm) : ∀ z ∈ ps.zip rm, z.2.natAbs < 1000 := fun z hz => O.small z.2 (List.of_mem_zip hz).2
theorem RmOk.names {ps : List Pl} {rm : List Int} (O : RmOk ps rm) : (ps.zip rm).map (·.1.n) = ps.map (·.n) := by
  have : (ps.zip rm).map (·.1) = ps := List.map_fst_zip (by rw [O.len]; exact Nat.le_refl _)
  have e : (ps.zip rm).map (·.1.n) = ((ps.zip rm).map (·.1)).map (·.n) := by rw [List.map_map]; rfl
  rw [e, this]
theorem RmOk.zlen {ps : List Pl} {rm : List Int} (O : RmOk ps rm) : (ps.zip rm).length = ps.length := by rw [List.length_zip, O.len, Nat.min_self]
theorem RmOk.vals {ps : List Pl} {rm : List Int} (O : RmOk ps rm) : ValsOk (kvT (ps.zip rm)) (ps.map (·.n)) (vfOf (kvT (ps.zip rm))) := by
  have := (fil_all O.zs).ok
  rw [O.names] at this
  exact this
/-! ### deeds as objects -/
def deeF (n w c : V) : List (Str × V) := putF "changes" c (putF "when" w (putF "called" n []))
theorem dee_n (n w c : V) : (deeF n w c).lookup ("called" : Str) = some n := by unfold deeF; rw [lookup_putF, if_neg (by decide +kernel), lookup_putF, if_neg (by decide +kernel), lookup_putF, if_pos rfl]
theorem dee_w (n w c : V) : (deeF n w c).lookup ("when" : Str) = some w := by unfold deeF; rw [lookup_putF, if_neg (by decide +kernel), lookup_putF, if_pos rfl]
theorem dee_c (n w c : V) : (deeF n w c).lookup ("changes" : Str) = some c := by unfold deeF; rw [lookup_putF, if_pos rfl]
structure ClsD (K : PySem.W.Frag) (CD : Addr) : Prop where
  cl : Cls K CD
  n1 : NoAttr K CD "called"
  n2 : NoAttr K CD "when"
  n3 : NoAttr K CD "changes"
def ObjD (CK : Kd → Addr) (CC : Kc → Addr) (CY : Ks → Addr) (CD : Addr) (H : Hp) (d : De) (v : V) : Prop := ∃ p dx vw tc us, v = .ref p ∧ H p = some (.ins CD dx (deeF (.str d.nm) vw (.ref tc))) ∧ ObjS CK CY H d.wh vw ∧ H tc = some (.tup us) ∧ Al (ObjC CK CC H) d.chs us
theorem ObjD.same {CK : Kd → Addr} {CC : Kc → Addr} {CY : Ks → Addr} {CD : Addr} {H H' : Hp} (s : Same H H') {d : De} {v : V} (h : ObjD CK CC CY CD H d v) : ObjD CK CC CY CD H' d v := by
  obtain ⟨p, dx, vw, tc, us, e, h1, h2, h3, h4⟩ := h
  exact ⟨p, dx, vw, tc, us, e, s _ _ h1, h2.same s, s _ _ h3, h4.mono fun _ _ h => h.same s⟩
section
variable {P : Program} {w : World} {K : PySem.W.Frag} {mg : Str → Option Value} {base : Heap} {CK : Kd → Addr} {CC : Kc → Addr} {CY : Ks → Addr} {CD : Addr}
def spDeeI (C : Addr) : Sp := fun vs H Q _ => ∃ (x dx : Addr) (n o u : V), vs = [.ref x, n, o, u] ∧ H x = some (.ins C dx []) ∧ ∀ H', H' x = some (.ins C dx (deeF n o u)) → (∀ b, b ≠ x → H' b = H b) → Q .non H'
theorem scDeeI : FnScope ["self", "called", "when", "changes"] ["self", "called", "when", "changes"] (defScope sDeeI) := ⟨rfl, rfl, rfl, by decide +kernel, rfl, by decide +kernel, by decide +kernel⟩
theorem ok_deeI {f : Addr} {fd : FuncData} (c : ClsD K CD) (F : Fun K "__init__" "Deed.__init__" sDeeI f fd) : FnOk P w K mg base CX0 1 f fd ["self", "called", "when", "changes"] (spDeeI CD) := by
  refine F.ok scDeeI (fun vs H Q E h => ?_) (fun cdv A outer s H vs Q E hr h => ?_)
  · obtain ⟨x, dx, n, o, u, rfl, _⟩ := h
    rfl
  obtain ⟨x, dx, n, o, u, rfl, hx, q⟩ := h
  refine ⟨_, (@pss_cons _ _ _ _ _ (@ps_fld _ _ _ _ _ _ _ _ (pv 0) (pv 1) rfl) (@pss_cons _ _ _ _ _ (@ps_fld _ _ _ _ _ _ _ _ (pv 0) (pv 2) rfl) (@pss_one _ _ _ (@ps_fld _ _ _ _ _ _ _ _ (pv 0) (pv 3) rfl)))), ?_⟩
  refine ⟨_, rfl, _, rfl, x, _, dx, _, rfl, hx, c.cl, c.n1, (by show 0 < 1000; decide), ?_⟩
  refine ⟨_, rfl, _, rfl, x, _, dx, _, rfl, upd_same, c.cl, c.n2, Nat.lt_of_le_of_lt (length_putF _ _ _) (by show 1 < 1000; decide), ?_⟩
  refine ⟨_, rfl, _, rfl, x, _, dx, _, rfl, upd_same, c.cl, c.n3, Nat.lt_of_le_of_lt (length_putF _ _ _) (Nat.lt_of_le_of_lt (Nat.succ_le_succ (length_putF _ _ _)) (by show 2 < 1000; decide)), ?_⟩
  exact q _ upd_same fun b hb => by rw [upd_ne hb, upd_ne hb, upd_ne hb]
/-! ### the law's own makers -/
def spChangeOf (K : PySem.W.Frag) (CK : Kd → Addr) (CC : Kc → Addr) : Sp := fun vs H Q _ => ∃ (v : V) (g : Ch) (l : List Str), vs = [v] ∧ Is K H (chD g) v ∧ FitsC l 8 g ∧ kc g ≠ .cha ∧ ∀ (p : Addr) (H' : Hp), Same H H' → ObjC CK CC H' g (.ref p) → Q (.ref p) H'
theorem scChangeOf : FnScope ["_law_change_here"] ["_law_change_here"] (defScope sChangeOf) := ⟨rfl, rfl, rfl, by decide +kernel, rfl, by decide +kernel, by decide +kernel⟩
theorem ok_changeOf {f fH fU fA : Addr} {fd fdH dU dA : FuncData} (B : Bl mg) (F : Fun K "_law_change_of" "_law_change_of" sChangeOf f fd) (FH : Fun K "_law_sum_of" "_law_sum_of" sHand fH fdH) (bH : Binds K fdH ["_law_one"] []) (mH : mg "_law_sum_of" = some (.ref fH)) (GH : FnOk P w K mg base CX0 11 fH fdH ["_law_one"] (spHand K CK 8))
    (mkU : Mk K (CC .put) fU) (gU : mg "Put" = some (.ref (CC .put))) (bU : Binds K dU ["self", "name", "one"] []) (FU : Fun K "__init__" "Put.__init__" sPutI fU dU) (GU : FnOk P w K mg base CX0 2 fU dU ["self", "name", "one"] (spPutI (CC .put)))
    (mkA : Mk K (CC .any) fA) (gA : mg "Any" = some (.ref (CC .any))) (bA : Binds K dA ["self", "name", "one", "other"] []) (FA : Fun K "__init__" "Any.__init__" sAnyI fA dA) (GA : FnOk P w K mg base CX0 2 fA dA ["self", "name", "one", "other"] (spAnyI (CC .any))) : FnOk P w K mg base CX0 12 f fd ["_law_change_here"] (spChangeOf K CK CC) := by
  refine F.ok scChangeOf (fun vs H Q E h => ?_) (fun cdv A outer s H vs Q E hr h => ?_)
  · obtain ⟨v, g, l, rfl, _⟩ := h
    rfl
  obtain ⟨v, g, l, rfl, ig, ft, kg, q⟩ := h
  have hr3 : Room 3 _ := hr.mono (by decide)
  refine ⟨_, (@pss_cons _ _ _ _ _ (@ps_if _ _ _ _ _ _ _ _ (@pt_cmpR _ _ _ _ _ _ _ _ op_eq (pe_callB call_len_seq (by rfl) B.len PySem.boot_len (@pa_cons _ _ _ _ _ (pv 0) pa_nil (by rfl))) pe_int (nomark _)) (@pss_one _ _ _ (@ps_ret _ _ _ _ (pe_make mkA GA hr3 rfl gA bA .nil pass0 (@pa_cons _ _ _ _ _ (@pe_ix _ _ _ _ _ _ (rIxT K) ix_tup (pv 0) pe_int (fun _ _ => rfl)) (@pa_cons _ _ _ _ _ (pe_call GH hr (by rfl) mH FH.kp bH .nil pass0 (@pa_cons _ _ _ _ _ (@pe_ix _ _ _ _ _ _ (rIxT K) ix_tup (pv 0) pe_int (fun _ _ => rfl)) pa_nil (by rfl))) (@pa_cons _ _ _ _ _ (pe_call GH hr (by rfl) mH FH.kp bH .nil pass0 (@pa_cons _ _ _ _ _ (@pe_ix _ _ _ _ _ _ (rIxT K) ix_tup (pv 0) pe_int (fun _ _ => rfl)) pa_nil (by rfl))) pa_nil (by rfl)) (by rfl)) (by rfl))))) pss_nil) (@pss_one _ _ _ (@ps_ret _ _ _ _ (pe_make mkU GU hr3 rfl gU bU .nil pass0 (@pa_cons _ _ _ _ _ (@pe_ix _ _ _ _ _ _ (rIxT K) ix_tup (pv 0) pe_int (fun _ _ => rfl)) (@pa_cons _ _ _ _ _ (pe_call GH hr (by rfl) mH FH.kp bH .nil pass0 (@pa_cons _ _ _ _ _ (@pe_ix _ _ _ _ _ _ (rIxT K) ix_tup (pv 0) pe_int (fun _ _ => rfl)) pa_nil (by rfl))) pa_nil (by rfl)) (by rfl)))))), ?_⟩
  cases g with
  | cha n => exact absurd rfl kg
  | put n t =>
    obtain ⟨p, a, rfl, ht, ia⟩ := is_put ig
    obtain ⟨f1, f2, f3⟩ : Fits l t ∧ lv t ≤ 100 ∧ dp t < 8 := ft
    refine ⟨_, rfl, p, _, rfl, .inr ht, rfl, _, rfl, ite2 (fun c => absurd (of_decide_eq_true c) (by intro z; exact absurd (V.int.inj z) (by show ¬ ((2 : Nat) : Int) = 3; decide))) (fun _ => ?_)⟩
    refine ⟨_, rfl, p, _, _, _, rfl, rfl, ht, atI_nat (j := 0) rfl, _, rfl, p, _, _, _, rfl, rfl, ht, atI_nat (j := 1) rfl, a, t, rfl, ia, f3, fun p1 H1 s1 o1 => ?_⟩
    refine fun x dx hx hdx hxd => ⟨x, dx, _, _, rfl, upd_same, fun HJ h3 h4 => ⟨rfl, ?_⟩⟩
    have sJ := same_made2 hx hdx hxd h4
    exact q x HJ (s1.trans sJ) ⟨x, dx, _, rfl, h3, o1.same sJ⟩
  | any n t u =>
    obtain ⟨p, a, b, rfl, ht, ia, ib⟩ := is_any ig
    obtain ⟨⟨f1, f2, f3⟩, g1, g2, g3⟩ : (Fits l t ∧ lv t ≤ 100 ∧ dp t < 8) ∧ Fits l u ∧ lv u ≤ 100 ∧ dp u < 8 := ft
    refine ⟨_, rfl, p, _, rfl, .inr ht, rfl, _, rfl, ite2 (fun _ => ?_) (fun c => absurd (decide_eq_true rfl) c)⟩
    refine ⟨_, rfl, p, _, _, _, rfl, rfl, ht, atI_nat (j := 0) rfl, _, rfl, p, _, _, _, rfl, rfl, ht, atI_nat (j := 1) rfl, a, t, rfl, ia, f3, fun p1 H1 s1 o1 => ?_⟩
    refine ⟨_, rfl, p, _, _, _, rfl, rfl, s1.tup ht, atI_nat (j := 2) rfl, b, u, rfl, ib.same s1, g3, fun p2 H2 s2 o2 => ?_⟩
    refine fun x dx hx hdx hxd => ⟨x, dx, _, _, _, rfl, upd_same, fun HJ h3 h4 => ⟨rfl, ?_⟩⟩
    have sJ := same_made2 hx hdx hxd h4
    exact q x HJ (s1.trans (s2.trans sJ)) ⟨x, dx, _, _, rfl, h3, o1.same (s2.trans sJ), o2.same sJ⟩
def spDeedOf (K : PySem.W.Frag) (CK : Kd → Addr) (CC : Kc → Addr) (CY : Ks → Addr) (CD : Addr) : Sp := fun vs H Q _ => ∃ (v : V) (d : De) (l : List Str), vs = [v] ∧ Is K H (deD d) v ∧ DeOk l d ∧ ∀ (p : Addr) (H' : Hp), Same H H' → ObjD CK CC CY CD H' d (.ref p) → Q (.ref p) H'
theorem scDeedOf : FnScope ["_law_deed_here", "_law_changes"] ["_law_deed_here"] (defScope sDeedOf) := ⟨rfl, rfl, rfl, by decide +kernel, rfl, by decide +kernel, by decide +kernel⟩
theorem nd_scDeedOf1 : (["_law_deed_here", "_law_changes", "_law_change_here"] : List Str).Nodup := by decide +kernel
theorem ok_deedOf {f fC fT fD : Addr} {fd fdC fdT dD : FuncData} (B : Bl mg) (F : Fun K "_law_deed_of" "_law_deed_of" sDeedOf f fd) (FC : Fun K "_law_change_of" "_law_change_of" sChangeOf fC fdC) (bC : Binds K fdC ["_law_change_here"] []) (mC : mg "_law_change_of" = some (.ref fC)) (GC : FnOk P w K mg base CX0 12 fC fdC ["_law_change_here"] (spChangeOf K CK CC))
    (FT : Fun K "_law_saying_of" "_law_saying_of" sTold fT fdT) (bT : Binds K fdT ["_law_one"] []) (mT : mg "_law_saying_of" = some (.ref fT)) (GT : FnOk P w K mg base CX0 17 fT fdT ["_law_one"] (spTold K CK CY 4))
    (c : ClsD K CD) (mkD : Mk K CD fD) (gD : mg "Deed" = some (.ref CD)) (bD : Binds K dD ["self", "called", "when", "changes"] []) (FD : Fun K "__init__" "Deed.__init__" sDeeI fD dD) : FnOk P w K mg base CX0 18 f fd ["_law_deed_here"] (spDeedOf K CK CC CY CD) := by
  have GD : FnOk P w K mg base CX0 1 fD dD ["self", "called", "when", "changes"] (spDeeI CD) := ok_deeI c FD
  refine F.ok scDeedOf (fun vs H Q E h => ?_) (fun cdv A outer s H vs Q E hr h => ?_)
  · obtain ⟨v, d, l, rfl, _⟩ := h
    rfl
  obtain ⟨v, d, l, rfl, id, O, q⟩ := h
  have hr2 : Room 2 _ := hr.mono (by decide)
  have hrC : Room 12 _ := hr.mono (by decide)
  obtain ⟨p, a, tc, ys, rfl, ht, ia, hc, ic⟩ := is_de id
  have ly : ys.length = d.chs.length := by rw [ic.length, List.length_map]
  refine ⟨_, (@pss_cons _ _ _ _ _ (@ps_set _ _ 1 _ _ _ _ scDeedOf.nd rfl (Or.inl rfl) (pe_callTy call_tuple_of (by rfl) B.tuple PyProof.Rows.boot_tuple (@pa_cons _ _ _ _ _ (pe_comp (NX := ["_law_deed_here", "_law_changes"]) (N := ["_law_deed_here", "_law_changes", "_law_change_here"]) (ms := [true, true, false]) (ks := [2]) (out := defScope sDeedOf) (by exact ⟨rfl, by decide +kernel, by decide +kernel, by decide +kernel, by decide +kernel, by decide +kernel⟩) rfl rfl rfl (@pi_tup _ _ _ _ (@pe_ix _ _ _ _ _ _ (rIxT K) ix_tup (pv 0) pe_int (fun _ _ => rfl))) (@sets_name 2) (by decide) (fun C ex s H => (pg_name (i := 2) nd_scDeedOf1 rfl (Or.inl rfl))) (fun C ex s H => pts_nil) (fun C ex s H => (pe_call GC hrC (by rfl) mC FC.kp bC .nil pass0 (@pa_cons _ _ _ _ _ (pv 2) pa_nil (by rfl))))) pa_nil (by rfl))) rfl (Or.inl rfl)) (@pss_one _ _ _ (@ps_ret _ _ _ _ (pe_make mkD GD hr2 rfl gD bD .nil pass0 (@pa_cons _ _ _ _ _ (@pe_ix _ _ _ _ _ _ (rIxT K) ix_tup (pv 0) pe_int (fun _ _ => rfl)) (@pa_cons _ _ _ _ _ (pe_call GT hr (by rfl) mT FT.kp bT .nil pass0 (@pa_cons _ _ _ _ _ (@pe_ix _ _ _ _ _ _ (rIxT K) ix_tup (pv 0) pe_int (fun _ _ => rfl)) pa_nil (by rfl))) (@pa_cons _ _ _ _ _ (pv 1) pa_nil (by rfl)) (by rfl)) (by rfl)))))), ?_⟩
  refine ⟨_, rfl, p, _, _, _, rfl, rfl, ht, atI_nat (j := 2) rfl, tc, rfl, ⟨_, hc⟩, comp_tup (xs := ys) (fun i us H' => Same H H' ∧ Al (ObjC CK CC H') (d.chs.take i) us) ⟨Same.refl H, Al.nil⟩ (fun i us H' _ ⟨s', _⟩ => s'.tup hc) (fun i us H' _ ⟨_, al⟩ => small1000 (by have h1 := al.len; have h2 := O.ln; rw [List.length_take] at h1; omega)) ?_ ?_⟩
  · rintro i x us H' hx ⟨s', al⟩
    have hi : i < d.chs.length := by rw [← ly]; exact (List.getElem?_eq_some_iff.mp hx).1
    obtain ⟨v, e1, iv⟩ := iss_at ic hi
    rw [hx] at e1
    cases e1
    obtain ⟨o1, o2⟩ := O.ch _ (List.getElem_mem hi)
    refine ⟨_, rfl, x, d.chs[i], l, rfl, iv.same s', o1, o2, fun p1 H1 s1 ob => ⟨s'.trans s1, ?_⟩⟩
    rw [List.take_add_one, List.getElem?_eq_getElem hi]
    exact Al.snoc (al.mono fun _ _ h => h.same s1) ob
  rintro us H1 ⟨s1, al⟩ D hD
  rw [List.take_of_length_le (by omega)] at al
  refine ⟨D, _, rfl, .inl ⟨SqL.of upd_same, fun t ht' => ?_⟩⟩
  have u1 := (same_new hD (.lst us)).trans (same_new ht' (.tup us))
  have t1 := s1.trans u1
  have et : upd (upd H1 D (.lst us)) t (.tup us) t = some (.tup us) := upd_same
  have al1 := al.mono fun _ _ (h : ObjC CK CC H1 _ _) => h.same u1
  generalize upd (upd H1 D (.lst us)) t (.tup us) = H2 at u1 t1 et al1 ⊢
  refine ⟨_, rfl, p, _, _, _, rfl, rfl, t1.tup ht, atI_nat (j := 0) rfl, _, rfl, p, _, _, _, rfl, rfl, t1.tup ht, atI_nat (j := 1) rfl, a, d.wh, l, rfl, ia.same t1, O.wh, O.dp, fun pw H3 s3 o3 => ?_⟩
  refine ⟨_, rfl, fun x dx hx hdx hxd => ⟨x, dx, _, _, _, rfl, upd_same, fun HJ h3 h4 => ⟨rfl, ?_⟩⟩⟩
  have sJ := same_made2 hx hdx hxd h4
  exact q x HJ (t1.trans (s3.trans sJ)) ⟨x, dx, _, t, us, rfl, h3, o3.same sJ, sJ _ _ (s3 _ _ et), al1.mono fun _ _ h => h.same (s3.trans sJ)⟩
/-! ### what the law asks -/
def spOptions (K : PySem.W.Frag) : Sp := fun vs H Q _ => ∃ (vp vd : V) (dv : Addr) (x : Int) (p : Pl) (d : De) (kvs : List (Key × V)) (l : List Str) (vf : Str → Int), vs = [vp, .int x, vd, .ref dv] ∧ Is K H (plD p) vp ∧ Is K H (deD d) vd ∧ H dv = some (.dK kvs) ∧ ValsOk kvs l vf ∧ DeOk l d ∧ PlOk p ∧
  ∀ (q : Addr) (H' : Hp), Same H H' → H q = none → H' q = some (.lst ((optI vf p x d.chs).map V.int)) → Q (.ref q) H'
theorem scOptions : FnScope ["_law_place", "_law_value", "_law_deed_here", "_law_values_here", "_law_change_here", "_law_low", "_law_high"] ["_law_place", "_law_value", "_law_deed_here", "_law_values_here"] (defScope sOptions) := ⟨rfl, rfl, rfl, by decide +kernel, rfl, by decide +kernel, by decide +kernel⟩
theorem nd_scOptions1 : (["_law_place", "_law_value", "_law_deed_here", "_law_values_here", "_law_change_here", "_law_low", "_law_high", "_law_k"] : List Str).Nodup := by decide +kernel
theorem ok_options {f fW : Addr} {fd fdW : FuncData} (B : Bl mg) (F : Fun K "_law_options" "_law_options" sOptions f fd) (FW : Fun K "_law_worth" "_law_worth" sWorth fW fdW) (bW : Binds K fdW ["_law_one", "_law_values_here"] []) (mW : mg "_law_worth" = some (.ref fW)) : FnOk P w K mg base CX0 10 f fd ["_law_place", "_law_value", "_law_deed_here", "_law_values_here"] (spOptions K) := by
  have GW : FnOk P w K mg base CX0 9 fW fdW ["_law_one", "_law_values_here"] (spWorth K 8) := ok_worth B FW bW mW 8
  refine F.ok scOptions (fun vs H Q E h => ?_) (fun cdv A outer s H vs Q E hr h => ?_)
  · obtain ⟨vp, vd, dv, x, p, d, kvs, l, vf, rfl, _⟩ := h
    rfl
  obtain ⟨vp, vd, dv, x, p, d, kvs, l, vf, rfl, ip, id, hd, O, od, op, q⟩ := h
  obtain ⟨pp, rfl, hp⟩ := is_pl ip
  obtain ⟨pd, a, tc, ys, rfl, ht, ia, hc, ic⟩ := is_de id
  have ly : ys.length = d.chs.length := by rw [ic.length, List.length_map]
  refine ⟨_, (@pss_cons _ _ _ _ _ (@ps_for _ _ _ _ _ _ _ _ PassesOwn.never rfl (@pi_tup _ _ _ _ (@pe_ix _ _ _ _ _ _ (rIxT K) ix_tup (pv 2) pe_int (fun _ _ => rfl))) (pg_name (i := 4) scOptions.nd rfl (Or.inl rfl)) (@pss_one _ _ _ (@ps_if _ _ _ _ _ _ _ _ (@pt_cmpR _ _ _ _ _ _ _ _ op_eq (@pe_ix _ _ _ _ _ _ (rIxT K) ix_tup (pv 4) pe_int (fun _ _ => rfl)) (@pe_ix _ _ _ _ _ _ (rIxT K) ix_tup (pv 0) pe_int (fun _ _ => rfl)) (nomark _)) (@pss_cons _ _ _ _ _ (@ps_set _ _ 5 _ _ _ _ scOptions.nd rfl (Or.inr rfl) (pe_call GW hr (by rfl) mW FW.kp bW .nil pass0 (@pa_cons _ _ _ _ _ (@pe_ix _ _ _ _ _ _ (rIxT K) ix_tup (pv 4) pe_int (fun _ _ => rfl)) (@pa_cons _ _ _ _ _ (pv 3) pa_nil (by rfl)) (by rfl))) rfl (Or.inl rfl)) (@pss_cons _ _ _ _ _ (@ps_set _ _ 6 _ _ _ _ scOptions.nd rfl (Or.inr rfl) (pv 5) rfl (Or.inl rfl)) (@pss_cons _ _ _ _ _ (@ps_cut _ _ _ (@ps_if _ _ _ _ _ _ _ _ (@pt_cmpR _ _ _ _ _ _ _ _ op_eq (pe_callB call_len_seq (by rfl) B.len PySem.boot_len (@pa_cons _ _ _ _ _ (pv 4) pa_nil (by rfl))) pe_int (nomark _)) (@pss_one _ _ _ (@ps_set _ _ 6 _ _ _ _ scOptions.nd rfl (Or.inr rfl) (pe_call GW hr (by rfl) mW FW.kp bW .nil pass0 (@pa_cons _ _ _ _ _ (@pe_ix _ _ _ _ _ _ (rIxT K) ix_tup (pv 4) pe_int (fun _ _ => rfl)) (@pa_cons _ _ _ _ _ (pv 3) pa_nil (by rfl)) (by rfl))) rfl (Or.inl rfl))) pss_nil)) (@pss_one _ _ _ (@ps_ret _ _ _ _ (pe_comp (NX := ["_law_place", "_law_value", "_law_deed_here", "_law_values_here", "_law_change_here", "_law_low", "_law_high"]) (N := ["_law_place", "_law_value", "_law_deed_here", "_law_values_here", "_law_change_here", "_law_low", "_law_high", "_law_k"]) (ms := [true, true, true, true, true, true, true, false]) (ks := [7]) (out := defScope sOptions) (by exact ⟨rfl, by decide +kernel, by decide +kernel, by decide +kernel, by decide +kernel, by decide +kernel⟩) rfl rfl rfl (pi_rangeB rfl B.range (@pa_cons _ _ _ _ _ (@pe_ix _ _ _ _ _ _ (rIxT K) ix_tup (pv 0) pe_int (fun _ _ => rfl)) (@pa_cons _ _ _ _ _ (@pe_op _ _ _ _ _ _ _ _ op_add (@pe_ix _ _ _ _ _ _ (rIxT K) ix_tup (pv 0) pe_int (fun _ _ => rfl)) pe_int) pa_nil (by rfl)) (by rfl))) (@sets_name 7) (by decide) (fun C ex s H => (pg_name (i := 7) nd_scOptions1 rfl (Or.inl rfl))) (fun C ex s H => (@pts_one _ _ _ (pt_chain op_le op_le (pv 5) (pv 7) (pv 6)))) (fun C ex s H => (pv 7)))))))) pss_nil)) (by intro _; rfl)) (@pss_one _ _ _ (@ps_ret _ _ _ _ (@pe_lst _ _ _ _ (@pa_cons _ _ _ _ _ (pv 1) pa_nil (by rfl)))))), ?_⟩
  refine ⟨_, rfl, pd, _, _, _, rfl, rfl, ht, atI_nat (j := 2) rfl, tc, rfl, ⟨_, hc⟩, for_tup (xs := ys) (fun i σ H2 => ∃ v1 : Option V, σ = [some (.ref pp), some (.int x), some (.ref pd), some (.ref dv), v1, none, none] ∧ Same H H2 ∧ optI vf p x (d.chs.drop i) = optI vf p x d.chs) ⟨none, rfl, Same.refl H, rfl⟩ (fun i σ H2 _ ⟨_, _, s2, _⟩ => s2.tup hc) ?_ ?_⟩
  · rintro i y σ H2 hy ⟨v1, rfl, s2, e2⟩
    have hi : i < d.chs.length := by rw [← ly]; exact (List.getElem?_eq_some_iff.mp hy).1
    obtain ⟨v, e1, iv⟩ := iss_at ic hi
    rw [hy] at e1
    cases e1
    obtain ⟨o1, o2⟩ := od.ch _ (List.getElem_mem hi)
    rw [optI_drop hi] at e2
    have iv := iv.same s2
    generalize d.chs[i] = g at iv o1 o2 e2
    have hp2 := s2.tup hp
    have hd2 := s2 _ _ hd
    -- the name, the first sum, and what its two ends are
    obtain ⟨r, fs, a1, t, rfl, hg, gn, g1, it, ⟨f1, f2, f3⟩, alt⟩ : ∃ r fs a t, y = .ref r ∧ SqT K H2 r fs ∧ atI fs 0 = some (.str (chN g)) ∧ atI fs 1 = some a ∧ Is K H2 (trD t) a ∧ (Fits l t ∧ lv t ≤ 100 ∧ dp t < 8) ∧ ((fs.length = 2 ∧ rg p.lo p.hi (val vf t) (val vf t) = (chI vf p.lo p.hi g).map V.int) ∨
        (fs.length = 3 ∧ ∃ b u, atI fs 2 = some b ∧ Is K H2 (trD u) b ∧ (Fits l u ∧ lv u ≤ 100 ∧ dp u < 8) ∧ rg p.lo p.hi (val vf t) (val vf u) = (chI vf p.lo p.hi g).map V.int)) := by
      cases g with
      | cha n => exact absurd rfl o2
      | put n t =>
        obtain ⟨r, a, rfl, h1, i1⟩ := is_put iv
        exact ⟨r, _, a, t, rfl, h1, atI_nat (j := 0) rfl, atI_nat (j := 1) rfl, i1, o1, .inl ⟨rfl, rg_put op.c n t⟩⟩
      | any n t u =>
        obtain ⟨r, a, b, rfl, h1, i1, i2⟩ := is_any iv
        exact ⟨r, _, a, t, rfl, h1, atI_nat (j := 0) rfl, atI_nat (j := 1) rfl, i1, o1.1, .inr ⟨rfl, b, u, atI_nat (j := 2) rfl, i2, o1.2, rg_any op.c n t u⟩⟩
    refine ⟨_, rfl, r, _, _, _, rfl, rfl, hg, gn, _, rfl, pp, _, _, _, rfl, rfl, hp2, atI_nat (j := 0) rfl, rfl, _, rfl, ite2 (fun c => ?_) (fun c => ?_)⟩
    · have en : chN g = p.n := V.str.inj (of_decide_eq_true c)
      rw [if_pos en] at e2
      refine ⟨_, rfl, r, _, _, _, rfl, rfl, hg, g1, _, rfl, _, dv, t, kvs, l, vf, rfl, it, hd2, O, f1, f2, f3, fun H3 s3 => ?_⟩
      refine ⟨_, rfl, ?_⟩
      refine ⟨fun σ H4 => ∃ u : Int, σ = [some (.ref pp), some (.int x), some (.ref pd), some (.ref dv), some (.ref r), some (.int (val vf t)), some (.int u)] ∧ Same H H4 ∧ rg p.lo p.hi (val vf t) u = (chI vf p.lo p.hi g).map V.int, ?_, ?_⟩
      · rcases alt with ⟨l2, e3⟩ | ⟨l3, b, u, g2, iu, ⟨h1, h2, h3⟩, e3⟩
        · refine ⟨_, rfl, r, _, rfl, .inr (s3.tup hg), rfl, _, rfl, ite2 (fun c => absurd (of_decide_eq_true c) ?_) (fun _ => ?_)⟩
          · rw [l2]
            intro z
            exact absurd (V.int.inj z) (by decide)
          · exact ⟨_, rfl, s2.trans s3, e3⟩
        · refine ⟨_, rfl, r, _, rfl, .inr (s3.tup hg), rfl, _, rfl, ite2 (fun _ => ?_) (fun c => absurd (decide_eq_true (by rw [l3]; rfl)) c)⟩
          refine ⟨_, rfl, r, _, _, _, rfl, rfl, s3.tup hg, g2, _, rfl, _, dv, u, kvs, l, vf, rfl, iu.same s3, s3 _ _ hd2, O, h1, h2, h3, fun H4 s4 => ?_⟩
          exact ⟨_, rfl, (s2.trans s3).trans s4, e3⟩
      rintro σ H4 ⟨u, rfl, s4, e4⟩
      refine ⟨_, rfl, pp, _, _, _, rfl, rfl, s4.tup hp, atI_nat (j := 1) rfl, _, rfl, pp, _, _, _, rfl, rfl, s4.tup hp, atI_nat (j := 2) rfl, _, _, rfl, rfl, _, _, rfl, comp_range (lo := p.lo) (n := (p.hi + 1 - p.lo).toNat) (fun j zs H' => zs = L2.upTo (if val vf t > p.lo then val vf t else p.lo) (cnt p.lo (val vf t) u (j : Int)) ∧ H' = H4) ⟨by rw [show cnt p.lo (val vf t) u ((0 : Nat) : Int) = 0 from cnt_0 _ _ _]; rfl, rfl⟩ (fun j zs H' hj ⟨e, _⟩ => by rw [e, upTo_len]; exact small1000 (by have h1 := cnt_le p.lo (val vf t) u (j : Int); have h2 := op.d; omega)) ?_ ?_⟩
      · rintro j zs H' hj ⟨rfl, rfl⟩
        refine ⟨_, rfl, _, rfl, _, _, rfl, rfl, _, rfl, ite2 (fun c1 => ⟨_, rfl, _, _, rfl, rfl, _, rfl, ite2 (fun c2 => ⟨_, rfl, ?_, rfl⟩) (fun c2 => ⟨?_, rfl⟩)⟩) (fun c1 => ⟨_, rfl, iteF ⟨?_, rfl⟩⟩)⟩
        · have c1 : val vf t ≤ p.lo + (j : Int) := of_decide_eq_true c1
          have c2 : p.lo + (j : Int) ≤ u := of_decide_eq_true c2
          exact (cnt_in c1 c2).symm
        · have c2 : ¬ p.lo + (j : Int) ≤ u := of_decide_eq_false (Bool.eq_false_iff.mpr c2)
          rw [cnt_out (fun h => c2 h.2)]
        · have c1 : ¬ val vf t ≤ p.lo + (j : Int) := of_decide_eq_false (Bool.eq_false_iff.mpr c1)
          rw [cnt_out (fun h => c1 h.1)]
      rintro zs HK ⟨rfl, rfl⟩ z hz
      refine q z _ (s4.trans (same_new hz _)) (s4.free hz) ?_
      rw [upd_same, ← e2, ← e4]
      rfl
    · have en : ¬ chN g = p.n := fun z => c (decide_eq_true (by rw [z]))
      rw [if_neg en] at e2
      exact ⟨_, rfl, s2, e2⟩
  · rintro σ H2 ⟨v1, rfl, s2, e2⟩
    rw [ly, List.drop_of_length_le (Nat.le_refl _)] at e2
    refine ⟨_, rfl, by show 1 ≤ sizeLine; decide, fun z hz => q z _ (s2.trans (same_new hz _)) (s2.free hz) ?_⟩
    rw [upd_same, ← e2]
    rfl
def spLBehind (K : PySem.W.Frag) : Sp := fun vs H Q _ => ∃ (tp tr : Addr) (vd : V) (ys : List V) (ps : List Pl) (d : De) (rm : List Int), vs = [.ref tp, vd, .ref tr] ∧ SqT K H tp ys ∧ Iss K H (ps.map plD) ys ∧ Is K H (deD d) vd ∧ SqT K H tr (rm.map V.int) ∧ RmOk ps rm ∧ DeOk (ps.map (·.n)) d ∧ (∀ p ∈ ps, PlOk p) ∧
  ∀ (q : Addr) (H' : Hp) (us : List V), Same H H' → H' q = some (.lst us) → Iss K H' ((behR ps d rm).map rmD) us → Q (.ref q) H'
theorem scLBehind : FnScope ["_law_places_here", "_law_deed_here", "_law_room_here", "_law_values_here", "_law_k", "_law_rooms", "_law_more", "_law_one", "_law_value"] ["_law_places_here", "_law_deed_here", "_law_room_here"] (defScope sLBehind) := ⟨rfl, rfl, rfl, by decide +kernel, rfl, by decide +kernel, by decide +kernel⟩
theorem ok_lBehind {f fH fO : Addr} {fd fdH fdO : FuncData} (B : Bl mg) (F : Fun K "_law_behind" "_law_behind" sLBehind f fd) (FH : Fun K "_law_holds" "_law_holds" sHolds fH fdH) (bH : Binds K fdH ["_law_one", "_law_values_here"] []) (mH : mg "_law_holds" = some (.ref fH)) (GH : FnOk P w K mg base CX0 15 fH fdH ["_law_one", "_law_values_here"] (spHolds K 4))
    (FO : Fun K "_law_options" "_law_options" sOptions fO fdO) (bO : Binds K fdO ["_law_place", "_law_value", "_law_deed_here", "_law_values_here"] []) (mO : mg "_law_options" = some (.ref fO)) (GO : FnOk P w K mg base CX0 10 fO fdO ["_law_place", "_law_value", "_law_deed_here", "_law_values_here"] (spOptions K)) : FnOk P w K mg base CX0 16 f fd ["_law_places_here", "_law_deed_here", "_law_room_here"] (spLBehind K) := by
  refine F.ok scLBehind (fun vs H Q E h => ?_) (fun cdv A outer s H vs Q E hr h => ?_)
  · obtain ⟨tp, tr, vd, ys, ps, d, rm, rfl, _⟩ := h
    rfl
  obtain ⟨tp, tr, vd, ys, ps, d, rm, rfl, hp, ip, id, hrm, R, od, op, q⟩ := h
  have hrO : Room 10 _ := hr.mono (by decide)
  have hu1 := hu1_of hr
  have ly : ys.length = ps.length := by rw [ip.length, List.length_map]
  obtain ⟨pd, a, tc, cs, rfl, ht, ia, hc, ic⟩ := is_de id
  refine ⟨_, (@pss_cons _ _ _ _ _ (@ps_set _ _ 3 _ _ _ _ scLBehind.nd rfl (Or.inl rfl) pe_dnewK rfl (Or.inl rfl)) (@pss_cons _ _ _ _ _ (@ps_for _ _ _ _ _ _ _ _ PassesOwn.never rfl (pi_range1 rfl B.range (@pa_cons _ _ _ _ _ (pe_callB call_len_seq (by rfl) B.len PySem.boot_len (@pa_cons _ _ _ _ _ (pv 0) pa_nil (by rfl))) pa_nil (by rfl))) (pg_name (i := 4) scLBehind.nd rfl (Or.inl rfl)) (@pss_one _ _ _ (@ps_dput _ _ _ _ _ _ _ _ _ hu1 (pv 3) (@pe_ix _ _ _ _ _ _ (rIxT K) ix_tup (@pe_ix _ _ _ _ _ _ (rIxT K) ix_tup (pv 0) (pv 4) (fun _ _ => rfl)) pe_int (fun _ _ => rfl)) (@pe_ix _ _ _ _ _ _ (rIxT K) ix_tup (pv 2) (pv 4) (fun _ _ => rfl)) rfl)) (by intro _; rfl)) (@pss_cons _ _ _ _ _ (@ps_if _ _ _ _ _ _ _ _ (@pt_not _ _ _ _ (pt_val (pe_call GH hr (by rfl) mH FH.kp bH .nil pass0 (@pa_cons _ _ _ _ _ (@pe_ix _ _ _ _ _ _ (rIxT K) ix_tup (pv 1) pe_int (fun _ _ => rfl)) (@pa_cons _ _ _ _ _ (pv 3) pa_nil (by rfl)) (by rfl))))) (@pss_one _ _ _ (@ps_ret _ _ _ _ (@pe_lst _ _ _ _ pa_nil))) pss_nil) (@pss_cons _ _ _ _ _ (@ps_set _ _ 5 _ _ _ _ scLBehind.nd rfl (Or.inl rfl) (@pe_lst _ _ _ _ (@pa_cons _ _ _ _ _ (@pe_tup _ _ _ _ _ pa_nil) pa_nil (by rfl))) rfl (Or.inl rfl)) (@pss_cons _ _ _ _ _ (@ps_for _ _ _ _ _ _ _ _ PassesOwn.never rfl (pi_range1 rfl B.range (@pa_cons _ _ _ _ _ (pe_callB call_len_seq (by rfl) B.len PySem.boot_len (@pa_cons _ _ _ _ _ (pv 0) pa_nil (by rfl))) pa_nil (by rfl))) (pg_name (i := 4) scLBehind.nd rfl (Or.inl rfl)) (@pss_cons _ _ _ _ _ (@ps_set _ _ 6 _ _ _ _ scLBehind.nd rfl (Or.inl rfl) (@pe_lst _ _ _ _ pa_nil) rfl (Or.inl rfl)) (@pss_cons _ _ _ _ _ (@ps_for _ _ _ _ _ _ _ _ PassesOwn.never rfl (@pi_list _ _ _ _ (pv 5)) (pg_name (i := 7) scLBehind.nd rfl (Or.inl rfl)) (@pss_one _ _ _ (@ps_for _ _ _ _ _ _ _ _ PassesOwn.never rfl (@pi_list _ _ _ _ (pe_call GO hrO (by rfl) mO FO.kp bO .nil pass0 (@pa_cons _ _ _ _ _ (@pe_ix _ _ _ _ _ _ (rIxT K) ix_tup (pv 0) (pv 4) (fun _ _ => rfl)) (@pa_cons _ _ _ _ _ (@pe_ix _ _ _ _ _ _ (rIxT K) ix_tup (pv 2) (pv 4) (fun _ _ => rfl)) (@pa_cons _ _ _ _ _ (pv 1) (@pa_cons _ _ _ _ _ (pv 3) pa_nil (by rfl)) (by rfl)) (by rfl)) (by rfl)))) (pg_name (i := 8) scLBehind.nd rfl (Or.inl rfl)) (@pss_one _ _ _ (@ps_expr _ _ _ _ (pe_bm PySem.F.plainAttrs_list PySem.F.slot_list_append PySem.F.type_list_append mt_append (pv 6) (@pa_cons _ _ _ _ _ (@pe_op _ _ _ _ _ _ _ _ op_catTA (pv 7) (@pe_tup _ _ _ _ _ (@pa_cons _ _ _ _ _ (pv 8) pa_nil (by rfl)))) pa_nil (by rfl))) (by rfl))) (by intro _; rfl))) (by intro _; rfl)) (@pss_one _ _ _ (@ps_set _ _ 5 _ _ _ _ scLBehind.nd rfl (Or.inl rfl) (pv 6) rfl (Or.inl rfl))))) (by intro _; rfl)) (@pss_one _ _ _ (@ps_ret _ _ _ _ (pv 5)))))))), ?_⟩
  refine fun pv hpv => ?_
  have s1 := same_new hpv (.dK [])
  refine ⟨_, rfl, tp, _, rfl, .inr (s1.tup hp), _, rfl, by omega, ?_, ?_⟩
  · have := R.few; omega
  refine for_range (n := ((ys.length : Nat) : Int).toNat) (fun i σ H2 => ∃ v1 : Option V, σ = [some (.ref tp), some (.ref pd), some (.ref tr), some (.ref pv), v1, none, none, none, none] ∧ Same H H2 ∧ H2 pv = some (.dK (kvT ((ps.zip rm).take i)))) ⟨none, rfl, s1, upd_same⟩ ?_ ?_
  · rintro i σ H2 hi ⟨v1, rfl, g1, g2⟩
    have hi : i < ps.length := by omega
    have hir : i < rm.length := by rw [R.len]; exact hi
    have hz : i < (ps.zip rm).length := by rw [R.zlen]; exact hi
    obtain ⟨v, ev, iv⟩ := iss_at ip hi
    obtain ⟨r, rfl, hr'⟩ := is_pl iv
    have hat : atI (rm.map V.int) (0 + (i : Int)) = some (.int rm[i]) := by
      rw [Int.zero_add]
      exact atI_nat (by rw [List.getElem?_map, List.getElem?_eq_getElem hir]; rfl)
    have hap : atI ys (0 + (i : Int)) = some (.ref r) := by
      rw [Int.zero_add]
      exact atI_nat ev
    refine ⟨_, rfl, _, rfl, tr, _, _, _, rfl, rfl, g1.tup hrm, hat, _, rfl, _, rfl, _, rfl, tp, _, _, _, rfl, rfl, g1.tup hp, hap, r, _, _, _, rfl, rfl, g1.tup hr', atI_nat (j := 0) rfl, pv, _, rfl, DPut.k (k := .inr ps[i].n) g2 (small1000 (by have h1 := (fil_take R.zs i (Nat.le_of_lt hz)).len; have h2 := R.few; omega)), ?_⟩
    refine ⟨_, rfl, same_put g1 hpv _, ?_⟩
    rw [upd_same, kvT_take hz, List.getElem_zip]
  rintro σ H2 ⟨v1, rfl, g1, g2⟩
  rw [List.take_of_length_le (by rw [R.zlen]; omega)] at g2
  have O := R.vals
  refine ⟨_, rfl, pd, _, _, _, rfl, rfl, g1.tup ht, atI_nat (j := 1) rfl, _, rfl, a, pv, d.wh, _, _, _, rfl, ia.same g1, g2, O, od.wh, od.dp, fun H3 s3 => ⟨_, rfl, ?_⟩⟩
  have t3 := g1.trans s3
  have d3 := s3 _ _ g2
  have eb : behR ps d rm = if hol (vfOf (kvT (ps.zip rm))) d.wh = true then prodP (optsR ps d rm) else [] := rfl
  have el : optsR ps d rm = (ps.zip rm).map fun z => optI (vfOf (kvT (ps.zip rm))) z.1 z.2 d.chs := rfl
  have l6 : ∀ l ∈ optsR ps d rm, l.length ≤ 6 := by
    intro l hl
    rw [el] at hl
    obtain ⟨z, hz, rfl⟩ := List.mem_map.mp hl
    exact optI_len _ (op _ (List.of_mem_zip hz).1) _ _
  have ll : (optsR ps d rm).length = ps.length := by rw [el, List.length_map, R.zlen]
  have lat : ∀ i (h : i < ps.length) (h' : i < rm.length) (h'' : i < (optsR ps d rm).length), (optsR ps d rm)[i] = optI (vfOf (kvT (ps.zip rm))) ps[i] rm[i] d.chs := by
    intro i h h' h''
    simp only [el, List.getElem_map, List.getElem_zip]
  generalize optsR ps d rm = L at eb l6 ll lat
  generalize vfOf (kvT (ps.zip rm)) = vf at O eb lat ⊢
  cases hh : hol vf d.wh with
  | false =>
    rw [hh] at eb
    refine iteT ⟨Nat.zero_le _, fun z hz => q z _ [] (t3.trans (same_new hz _)) upd_same ?_⟩
    rw [eb]
    exact .nil
  | true =>
    rw [hh] at eb
    have eb : behR ps d rm = prodP L := eb
    refine iteF ⟨Nat.zero_le _, fun e he => ⟨by show 1 ≤ sizeLine; decide, fun pr hpr => ?_⟩⟩
    have s4 := (same_new he (.tup [])).trans (same_new hpr (.lst [.ref e]))
    have t4 := t3.trans s4
    have e4 : upd (upd H3 e (.tup [])) pr (.lst [.ref e]) pr = some (.lst [.ref e]) := upd_same
    have ie : Is K (upd (upd H3 e (.tup [])) pr (.lst [.ref e])) (rmD []) (.ref e) := rm_is ((same_new hpr _).tup (SqT.of upd_same))
    have d4 := s4 _ _ d3
    generalize upd (upd H3 e (.tup [])) pr (.lst [.ref e]) = H4 at s4 t4 e4 ie d4 ⊢
    refine ⟨_, rfl, tp, _, rfl, .inr (t4.tup hp), _, rfl, by omega, ?_, ?_⟩
    · have := R.few; omega
    refine for_range (n := ((ys.length : Nat) : Int).toNat) (fun i σ H5 => ∃ (v1 v2 v3 v4 : Option V) (pr : Addr) (us : List V), σ = [some (.ref tp), some (.ref pd), some (.ref tr), some (.ref pv), v1, some (.ref pr), v2, v3, v4] ∧ Same H4 H5 ∧ H5 pr = some (.lst us) ∧ Iss K H5 ((prodP (L.take i)).map rmD) us) ⟨_, none, none, none, pr, _, rfl, Same.refl _, e4, .cons ie .nil⟩ ?_ ?_
    · rintro i σ H5 hi ⟨v1, v2, v3, v4, pr, us, rfl, g1, g2, g3⟩
      have few := R.few
      have hi : i < ps.length := by omega
      have hir : i < rm.length := by rw [R.len]; exact hi
      have hiL : i < L.length := by omega
      have cap : 6 ^ (i + 1) ≤ 1296 := by
        have : i = 0 ∨ i = 1 ∨ i = 2 ∨ i = 3 := by omega
        rcases this with rfl | rfl | rfl | rfl <;> decide
      have cnt1 := prodP_len l6 (i + 1) hiL
      rw [prodP_take hiL] at cnt1
      have each := prodP_each (ls := L) i (Nat.le_of_lt hiL)
      generalize hRR : prodP (L.take i) = RR at g3 cnt1 each
      have elat := lat i hi hir hiL
      generalize hCC : L[i] = cc at cnt1 elat
      have lus : us.length = RR.length := by rw [g3.length, List.length_map]
      have t5 := t4.trans g1
      obtain ⟨v, ev, iv⟩ := iss_at ip hi
      have hat : atI (rm.map V.int) (0 + (i : Int)) = some (.int rm[i]) := by
        rw [Int.zero_add]
        exact atI_nat (by rw [List.getElem?_map, List.getElem?_eq_getElem hir]; rfl)
      have hap : atI ys (0 + (i : Int)) = some v := by
        rw [Int.zero_add]
        exact atI_nat ev
      refine ⟨Nat.zero_le _, fun pm hpm => ?_⟩
      have s6 := same_new hpm (.lst [])
      refine ⟨_, rfl, pr, rfl, ⟨_, SqL.of (s6 _ _ g2)⟩, for_list (xs := us) (fun j σ H7 => ∃ (v3 v4 : Option V) (ms : List V), σ = [some (.ref tp), some (.ref pd), some (.ref tr), some (.ref pv), some (.int (0 + (i : Int))), some (.ref pr), some (.ref pm), v3, v4] ∧ Same H5 H7 ∧ H7 pm = some (.lst ms) ∧ Iss K H7 ((stepP (RR.take j) cc).map rmD) ms) ⟨_, _, [], rfl, s6, upd_same, .nil⟩ (fun j σ H7 _ ⟨_, _, _, _, s7, _⟩ => SqL.of (s7 _ _ g2)) ?_ ?_⟩
      · rintro j y σ H7 hy ⟨v3, v4, ms, rfl, h1, h2, h3⟩
        have hj : j < RR.length := by rw [← lus]; exact (List.getElem?_eq_some_iff.mp hy).1
        obtain ⟨y', ey, iy⟩ := iss_at g3 hj
        rw [hy] at ey
        cases ey
        obtain ⟨py, rfl, hpy⟩ := is_rm iy
        have lj : RR[j].length = i := each _ (List.getElem_mem hj)
        have t7 := t5.trans h1
        have cj : (stepP (RR.take (j + 1)) cc).length ≤ 1296 := by
          have c1 := stepP_len (cs := cc) (by rw [← hCC]; exact l6 _ (List.getElem_mem hiL)) (RR.take (j + 1))
          rw [List.length_take] at c1
          have c2 := prodP_len l6 i (Nat.le_of_lt hiL)
          rw [hRR] at c2
          rw [Nat.pow_succ] at cap
          omega
        rw [stepP_take hj, List.length_append, List.length_map] at cj
        refine ⟨_, rfl, _, rfl, tp, _, _, _, rfl, rfl, t7.tup hp, hap, _, rfl, _, rfl, tr, _, _, _, rfl, rfl, t7.tup hrm, hat, _, rfl, _, rfl, v, _, pv, rm[i], ps[i], d, _, _, vf, rfl, iv.same t7, id.same t7, (g1.trans h1) _ _ d4, O, od, op _ (List.getElem_mem hi), fun po H8 s8 npo e8 => ?_⟩
        rw [← elat] at e8
        have k2 := s8 _ _ h2
        have pom : po ≠ pm := fun z => by rw [z, h2] at npo; cases npo
        refine ⟨po, rfl, ⟨_, SqL.of e8⟩, for_list (xs := cc.map V.int) (fun k σ H9 => ∃ (v4 : Option V) (ms : List V), σ = [some (.ref tp), some (.ref pd), some (.ref tr), some (.ref pv), some (.int (0 + (i : Int))), some (.ref pr), some (.ref pm), some (.ref py), v4] ∧ Same H5 H9 ∧ H9 pm = some (.lst ms) ∧ H9 po = some (.lst (cc.map V.int)) ∧ Iss K H9 ((stepP (RR.take j) cc ++ (cc.take k).map fun c => RR[j] ++ [c]).map rmD) ms) ⟨_, ms, rfl, h1.trans s8, k2, e8, by rw [List.take_zero, List.map_nil, List.append_nil]; exact h3.same s8⟩ (fun k σ H9 _ ⟨_, _, _, _, _, e9, _⟩ => SqL.of e9) ?_ ?_⟩
        · rintro k x σ H9 hx ⟨v4, ms, rfl, m1, m2, m3, m4⟩
          have hk : k < cc.length := by have := (List.getElem?_eq_some_iff.mp hx).1; rw [List.length_map] at this; exact this
          rw [List.getElem?_map, List.getElem?_eq_getElem hk] at hx
          cases hx
          have lms : ms.length ≤ 1296 := by
            rw [m4.length, List.length_map, List.length_append, List.length_map, List.length_take]
            omega
          refine ⟨_, rfl, .inl ⟨rfl, _, SqL.of m2⟩, _, rfl, _, rfl, by show 1 ≤ sizeLine; decide, fun t1 ht1 => ?_⟩
          have n1 := same_new ht1 (.tup [V.int cc[k]])
          refine ⟨py, t1, _, _, rfl, rfl, n1.tup (m1.tup hpy), SqT.of upd_same, ?_, fun p2 HA sA qA => ?_⟩
          · rw [List.length_map, lj]
            exact Nat.le_of_lt (small1000 (by show i + 1 ≤ 1000; omega))
          have nA := n1.trans sA
          refine ⟨pm, _, _, rfl, rfl, nA _ _ m2, Nat.lt_of_le_of_lt lms (by decide), ?_⟩
          have nm5 : H5 pm = none := hpm
          have iN : Is K HA (rmD (RR[j] ++ [cc[k]])) (.ref p2) := rm_is (by rw [List.map_append]; exact qA)
          refine ⟨_, _, rfl, same_put (m1.trans nA) nm5 _, upd_same, by rw [upd_ne pom]; exact nA _ _ m3, ?_⟩
          have := app_data rm_only (nA _ _ m2) (m4.same nA) iN
          rw [snoc_take (stepP (RR.take j) cc) cc (fun c => RR[j] ++ [c]) hk]
          exact this
        · rintro σ H9 ⟨v4, ms, rfl, m1, m2, m3, m4⟩
          rw [List.length_map, List.take_of_length_le (Nat.le_refl _), ← stepP_take hj] at m4
          exact ⟨_, _, ms, rfl, m1, m2, m4⟩
      · rintro σ H7 ⟨v3, v4, ms, rfl, h1, h2, h3⟩
        rw [lus, List.take_of_length_le (Nat.le_refl _)] at h3
        refine ⟨_, rfl, _, _, _, _, pm, ms, rfl, g1.trans h1, h2, ?_⟩
        rw [prodP_take hiL, hRR, hCC]
        exact h3
    · rintro σ H5 ⟨v1, v2, v3, v4, pr, us, rfl, g1, g2, g3⟩
      rw [List.take_of_length_le (by omega), ← eb] at g3
      exact ⟨_, rfl, q pr H5 us (t4.trans g1) g2 g3⟩
/-! ### a drawn room -/
def spRoom (K : PySem.W.Frag) : Sp := fun vs H Q _ => ∃ (tp : Addr) (c : Int) (ys : List V) (ps : List Pl), vs = [.ref tp, .int c] ∧ SqT K H tp ys ∧ Iss K H (ps.map plD) ys ∧ ps.length ≤ 4 ∧ (∀ p ∈ ps, PlOk p) ∧ ∀ (q : Addr) (H' : Hp) (rm : List Int), Same H H' → H' q = some (.tup (rm.map V.int)) → RmOk ps rm → Q (.ref q) H'
theorem scRoom : FnScope ["_law_places_here", "_law_cell", "_law_state"] ["_law_places_here", "_law_cell"] (defScope sRoom) := ⟨rfl, rfl, rfl, by decide +kernel, rfl, by decide +kernel, by decide +kernel⟩
theorem nd_scRoom1 : (["_law_places_here", "_law_cell", "_law_state", "_law_name", "_law_low", "_law_high", "_law_start"] : List Str).Nodup := by decide +kernel
theorem ok_room {f fB fD : Addr} {fd fdB fdD : FuncData} (B : Bl mg) (F : Fun K "_law_room" "_law_room" sRoom f fd) (FB : Fun K "_law_begin" "_law_begin" sBegin fB fdB) (bB : Binds K fdB ["_law_cell"] []) (mB : mg "_law_begin" = some (.ref fB)) (FD : Fun K "_law_draw" "_law_draw" sDraw fD fdD) (bD : Binds K fdD ["_law_state", "_law_many"] []) (mD : mg "_law_draw" = some (.ref fD)) : FnOk P w K mg base CX0 2 f fd ["_law_places_here", "_law_cell"] (spRoom K) := by
  have GB : FnOk P w K mg base CX0 1 fB fdB ["_law_cell"] spBegin := ok_begin FB
  have GD : FnOk P w K mg base CX0 1 fD fdD ["_law_state", "_law_many"] spDraw := ok_draw FD
  refine F.ok scRoom (fun vs H Q E h => ?_) (fun cdv A outer s H vs Q E hrA h => ?_)
  · obtain ⟨tp, c, ys, ps, rfl, _⟩ := h
    rfl
  obtain ⟨tp, c, ys, ps, rfl, hp, ip, few, op, q⟩ := h
  have ly : ys.length = ps.length := by rw [ip.length, List.length_map]
  refine ⟨_, (@pss_cons _ _ _ _ _ (@ps_set _ _ 2 _ _ _ _ scRoom.nd rfl (Or.inr rfl) (pe_call GB hrA (by rfl) mB FB.kp bB .nil pass0 (@pa_cons _ _ _ _ _ (pv 1) pa_nil (by rfl))) rfl (Or.inl rfl)) (@pss_one _ _ _ (@ps_ret _ _ _ _ (pe_callTy call_tuple_of (by rfl) B.tuple PyProof.Rows.boot_tuple (@pa_cons _ _ _ _ _ (pe_comp (NX := ["_law_places_here", "_law_cell", "_law_state"]) (N := ["_law_places_here", "_law_cell", "_law_state", "_law_name", "_law_low", "_law_high", "_law_start"]) (ms := [true, true, true, false, false, false, false]) (ks := [3, 4, 5, 6]) (out := defScope sRoom) (by exact ⟨rfl, by decide +kernel, by decide +kernel, by decide +kernel, by decide +kernel, by decide +kernel⟩) rfl rfl rfl (@pi_tup _ _ _ _ (pv 0)) (@sets_tup _ _ _ _ (@sets_cons _ _ _ _ (@sets_name 3) (@sets_cons _ _ _ _ (@sets_name 4) (@sets_cons _ _ _ _ (@sets_name 5) (@sets_cons _ _ _ _ (@sets_name 6) sets_nil))))) (by decide) (fun C ex s H => (pg_tup (n := 4) rfl (pgs_cons (pg_name (i := 3) nd_scRoom1 rfl (Or.inl rfl)) (pgs_cons (pg_name (i := 4) nd_scRoom1 rfl (Or.inl rfl)) (pgs_cons (pg_name (i := 5) nd_scRoom1 rfl (Or.inl rfl)) (pgs_cons (pg_name (i := 6) nd_scRoom1 rfl (Or.inl rfl)) pgs_nil)))))) (fun C ex s H => pts_nil) (fun C ex s H => (@pe_op _ _ _ _ _ _ _ _ op_add (pv 4) (pe_call GD hrA (by rfl) mD FD.kp bD .nil pass0 (@pa_cons _ _ _ _ _ (pv 2) (@pa_cons _ _ _ _ _ (@pe_op _ _ _ _ _ _ _ _ op_add (@pe_op _ _ _ _ _ _ _ _ op_sub (pv 5) (pv 4)) pe_int) pa_nil (by rfl)) (by rfl)))))) pa_nil (by rfl)))))), ?_⟩
  refine ⟨_, rfl, c, rfl, fun a ha => ?_⟩
  refine ⟨_, rfl, tp, rfl, ⟨_, (same_new ha _).tup hp⟩, comp_tup (xs := ys) (fun i us H' => ∃ (z : Int) (rm : List Int), us = rm.map V.int ∧ rm.length = i ∧ (∀ r ∈ rm, r.natAbs < 1000) ∧ H' = upd H a (.lst [.int z, .int (c % 2)])) ⟨_, [], rfl, rfl, (fun _ h => nomatch h), rfl⟩ (fun i us H' _ ⟨_, _, _, _, _, e⟩ => by rw [e]; exact (same_new ha _).tup hp) (fun i us H' _ ⟨_, _, e, e2, _⟩ => by rw [e, List.length_map, e2]; exact small1000 (by omega)) ?_ ?_⟩
  · rintro i x us H' hx ⟨z, rm, rfl, e2, e3, rfl⟩
    have hi : i < ps.length := by rw [← ly]; exact (List.getElem?_eq_some_iff.mp hx).1
    obtain ⟨v, e1, iv⟩ := iss_at ip hi
    rw [hx] at e1
    cases e1
    obtain ⟨r, rfl, hr⟩ := is_pl iv
    have o := op _ (List.getElem_mem hi)
    have oa := o.a
    have ob := o.b
    have oc := o.c
    have odd := o.d
    refine ⟨r, _, rfl, (same_new ha _).tup hr, rfl, _, _, rfl, _, _, rfl, _, _, rfl, _, _, rfl, rfl, ?_⟩
    refine ⟨_, rfl, _, rfl, _, rfl, _, rfl, _, _, rfl, rfl, _, _, rfl, rfl, a, _, _, _, rfl, upd_same, by omega, by omega, fun y z2 y0 y1 => ⟨_, _, rfl, rfl, ?_⟩⟩
    rw [upd_upd]
    refine ⟨z2, rm ++ [ps[i].lo + y], by rw [List.map_append]; rfl, by rw [List.length_append, e2]; rfl, fun r hr => ?_, rfl⟩
    rcases List.mem_append.mp hr with h | h
    · exact e3 r h
    · rw [List.mem_singleton.mp h]
      omega
  rintro us H' ⟨z, rm, rfl, e2, e3, rfl⟩ D hD
  refine ⟨D, _, rfl, .inl ⟨SqL.of upd_same, fun t ht => ?_⟩⟩
  exact q t _ rm ((same_new ha _).trans ((same_new hD _).trans (same_new ht _))) upd_same ⟨by rw [e2, ly], few, e3⟩
end
end Nw

set_option Elab.async false
set_option linter.all false
set_option maxRecDepth 100000
set_option maxHeartbeats 4000000
namespace Nw
open PySem L2
/-! ### rules that name K, for comprehensions -/
def rCatTA (K : PySem.W.Frag) : R2 := fun x y H Q => ∃ a b xs ys, x = .ref a ∧ y = .ref b ∧ SqT K H a xs ∧ SqT K H b ys ∧ xs.length + ys.length ≤ sizeLine ∧ ∀ p H', Same H H' → SqT K H' p (xs ++ ys) → Q (.ref p) H'
theorem pe_fldK {X : Cx} {K : PySem.W.Frag} {e : Expr} {f : Str} {pos : Pos} {ta : TE} (hK : X.K = K) (he : PE X e ta) (hb : attributeBase e f X.env (eval e X.env) = eval e X.env) : PE X (.Attribute e f pos) (tFld K ta f) := hK ▸ pe_fld he hb
/-! ### a machine as an object -/
def macF (p k d : V) : List (Str × V) := putF "deeds" d (putF "keeps" k (putF "places" p []))
theorem mac_p (p k d : V) : (macF p k d).lookup ("places" : Str) = some p := by unfold macF; rw [lookup_putF, if_neg (by decide +kernel), lookup_putF, if_neg (by decide +kernel), lookup_putF, if_pos rfl]
theorem mac_k (p k d : V) : (macF p k d).lookup ("keeps" : Str) = some k := by unfold macF; rw [lookup_putF, if_neg (by decide +kernel), lookup_putF, if_pos rfl]
theorem mac_d (p k d : V) : (macF p k d).lookup ("deeds" : Str) = some d := by unfold macF; rw [lookup_putF, if_pos rfl]
theorem mac_no {x : Str} (p k d : V) (h1 : x ≠ "deeds") (h2 : x ≠ "keeps") (h3 : x ≠ "places") : (macF p k d).lookup x = none := by unfold macF; rw [lookup_putF, if_neg h1, lookup_putF, if_neg h2, lookup_putF, if_neg h3]; rfl
structure ClsM (K : PySem.W.Frag) (CM : Addr) : Prop where
  cl : Cls K CM
  n1 : NoAttr K CM "places"
  n2 : NoAttr K CM "keeps"
  n3 : NoAttr K CM "deeds"
structure ObjM (K : PySem.W.Frag) (CK : Kd → Addr) (CC : Kc → Addr) (CY : Ks → Addr) (CD CM : Addr) (H : Hp) (ps : List Pl) (ds : List De) (m dx tp td : Addr) (vk : V) (ys us : List V) : Prop where
  at_ : H m = some (.ins CM dx (macF (.ref tp) vk (.ref td)))
  hp : SqT K H tp ys
  ip : Iss K H (ps.map plD) ys
  hd : H td = some (.tup us)
  al : Al (ObjD CK CC CY CD H) ds us
theorem ObjM.same {K : PySem.W.Frag} {CK : Kd → Addr} {CC : Kc → Addr} {CY : Ks → Addr} {CD CM : Addr} {H H' : Hp} {ps : List Pl} {ds : List De} {m dx tp td : Addr} {vk : V} {ys us : List V} (s : Same H H') (M : ObjM K CK CC CY CD CM H ps ds m dx tp td vk ys us) : ObjM K CK CC CY CD CM H' ps ds m dx tp td vk ys us :=
  ⟨s _ _ M.at_, s.tup M.hp, M.ip.same s, s _ _ M.hd, M.al.mono fun _ _ h => h.same s⟩
def behM (ps : List Pl) (rm : List Int) (nm : Str) : List De → List (List Int)
  | [] => []
  | d :: ds => if d.nm = nm then behR ps d rm else behM ps rm nm ds
theorem behM_drop {ps : List Pl} {rm : List Int} {nm : Str} {ds : List De} {i : Nat} (h : i < ds.length) : behM ps rm nm (ds.drop i) = if ds[i].nm = nm then behR ps ds[i] rm else behM ps rm nm (ds.drop (i + 1)) := by
  rw [List.drop_eq_getElem_cons h, behM]
theorem behM_no {ps : List Pl} {rm : List Int} {nm : Str} : ∀ {ds : List De}, (∀ d ∈ ds, d.nm ≠ nm) → behM ps rm nm ds = []
  | [], _ => rfl
  | d :: ds, h => by
    rw [behM, if_neg (h d (List.mem_cons_self ..))]
    exact behM_no fun e he => h e (List.mem_cons_of_mem _ he)
theorem behM_yes {ps : List Pl} {rm : List Int} : ∀ {ds : List De}, (ds.map (·.nm)).Nodup → ∀ {d : De}, d ∈ ds → behM ps rm d.nm ds = behR ps d rm
  | [], _, d, h => nomatch h
  | e :: ds, hn, d, h => by
    rw [List.map_cons, List.nodup_cons] at hn
    rw [behM]
    rcases List.mem_cons.mp h with z | z
    · rw [z, if_pos rfl]
    · rw [if_neg (fun q => hn.1 (by rw [q]; exact List.mem_map.mpr ⟨d, z, rfl⟩))]
      exact behM_yes hn.2 z
section
variable {P : Program} {w : World} {K : PySem.W.Frag} {mg : Str → Option Value} {base : Heap} {CK : Kd → Addr} {CC : Kc → Addr} {CY : Ks → Addr} {CD CM : Addr}
def spMacI (C : Addr) : Sp := fun vs H Q _ => ∃ (x dx : Addr) (n o u : V), vs = [.ref x, n, o, u] ∧ H x = some (.ins C dx []) ∧ ∀ H', H' x = some (.ins C dx (macF n o u)) → (∀ b, b ≠ x → H' b = H b) → Q .non H'
theorem scMacI : FnScope ["self", "places", "keeps", "deeds"] ["self", "places", "keeps", "deeds"] (defScope sMacI) := ⟨rfl, rfl, rfl, by decide +kernel, rfl, by decide +kernel, by decide +kernel⟩
theorem ok_macI {f : Addr} {fd : FuncData} (c : ClsM K CM) (F : Fun K "__init__" "Machine.__init__" sMacI f fd) : FnOk P w K mg base CX0 1 f fd ["self", "places", "keeps", "deeds"] (spMacI CM) := by
  refine F.ok scMacI (fun vs H Q E h => ?_) (fun cdv A outer s H vs Q E hr h => ?_)
  · obtain ⟨x, dx, n, o, u, rfl, _⟩ := h
    rfl
  obtain ⟨x, dx, n, o, u, rfl, hx, q⟩ := h
  refine ⟨_, (@pss_cons _ _ _ _ _ (@ps_fld _ _ _ _ _ _ _ _ (pv 0) (pv 1) rfl) (@pss_cons _ _ _ _ _ (@ps_fld _ _ _ _ _ _ _ _ (pv 0) (pv 2) rfl) (@pss_one _ _ _ (@ps_fld _ _ _ _ _ _ _ _ (pv 0) (pv 3) rfl)))), ?_⟩
  refine ⟨_, rfl, _, rfl, x, _, dx, _, rfl, hx, c.cl, c.n1, (by show 0 < 1000; decide), ?_⟩
  refine ⟨_, rfl, _, rfl, x, _, dx, _, rfl, upd_same, c.cl, c.n2, Nat.lt_of_le_of_lt (length_putF _ _ _) (by show 1 < 1000; decide), ?_⟩
  refine ⟨_, rfl, _, rfl, x, _, dx, _, rfl, upd_same, c.cl, c.n3, Nat.lt_of_le_of_lt (length_putF _ _ _) (Nat.lt_of_le_of_lt (Nat.succ_le_succ (length_putF _ _ _)) (by show 2 < 1000; decide)), ?_⟩
  exact q _ upd_same fun b hb => by rw [upd_ne hb, upd_ne hb, upd_ne hb]
/-! ### what may be chosen for a place -/
def spChoicesOf (K : PySem.W.Frag) (CK : Kd → Addr) (CC : Kc → Addr) : Sp := fun vs H Q _ => ∃ (vp : V) (tc dv : Addr) (x : Int) (p : Pl) (cs : List Ch) (us : List V) (kvs : List (Key × V)) (l : List Str) (vf : Str → Int), vs = [vp, .int x, .ref tc, .ref dv] ∧ Is K H (plD p) vp ∧ H tc = some (.tup us) ∧ Al (ObjC CK CC H) cs us ∧ H dv = some (.dK kvs) ∧ ValsOk kvs l vf ∧ (∀ c ∈ cs, FitsC l 8 c) ∧ PlOk p ∧
  ∀ (q : Addr) (H' : Hp), Same H H' → H q = none → H' q = some (.lst ((optI vf p x cs).map V.int)) → Q (.ref q) H'
theorem scChoicesOf : FnScope ["place", "value", "changes", "values", "change"] ["place", "value", "changes", "values"] (defScope sChoicesOf) := ⟨rfl, rfl, rfl, by decide +kernel, rfl, by decide +kernel, by decide +kernel⟩
theorem ok_choicesOf {f : Addr} {fd : FuncData} (c : ClsC K CC) (F : Fun K "choices_of" "choices_of" sChoicesOf f fd) (MC : ∀ k, MOk P w K mg base 10 (CC k) "choices" (spC CK CC 8 k)) : FnOk P w K mg base CX0 11 f fd ["place", "value", "changes", "values"] (spChoicesOf K CK CC) := by
  refine F.ok scChoicesOf (fun vs H Q E h => ?_) (fun cdv A outer s H vs Q E hr h => ?_)
  · obtain ⟨vp, tc, dv, x, p, cs, us, kvs, l, vf, rfl, _⟩ := h
    rfl
  obtain ⟨vp, tc, dv, x, p, cs, us, kvs, l, vf, rfl, ip, hc, al, hd, O, fc, op, q⟩ := h
  obtain ⟨pp, rfl, hp⟩ := is_pl ip
  refine ⟨_, (@pss_cons _ _ _ _ _ (@ps_for _ _ _ _ _ _ _ _ PassesOwn.never rfl (@pi_tup _ _ _ _ (pv 2)) (pg_name (i := 4) scChoicesOf.nd rfl (Or.inl rfl)) (@pss_one _ _ _ (@ps_if _ _ _ _ _ _ _ _ (@pt_cmpR _ _ _ _ _ _ _ _ op_eq (@pe_fld _ _ _ _ _ (pv 4) rfl) (@pe_ix _ _ _ _ _ _ (rIxT K) ix_tup (pv 0) pe_int (fun _ _ => rfl)) (nomark _)) (@pss_one _ _ _ (@ps_ret _ _ _ _ (pe_methP (pv 4) hr (@pa_cons _ _ _ _ _ (pv 3) (@pa_cons _ _ _ _ _ (@pe_ix _ _ _ _ _ _ (rIxT K) ix_tup (pv 0) pe_int (fun _ _ => rfl)) (@pa_cons _ _ _ _ _ (@pe_ix _ _ _ _ _ _ (rIxT K) ix_tup (pv 0) pe_int (fun _ _ => rfl)) pa_nil (by rfl)) (by rfl)) (by rfl))))) pss_nil)) (by intro _; rfl)) (@pss_one _ _ _ (@ps_ret _ _ _ _ (@pe_lst _ _ _ _ (@pa_cons _ _ _ _ _ (pv 1) pa_nil (by rfl)))))), ?_⟩
  refine ⟨_, rfl, tc, rfl, ⟨_, SqT.of hc⟩, for_tup (xs := us) (fun i σ H2 => ∃ v1 : Option V, σ = [some (.ref pp), some (.int x), some (.ref tc), some (.ref dv), v1] ∧ H2 = H ∧ optI vf p x (cs.drop i) = optI vf p x cs) ⟨none, rfl, rfl, rfl⟩ (fun i σ H2 _ ⟨_, _, e, _⟩ => by rw [e]; exact SqT.of hc) ?_ ?_⟩
  · rintro i y σ H2 hy ⟨v1, rfl, rfl, e2⟩
    obtain ⟨g, eg, ob⟩ := al.get hy
    obtain ⟨hi, eg'⟩ := List.getElem?_eq_some_iff.mp eg
    rw [optI_drop hi, eg'] at e2
    obtain ⟨py, dx, fs, rfl, at1, lc, lnm⟩ := ob.at_
    refine ⟨_, rfl, py, _, dx, _, _, rfl, at1, c.cl _, c.nm _, lnm, _, rfl, pp, _, _, _, rfl, rfl, hp, atI_nat (j := 0) rfl, rfl, _, rfl, ite2 (fun c1 => ?_) (fun c1 => ?_)⟩
    · have en : chN g = p.n := V.str.inj (of_decide_eq_true c1)
      rw [if_pos en] at e2
      refine ⟨_, rfl, py, _, dx, fs, _, rfl, at1, lc, MC _, _, rfl, _, rfl, pp, _, _, _, rfl, rfl, hp, atI_nat (j := 1) rfl, _, rfl, pp, _, _, _, rfl, rfl, hp, atI_nat (j := 2) rfl, _, dv, p.lo, p.hi, g, kvs, l, vf, rfl, rfl, ob, hd, O, fc g (List.mem_of_getElem? eg), by have := op.d; omega, fun z hz => ?_⟩
      refine q z _ (same_new hz _) hz ?_
      rw [upd_same, ← e2, chV_I]
    · have en : ¬ chN g = p.n := fun z => c1 (decide_eq_true (by rw [z]))
      rw [if_neg en] at e2
      exact ⟨_, rfl, rfl, e2⟩
  · rintro σ H2 ⟨v1, rfl, rfl, e2⟩
    rw [← al.len, List.drop_of_length_le (Nat.le_refl _)] at e2
    refine ⟨_, rfl, by show 1 ≤ sizeLine; decide, fun z hz => q z _ (same_new hz _) hz ?_⟩
    rw [upd_same, ← e2]
    rfl
/-! ### rooms by choices -/
def LsH (H : Hp) (cs : List Int) (v : V) : Prop := ∃ p, v = .ref p ∧ H p = some (.lst (cs.map V.int))
theorem LsH.same {H H' : Hp} (s : Same H H') {cs : List Int} {v : V} (h : LsH H cs v) : LsH H' cs v := by
  obtain ⟨p, e, h⟩ := h
  exact ⟨p, e, s _ _ h⟩
def spByChoices (K : PySem.W.Frag) : Sp := fun vs H Q _ => ∃ (a : Addr) (ys : List V) (L : List (List Int)), vs = [.ref a] ∧ H a = some (.lst ys) ∧ Al (LsH H) L ys ∧ (∀ l ∈ L, l.length ≤ 6) ∧ L.length ≤ 4 ∧
  ∀ (q : Addr) (H' : Hp) (us : List V), Same H H' → H q = none → H' q = some (.lst us) → Iss K H' ((prodP L).map rmD) us → Q (.ref q) H'
theorem scByChoices : FnScope ["lists", "rooms", "choices", "longer", "room"] ["lists"] (defScope sByChoices) := ⟨rfl, rfl, rfl, by decide +kernel, rfl, by decide +kernel, by decide +kernel⟩
theorem nd_scByChoices1 : (["lists", "rooms", "choices", "longer", "room", "choice"] : List Str).Nodup := by decide +kernel
theorem ok_byChoices {f : Addr} {fd : FuncData} (F : Fun K "rooms_by_choices" "rooms_by_choices" sByChoices f fd) : FnOk P w K mg base CX0 1 f fd ["lists"] (spByChoices K) := by
  refine F.ok scByChoices (fun vs H Q E h => ?_) (fun cdv A outer s H vs Q E hr h => ?_)
  · obtain ⟨a, ys, L, rfl, _⟩ := h
    rfl
  obtain ⟨a, ys, L, rfl, ha, al, l6, few, q⟩ := h
  refine ⟨_, (@pss_cons _ _ _ _ _ (@ps_set _ _ 1 _ _ _ _ scByChoices.nd rfl (Or.inl rfl) (@pe_lst _ _ _ _ (@pa_cons _ _ _ _ _ (@pe_tup _ _ _ _ _ pa_nil) pa_nil (by rfl))) rfl (Or.inl rfl)) (@pss_cons _ _ _ _ _ (@ps_for _ _ _ _ _ _ _ _ PassesOwn.never rfl (@pi_list _ _ _ _ (pv 0)) (pg_name (i := 2) scByChoices.nd rfl (Or.inl rfl)) (@pss_cons _ _ _ _ _ (@ps_set _ _ 3 _ _ _ _ scByChoices.nd rfl (Or.inl rfl) (@pe_lst _ _ _ _ pa_nil) rfl (Or.inl rfl)) (@pss_cons _ _ _ _ _ (@ps_for _ _ _ _ _ _ _ _ PassesOwn.never rfl (@pi_list _ _ _ _ (pv 1)) (pg_name (i := 4) scByChoices.nd rfl (Or.inr rfl)) (@pss_one _ _ _ (@ps_expr _ _ _ _ (pe_bm PySem.F.plainAttrs_list PySem.F.slot_list_extend PySem.F.type_list_extend mt_extend (pv 3) (@pa_cons _ _ _ _ _ (pe_comp (NX := ["lists", "rooms", "choices", "longer", "room"]) (N := ["lists", "rooms", "choices", "longer", "room", "choice"]) (ms := [true, true, true, true, true, false]) (ks := [5]) (out := defScope sByChoices) (by exact ⟨rfl, by decide +kernel, by decide +kernel, by decide +kernel, by decide +kernel, by decide +kernel⟩) rfl rfl rfl (@pi_list _ _ _ _ (pv 2)) (@sets_name 5) (by decide) (fun C ex s H => (pg_name (i := 5) nd_scByChoices1 rfl (Or.inl rfl))) (fun C ex s H => pts_nil) (fun C ex s H => (@pe_op _ _ _ _ _ _ _ (rCatTA K) op_catTA (pv 4) (@pe_tup _ _ _ _ _ (@pa_cons _ _ _ _ _ (pv 5) pa_nil (by rfl)))))) pa_nil (by rfl))) (by rfl))) (by intro _; rfl)) (@pss_one _ _ _ (@ps_set _ _ 1 _ _ _ _ scByChoices.nd rfl (Or.inl rfl) (pv 3) rfl (Or.inl rfl))))) (by intro _; rfl)) (@pss_one _ _ _ (@ps_ret _ _ _ _ (pv 1))))), ?_⟩
  refine ⟨Nat.zero_le _, fun e he => ⟨by show 1 ≤ sizeLine; decide, fun pr hpr => ?_⟩⟩
  have s4 := (same_new he (.tup [])).trans (same_new hpr (.lst [.ref e]))
  have e4 : upd (upd H e (.tup [])) pr (.lst [.ref e]) pr = some (.lst [.ref e]) := upd_same
  have ie : Is K (upd (upd H e (.tup [])) pr (.lst [.ref e])) (rmD []) (.ref e) := rm_is ((same_new hpr _).tup (SqT.of upd_same))
  have npr : H pr = none := (same_new he (.tup [])).free hpr
  generalize upd (upd H e (.tup [])) pr (.lst [.ref e]) = H4 at s4 e4 ie ⊢
  refine ⟨_, rfl, a, rfl, ⟨_, SqL.of (s4 _ _ ha)⟩, for_list (xs := ys) (fun i σ H5 => ∃ (v1 v2 v3 : Option V) (pr : Addr) (us : List V), σ = [some (.ref a), some (.ref pr), v1, v2, v3] ∧ Same H H5 ∧ H pr = none ∧ H5 pr = some (.lst us) ∧ Iss K H5 ((prodP (L.take i)).map rmD) us) ⟨none, none, none, pr, _, rfl, s4, npr, e4, .cons ie .nil⟩ (fun i σ H5 _ ⟨_, _, _, _, _, _, s5, _⟩ => SqL.of (s5 _ _ ha)) ?_ ?_⟩
  · rintro i y σ H5 hy ⟨v1, v2, v3, pr, us, rfl, g1, npr, g2, g3⟩
    obtain ⟨cc, ec, ob⟩ := al.get hy
    obtain ⟨hiL, hCC⟩ := List.getElem?_eq_some_iff.mp ec
    obtain ⟨py, rfl, hpy⟩ := ob
    have c6 : cc.length ≤ 6 := by rw [← hCC]; exact l6 _ (List.getElem_mem hiL)
    have cap : 6 ^ (i + 1) ≤ 1296 := by
      have : i = 0 ∨ i = 1 ∨ i = 2 ∨ i = 3 := by omega
      rcases this with rfl | rfl | rfl | rfl <;> decide
    have cR := prodP_len l6 i (Nat.le_of_lt hiL)
    have each := prodP_each (ls := L) i (Nat.le_of_lt hiL)
    generalize hRR : prodP (L.take i) = RR at g3 cR each
    have lus : us.length = RR.length := by rw [g3.length, List.length_map]
    refine ⟨Nat.zero_le _, fun pm hpm => ?_⟩
    have s6 := same_new hpm (.lst [])
    refine ⟨_, rfl, pr, rfl, ⟨_, SqL.of (s6 _ _ g2)⟩, for_list (xs := us) (fun j σ H7 => ∃ (v3 : Option V) (ms : List V), σ = [some (.ref a), some (.ref pr), some (.ref py), some (.ref pm), v3] ∧ Same H5 H7 ∧ H7 pm = some (.lst ms) ∧ Iss K H7 ((stepP (RR.take j) cc).map rmD) ms) ⟨_, [], rfl, s6, upd_same, .nil⟩ (fun j σ H7 _ ⟨_, _, _, s7, _⟩ => SqL.of (s7 _ _ g2)) ?_ ?_⟩
    · rintro j y σ H7 hy ⟨v3, ms, rfl, h1, h2, h3⟩
      have hj : j < RR.length := by rw [← lus]; exact (List.getElem?_eq_some_iff.mp hy).1
      obtain ⟨y', ey, iy⟩ := iss_at g3 hj
      rw [hy] at ey
      cases ey
      obtain ⟨po, rfl, hpo⟩ := is_rm iy
      have lj : RR[j].length = i := each _ (List.getElem_mem hj)
      have cj : (stepP (RR.take (j + 1)) cc).length ≤ 1296 := by
        have c1 := stepP_len (cs := cc) c6 (RR.take (j + 1))
        rw [List.length_take] at c1
        rw [Nat.pow_succ] at cap
        omega
      rw [stepP_take hj, List.length_append, List.length_map] at cj
      have hcc := h1 _ _ (g1 _ _ hpy)
      refine ⟨_, rfl, .inl ⟨rfl, _, SqL.of h2⟩, _, rfl, py, rfl, ⟨_, SqL.of hcc⟩, comp_list (xs := cc.map V.int) (fun k zs H8 => Same H7 H8 ∧ Iss K H8 (((cc.take k).map fun c => RR[j] ++ [c]).map rmD) zs) ⟨Same.refl _, .nil⟩ (fun k zs H8 _ ⟨s8, _⟩ => SqL.of (s8 _ _ hcc)) (fun k zs H8 _ ⟨_, i8⟩ => by rw [i8.length, List.length_map, List.length_map, List.length_take]; exact small1000 (by omega)) ?_ ?_⟩
      · rintro k x zs H8 hx ⟨s8, i8⟩
        have hk : k < cc.length := by have := (List.getElem?_eq_some_iff.mp hx).1; rw [List.length_map] at this; exact this
        rw [List.getElem?_map, List.getElem?_eq_getElem hk] at hx
        cases hx
        refine ⟨_, rfl, _, rfl, by show 1 ≤ sizeLine; decide, fun t1 ht1 => ?_⟩
        have n1 := same_new ht1 (.tup [V.int cc[k]])
        refine ⟨po, t1, _, _, rfl, rfl, n1.tup ((h1.trans s8).tup hpo), SqT.of upd_same, ?_, fun p2 HA sA qA => ?_⟩
        · rw [List.length_map, lj]
          exact Nat.le_of_lt (small1000 (by show i + 1 ≤ 1000; omega))
        have nA := n1.trans sA
        have iN : Is K HA (rmD (RR[j] ++ [cc[k]])) (.ref p2) := rm_is (by rw [List.map_append]; exact qA)
        refine ⟨s8.trans nA, ?_⟩
        have e := snoc_take [] cc (fun c => RR[j] ++ [c]) hk
        rw [List.nil_append, List.nil_append] at e
        rw [e, List.map_append]
        exact Iss.snoc iN (i8.same nA)
      rintro zs H8 ⟨s8, i8⟩ D hD
      rw [List.length_map, List.take_of_length_le (Nat.le_refl _)] at i8
      have n8 := same_new hD (.lst zs)
      have e2 := n8 _ _ (s8 _ _ h2)
      have lz : zs.length = cc.length := by rw [i8.length, List.length_map, List.length_map]
      have lm : ms.length = (stepP (RR.take j) cc).length := by rw [h3.length, List.length_map]
      refine ⟨pm, D, _, _, rfl, rfl, e2, upd_same, Nat.le_of_lt (Nat.lt_of_le_of_lt (m := 1296) (by omega) (by decide)), ?_⟩
      have t8 := h1.trans (s8.trans n8)
      refine ⟨_, _, rfl, same_put t8 hpm _, upd_same, ?_⟩
      rw [stepP_take hj, List.map_append]
      have k1 := (h3.same (s8.trans n8)).append (i8.same n8)
      rw [← List.map_append] at k1 ⊢
      exact iss_sb e2 (Sb.upd pm _ _) (onlys_map rm_only _) k1
    · rintro σ H7 ⟨v3, ms, rfl, h1, h2, h3⟩
      rw [lus, List.take_of_length_le (Nat.le_refl _)] at h3
      refine ⟨_, rfl, _, _, _, pm, ms, rfl, g1.trans h1, g1.free hpm, h2, ?_⟩
      rw [prodP_take hiL, hRR, hCC]
      exact h3
  · rintro σ H5 ⟨v1, v2, v3, pr, us, rfl, g1, npr, g2, g3⟩
    rw [← al.len, List.take_of_length_le (Nat.le_refl _)] at g3
    exact ⟨_, rfl, q pr H5 us g1 npr g2 g3⟩
/-! ### values in a room -/
def spValuesIn (K : PySem.W.Frag) (CK : Kd → Addr) (CC : Kc → Addr) (CY : Ks → Addr) (CD CM : Addr) : Sp := fun vs H Q _ => ∃ (m dx tp td tr : Addr) (vk : V) (ys us : List V) (ps : List Pl) (ds : List De) (rm : List Int), vs = [.ref m, .ref tr] ∧ ObjM K CK CC CY CD CM H ps ds m dx tp td vk ys us ∧ SqT K H tr (rm.map V.int) ∧ RmOk ps rm ∧
  ∀ (q : Addr) (H' : Hp), Same H H' → H q = none → H' q = some (.dK (kvT (ps.zip rm))) → Q (.ref q) H'
theorem scValuesIn : FnScope ["self", "room", "values", "place", "value"] ["self", "room"] (defScope sValuesIn) := ⟨rfl, rfl, rfl, by decide +kernel, rfl, by decide +kernel, by decide +kernel⟩
theorem ok_valuesIn {f : Addr} {fd : FuncData} (B : Bl mg) (c : ClsM K CM) (F : Fun K "values_in" "Machine.values_in" sValuesIn f fd) : FnOk P w K mg base CX0 1 f fd ["self", "room"] (spValuesIn K CK CC CY CD CM) := by
  refine F.ok scValuesIn (fun vs H Q E h => ?_) (fun cdv A outer s H vs Q E hr h => ?_)
  · obtain ⟨m, dx, tp, td, tr, vk, ys, us, ps, ds, rm, rfl, _⟩ := h
    rfl
  obtain ⟨m, dx, tp, td, tr, vk, ys, us, ps, ds, rm, rfl, M, hrm, R, q⟩ := h
  have hu1 := hu1_of hr
  have ly : ys.length = ps.length := by rw [M.ip.length, List.length_map]
  refine ⟨_, (@pss_cons _ _ _ _ _ (@ps_set _ _ 2 _ _ _ _ scValuesIn.nd rfl (Or.inl rfl) pe_dnewK rfl (Or.inl rfl)) (@pss_cons _ _ _ _ _ (@ps_for _ _ _ _ _ _ _ _ PassesOwn.never rfl (pi_zip false false rfl B.zip (@pa_cons _ _ _ _ _ (@pe_fld _ _ _ _ _ (pv 0) rfl) (@pa_cons _ _ _ _ _ (pv 1) pa_nil (by rfl)) (by rfl))) (pg_tup (n := 2) rfl (pgs_cons (pg_name (i := 3) scValuesIn.nd rfl (Or.inl rfl)) (pgs_cons (pg_name (i := 4) scValuesIn.nd rfl (Or.inl rfl)) pgs_nil))) (@pss_one _ _ _ (@ps_dput _ _ _ _ _ _ _ _ _ hu1 (pv 2) (@pe_ix _ _ _ _ _ _ (rIxT K) ix_tup (pv 3) pe_int (fun _ _ => rfl)) (pv 4) rfl)) (by intro _; rfl)) (@pss_one _ _ _ (@ps_ret _ _ _ _ (pv 2))))), ?_⟩
  refine fun pv hpv => ?_
  have s1 := same_new hpv (.dK [])
  refine ⟨_, rfl, m, _, dx, _, _, rfl, s1 _ _ M.at_, c.cl, c.n1, mac_p _ _ _, _, rfl, tp, tr, rfl, ⟨_, s1.tup M.hp⟩, ⟨_, s1.tup hrm⟩, for_zip (b1 := false) (b2 := false) (xs := ys) (ys := rm.map V.int) (by rw [List.length_map, R.len, ly]) (fun i σ H2 => ∃ v1 v2 : Option V, σ = [some (.ref m), some (.ref tr), some (.ref pv), v1, v2] ∧ Same H H2 ∧ H2 pv = some (.dK (kvT ((ps.zip rm).take i)))) ⟨none, none, rfl, s1, upd_same⟩ (fun i σ H2 _ ⟨_, _, _, s2, _⟩ => ⟨s2.tup M.hp, s2.tup hrm⟩) ?_ ?_⟩
  · rintro i x y σ H2 t hx hy ⟨v1, v2, rfl, g1, g2⟩ ht
    have hi : i < ps.length := by rw [← ly]; exact (List.getElem?_eq_some_iff.mp hx).1
    have hir : i < rm.length := by rw [R.len]; exact hi
    have hz : i < (ps.zip rm).length := by rw [R.zlen]; exact hi
    obtain ⟨v, ev, iv⟩ := iss_at M.ip hi
    rw [hx] at ev
    cases ev
    obtain ⟨r, rfl, hr'⟩ := is_pl iv
    rw [List.getElem?_map, List.getElem?_eq_getElem hir] at hy
    cases hy
    have n1 := same_new ht (.tup [V.ref r, V.int rm[i]])
    refine ⟨_, _, rfl, SqT.of upd_same, rfl, _, _, rfl, _, _, rfl, rfl, ?_⟩
    refine ⟨_, rfl, _, rfl, _, rfl, r, _, _, _, rfl, rfl, (g1.trans n1).tup hr', atI_nat (j := 0) rfl, pv, _, rfl, DPut.k (k := .inr ps[i].n) (n1 _ _ g2) (small1000 (by have h1 := (fil_take R.zs i (Nat.le_of_lt hz)).len; have h2 := R.few; omega)), ?_⟩
    refine ⟨_, _, rfl, same_put (g1.trans n1) hpv _, ?_⟩
    rw [upd_same, kvT_take hz, List.getElem_zip]
  · rintro σ H2 ⟨v1, v2, rfl, g1, g2⟩
    rw [List.take_of_length_le (by rw [R.zlen]; omega)] at g2
    exact ⟨_, rfl, q pv H2 g1 hpv g2⟩
/-! ### rooms by a deed -/
def spByDeed (K : PySem.W.Frag) (CK : Kd → Addr) (CC : Kc → Addr) (CY : Ks → Addr) (CD CM : Addr) : Sp := fun vs H Q _ => ∃ (m dx tp td tr : Addr) (vk vd : V) (ys us : List V) (ps : List Pl) (ds : List De) (rm : List Int) (d : De), vs = [.ref m, .ref tr, vd] ∧ ObjM K CK CC CY CD CM H ps ds m dx tp td vk ys us ∧ SqT K H tr (rm.map V.int) ∧ RmOk ps rm ∧ ObjD CK CC CY CD H d vd ∧ DeOk (ps.map (·.n)) d ∧ (∀ p ∈ ps, PlOk p) ∧
  ∀ (q : Addr) (H' : Hp) (us : List V), Same H H' → H q = none → H' q = some (.lst us) → Iss K H' ((behR ps d rm).map rmD) us → Q (.ref q) H'
theorem scByDeed : FnScope ["self", "room", "deed", "values", "lists"] ["self", "room", "deed"] (defScope sByDeed) := ⟨rfl, rfl, rfl, by decide +kernel, rfl, by decide +kernel, by decide +kernel⟩
theorem nd_scByDeed1 : (["self", "room", "deed", "values", "lists", "place", "value"] : List Str).Nodup := by decide +kernel
theorem ok_byDeed {f fC fR : Addr} {fd fdC fdR : FuncData} (B : Bl mg) (c : ClsM K CM) (cd : ClsD K CD) (F : Fun K "rooms_by_deed" "Machine.rooms_by_deed" sByDeed f fd) (FC : Fun K "choices_of" "choices_of" sChoicesOf fC fdC) (bC : Binds K fdC ["place", "value", "changes", "values"] []) (mC : mg "choices_of" = some (.ref fC)) (GC : FnOk P w K mg base CX0 11 fC fdC ["place", "value", "changes", "values"] (spChoicesOf K CK CC))
    (FR : Fun K "rooms_by_choices" "rooms_by_choices" sByChoices fR fdR) (bR : Binds K fdR ["lists"] []) (mR : mg "rooms_by_choices" = some (.ref fR)) (MV : MOk P w K mg base 1 CM "values_in" (spValuesIn K CK CC CY CD CM)) (MH : ∀ k, MOk P w K mg base 15 (CY k) "holds" (spH CK CY 4 k)) : FnOk P w K mg base CX0 16 f fd ["self", "room", "deed"] (spByDeed K CK CC CY CD CM) := by
  have GR : FnOk P w K mg base CX0 1 fR fdR ["lists"] (spByChoices K) := ok_byChoices FR
  refine F.ok scByDeed (fun vs H Q E h => ?_) (fun cdv A outer s H vs Q E hr h => ?_)
  · obtain ⟨m, dx, tp, td, tr, vk, vd, ys, us, ps, ds, rm, d, rfl, _⟩ := h
    rfl
  obtain ⟨m, dx, tp, td, tr, vk, vd, ys, us, ps, ds, rm, d, rfl, M, hrm, R, ob, od, op, q⟩ := h
  have hr1 : Room 1 _ := hr.mono (by decide)
  have hrC : Room 11 _ := hr.mono (by decide)
  have ly : ys.length = ps.length := by rw [M.ip.length, List.length_map]
  refine ⟨_, (@pss_cons _ _ _ _ _ (@ps_set _ _ 3 _ _ _ _ scByDeed.nd rfl (Or.inr rfl) (pe_methP (pv 0) hr1 (@pa_cons _ _ _ _ _ (pv 1) pa_nil (by rfl))) rfl (Or.inl rfl)) (@pss_cons _ _ _ _ _ (@ps_if _ _ _ _ _ _ _ _ (@pt_not _ _ _ _ (pt_val (pe_methP (@pe_fld _ _ _ _ _ (pv 2) rfl) hr (@pa_cons _ _ _ _ _ (pv 3) pa_nil (by rfl))))) (@pss_one _ _ _ (@ps_ret _ _ _ _ (@pe_lst _ _ _ _ pa_nil))) pss_nil) (@pss_cons _ _ _ _ _ (ps_comp (NX := ["self", "room", "deed", "values", "lists"]) (N := ["self", "room", "deed", "values", "lists", "place", "value"]) (ms := [true, true, true, true, true, false, false]) (ks := [5, 6]) (out := defScope sByDeed) (by exact ⟨rfl, by decide +kernel, by decide +kernel, by decide +kernel, by decide +kernel, by decide +kernel⟩) rfl rfl rfl (i := 4) scByDeed.nd rfl (Or.inl rfl) (pi_zip false false rfl B.zip (@pa_cons _ _ _ _ _ (@pe_fld _ _ _ _ _ (pv 0) rfl) (@pa_cons _ _ _ _ _ (pv 1) pa_nil (by rfl)) (by rfl))) (@sets_tup _ _ _ _ (@sets_cons _ _ _ _ (@sets_name 5) (@sets_cons _ _ _ _ (@sets_name 6) sets_nil))) (by decide) (fun C ex s H => (pg_tup (n := 2) rfl (pgs_cons (pg_name (i := 5) nd_scByDeed1 rfl (Or.inl rfl)) (pgs_cons (pg_name (i := 6) nd_scByDeed1 rfl (Or.inl rfl)) pgs_nil)))) (fun C ex s H => pts_nil) (fun C ex s H => (pe_call GC hrC (by rfl) mC FC.kp bC .nil pass0 (@pa_cons _ _ _ _ _ (pv 5) (@pa_cons _ _ _ _ _ (pv 6) (@pa_cons _ _ _ _ _ (pe_fldK (K := K) rfl (pv 2) rfl) (@pa_cons _ _ _ _ _ (pv 3) pa_nil (by rfl)) (by rfl)) (by rfl)) (by rfl)))) (by with_unfolding_all rfl)) (@pss_one _ _ _ (@ps_ret _ _ _ _ (pe_call GR hr1 (by rfl) mR FR.kp bR .nil pass0 (@pa_cons _ _ _ _ _ (pv 4) pa_nil (by rfl)))))))), ?_⟩
  refine ⟨_, rfl, m, _, dx, _, _, rfl, M.at_, mac_no _ _ _ (by decide +kernel) (by decide +kernel) (by decide +kernel), MV, _, rfl, m, dx, tp, td, tr, vk, ys, us, ps, ds, rm, rfl, M, hrm, R, fun pv H1 s1 npv e1 => ?_⟩
  obtain ⟨pd, dxd, vw, tc, cs, rfl, hd, ow, hc, al⟩ := ob.same s1
  have O := R.vals
  obtain ⟨pw, dxw, fsw, rfl, hw, lw⟩ := ow.at_
  refine ⟨_, rfl, pd, _, dxd, _, _, rfl, hd, cd.cl, cd.n2, dee_w _ _ _, pw, _, dxw, fsw, _, rfl, hw, lw, MH _, _, rfl, _, pv, d.wh, _, _, _, rfl, rfl, ow, e1, O, od.wh, od.dp, _, rfl, ?_⟩
  have eb : behR ps d rm = if hol (vfOf (kvT (ps.zip rm))) d.wh = true then prodP (optsR ps d rm) else [] := rfl
  have el : optsR ps d rm = (ps.zip rm).map fun z => optI (vfOf (kvT (ps.zip rm))) z.1 z.2 d.chs := rfl
  have l6 : ∀ l ∈ optsR ps d rm, l.length ≤ 6 := by
    intro l hl
    rw [el] at hl
    obtain ⟨z, hz, rfl⟩ := List.mem_map.mp hl
    exact optI_len _ (op _ (List.of_mem_zip hz).1) _ _
  have ll : (optsR ps d rm).length = ps.length := by rw [el, List.length_map, R.zlen]
  have lat : ∀ i (h : i < ps.length) (h' : i < rm.length) (h'' : i < (optsR ps d rm).length), (optsR ps d rm)[i] = optI (vfOf (kvT (ps.zip rm))) ps[i] rm[i] d.chs := by
    intro i h h' h''
    simp only [el, List.getElem_map, List.getElem_zip]
  generalize optsR ps d rm = L at eb l6 ll lat
  generalize vfOf (kvT (ps.zip rm)) = vf at O eb lat ⊢
  cases hh : hol vf d.wh with
  | false =>
    rw [hh] at eb
    refine iteT ⟨Nat.zero_le _, fun z hz => q z _ [] (s1.trans (same_new hz _)) (s1.free hz) upd_same ?_⟩
    rw [eb]
    exact .nil
  | true =>
    rw [hh] at eb
    have eb : behR ps d rm = prodP L := eb
    refine iteF ⟨_, rfl, m, _, dx, _, _, rfl, s1 _ _ M.at_, c.cl, c.n1, mac_p _ _ _, _, rfl, tp, tr, rfl, ⟨_, s1.tup M.hp⟩, ⟨_, s1.tup hrm⟩, comp_zip (b1 := false) (b2 := false) (xs := ys) (zs := rm.map V.int) (by rw [List.length_map, R.len, ly]) (fun i zs H2 => Same H1 H2 ∧ Al (LsH H2) (L.take i) zs) ⟨Same.refl _, Al.nil⟩ (fun i zs H2 _ ⟨s2, _⟩ => ⟨(s1.trans s2).tup M.hp, (s1.trans s2).tup hrm⟩) (fun i zs H2 _ ⟨_, a2⟩ => small1000 (by have h1 := a2.len; have h2 := R.few; rw [List.length_take] at h1; omega)) ?_ ?_⟩
    · rintro i x y zs H2 t hx hy ⟨s2, a2⟩ ht
      have hi : i < ps.length := by rw [← ly]; exact (List.getElem?_eq_some_iff.mp hx).1
      have hir : i < rm.length := by rw [R.len]; exact hi
      have hiL : i < L.length := by omega
      obtain ⟨v, ev, iv⟩ := iss_at M.ip hi
      rw [hx] at ev
      cases ev
      rw [List.getElem?_map, List.getElem?_eq_getElem hir] at hy
      cases hy
      have n1 := same_new ht (.tup [x, V.int rm[i]])
      have t2 := s2.trans n1
      refine ⟨_, _, rfl, SqT.of upd_same, rfl, _, _, rfl, _, _, rfl, rfl, ?_⟩
      refine ⟨_, rfl, _, rfl, _, rfl, pd, _, dxd, _, _, rfl, t2 _ _ hd, cd.cl, cd.n3, dee_c _ _ _, _, rfl, x, tc, pv, rm[i], ps[i], d.chs, cs, _, _, vf, rfl, (iv.same s1).same t2, t2 _ _ hc, al.mono fun _ _ h => h.same t2, t2 _ _ e1, O, fun g hg => (od.ch g hg).1, op _ (List.getElem_mem hi), fun pq H3 s3 _ e3 => ?_⟩
      have t3 := n1.trans s3
      refine ⟨s2.trans t3, ?_⟩
      rw [List.take_add_one, List.getElem?_eq_getElem hiL]
      refine Al.snoc (a2.mono fun _ _ h => h.same t3) ⟨pq, rfl, ?_⟩
      rw [e3, lat i hi hir hiL]
    rintro zs H2 ⟨s2, a2⟩ D hD
    rw [List.take_of_length_le (by omega)] at a2
    have n2 := same_new hD (.lst zs)
    have t2 := (s1.trans s2).trans n2
    refine ⟨_, rfl, D, zs, L, rfl, upd_same, a2.mono fun _ _ h => h.same n2, l6, by have := R.few; omega, fun z H3 us s3 nz e3 i3 => ?_⟩
    rw [← eb] at i3
    exact q z H3 us (t2.trans s3) (t2.free nz) e3 i3
end
end Nw

set_option Elab.async false
set_option linter.all false
set_option maxRecDepth 100000
set_option maxHeartbeats 4000000
namespace Nw
open PySem L2
/-! ### rules for comprehensions -/
theorem pe_methK {X : Cx} {P : Program} {w : World} {K : PySem.W.Frag} {mg : Str → Option Value} {base : Heap} {m : Str} {pos apos : Pos} {e o : Expr} {es : List Expr} {ta : TE} {t : TA} {k : Nat} {pl : Sem Bool} (h1 : X.prog = P) (h2 : X.w = w) (h3 : X.K = K) (h4 : X.mg = mg) (h5 : X.base = base) (he : PE X o ta) (hr : Room k X.A) (ha : PA X (e :: es) t)
    (hst : starEach (e :: es) X.env = (false, eval e X.env) :: starEach es X.env := by rfl) (hpl : (backTo pos (starEach es X.env)).any (·.1) = false := by rfl)
    (ht : eval (.Call (.Attribute o m apos) (e :: es) [] pos) X.env = (do
      let ov ← eval o X.env
      standAt apos.atName
      let (f, first) ← holding [ov] (getMethod ov m pl)
      callWith pos f first (backTo pos (starEach (e :: es) X.env)) (backToKw pos (keywordEach [] X.env))) := by rfl) :
    PE X (.Call (.Attribute o m apos) (e :: es) [] pos) (tMethP P w K mg base k m ta t) := by
  subst h1 h2 h3 h4 h5
  exact pe_methP he hr ha hst hpl ht
theorem eq_nilR (rs : List (List Int)) : dEq (.lst (rs.map rmD)) (.lst []) = rs.isEmpty := eq_nilD rmD rs
theorem dep_rms : ∀ rs : List (List Int), deps (rs.map rmD) ≤ 1
  | [] => by simp [deps]
  | r :: rs => by
    have h := dep_rms rs
    rw [List.map_cons, deps]
    have : dep (rmD r) = 1 := by rw [rmD, dep, deps_ints]
    omega
section
variable {P : Program} {w : World} {K : PySem.W.Frag} {mg : Str → Option Value} {base : Heap} {CK : Kd → Addr} {CC : Kc → Addr} {CY : Ks → Addr} {CD CM : Addr}
def spFirst (K : PySem.W.Frag) (CK : Kd → Addr) (CC : Kc → Addr) (CY : Ks → Addr) (CD CM : Addr) : Sp := fun vs H Q _ => ∃ (m dx tp td : Addr) (vk : V) (ys us : List V) (ps : List Pl) (ds : List De), vs = [.ref m] ∧ ObjM K CK CC CY CD CM H ps ds m dx tp td vk ys us ∧ ps.length ≤ 8 ∧
  ∀ (q : Addr) (H' : Hp), Same H H' → H' q = some (.tup ((ps.map (·.st)).map V.int)) → Q (.ref q) H'
theorem scFirst : FnScope ["self"] ["self"] (defScope sFirst) := ⟨rfl, rfl, rfl, by decide +kernel, rfl, by decide +kernel, by decide +kernel⟩
theorem nd_scFirst1 : (["self", "place"] : List Str).Nodup := by decide +kernel
theorem ok_first {f : Addr} {fd : FuncData} (B : Bl mg) (c : ClsM K CM) (F : Fun K "first" "Machine.first" sFirst f fd) : FnOk P w K mg base CX0 1 f fd ["self"] (spFirst K CK CC CY CD CM) := by
  refine F.ok scFirst (fun vs H Q E h => ?_) (fun cdv A outer s H vs Q E hr h => ?_)
  · obtain ⟨m, dx, tp, td, vk, ys, us, ps, ds, rfl, _⟩ := h
    rfl
  obtain ⟨m, dx, tp, td, vk, ys, us, ps, ds, rfl, M, l8, q⟩ := h
  have ly : ys.length = ps.length := by rw [M.ip.length, List.length_map]
  refine ⟨_, (@pss_one _ _ _ (@ps_ret _ _ _ _ (pe_callTy call_tuple_of (by rfl) B.tuple PyProof.Rows.boot_tuple (@pa_cons _ _ _ _ _ (pe_comp (NX := ["self"]) (N := ["self", "place"]) (ms := [true, false]) (ks := [1]) (out := defScope sFirst) (by exact ⟨rfl, by decide +kernel, by decide +kernel, by decide +kernel, by decide +kernel, by decide +kernel⟩) rfl rfl rfl (@pi_tup _ _ _ _ (@pe_fld _ _ _ _ _ (pv 0) rfl)) (@sets_name 1) (by decide) (fun C ex s H => (pg_name (i := 1) nd_scFirst1 rfl (Or.inl rfl))) (fun C ex s H => pts_nil) (fun C ex s H => (@pe_ix _ _ _ _ _ _ (rIxT K) ix_tup (pv 1) pe_int (fun _ _ => rfl)))) pa_nil (by rfl))))), ?_⟩
  refine ⟨_, rfl, m, _, dx, _, _, rfl, M.at_, c.cl, c.n1, mac_p _ _ _, tp, rfl, ⟨_, M.hp⟩, comp_tup (xs := ys) (fun i ws H' => ws = ((ps.map (·.st)).take i).map V.int ∧ H' = H) ⟨rfl, rfl⟩ (fun i ws H' _ ⟨_, e'⟩ => by rw [e']; exact M.hp) (fun i ws H' _ ⟨e', _⟩ => by rw [e', List.length_map]; exact small1000 (by rw [List.length_take, List.length_map]; omega)) ?_ ?_⟩
  · rintro i y ws H' hy ⟨rfl, rfl⟩
    have hi : i < ps.length := by rw [← ly]; exact (List.getElem?_eq_some_iff.mp hy).1
    obtain ⟨v, ev, iv⟩ := iss_at M.ip hi
    rw [hy] at ev
    cases ev
    obtain ⟨r, rfl, hr'⟩ := is_pl iv
    refine ⟨_, rfl, r, _, _, _, rfl, rfl, hr', atI_nat (j := 3) rfl, ?_, rfl⟩
    rw [List.take_add_one, List.getElem?_map, List.getElem?_eq_getElem hi, List.map_append]
    rfl
  rintro ws H6 ⟨rfl, rfl⟩ D2 hD2
  rw [List.take_of_length_le (by rw [List.length_map]; omega)]
  exact ⟨D2, _, rfl, .inl ⟨SqL.of upd_same, fun t1 ht1 => q t1 _ ((same_new hD2 _).trans (same_new ht1 _)) upd_same⟩⟩
def stopB (ps : List Pl) (ds : List De) (rm : List Int) : Bool := (ds.map fun d => (behR ps d rm).isEmpty).all id
def spStops (K : PySem.W.Frag) (CK : Kd → Addr) (CC : Kc → Addr) (CY : Ks → Addr) (CD CM : Addr) : Sp := fun vs H Q _ => ∃ (m dx tp td tr : Addr) (vk : V) (ys us : List V) (ps : List Pl) (ds : List De) (rm : List Int), vs = [.ref m, .ref tr] ∧ ObjM K CK CC CY CD CM H ps ds m dx tp td vk ys us ∧ SqT K H tr (rm.map V.int) ∧ RmOk ps rm ∧ MaOk ps ds ∧ ds.length ≤ 8 ∧
  ∀ H' : Hp, Same H H' → Q (.bl (stopB ps ds rm)) H'
theorem scStops : FnScope ["self", "room"] ["self", "room"] (defScope sStops) := ⟨rfl, rfl, rfl, by decide +kernel, rfl, by decide +kernel, by decide +kernel⟩
theorem nd_scStops1 : (["self", "room", "deed"] : List Str).Nodup := by decide +kernel
theorem ok_stops {f : Addr} {fd : FuncData} (B : Bl mg) (c : ClsM K CM) (F : Fun K "stops" "Machine.stops" sStops f fd) (MD : MOk P w K mg base 16 CM "rooms_by_deed" (spByDeed K CK CC CY CD CM)) : FnOk P w K mg base CX0 17 f fd ["self", "room"] (spStops K CK CC CY CD CM) := by
  refine F.ok scStops (fun vs H Q E h => ?_) (fun cdv A outer s H vs Q E hr h => ?_)
  · obtain ⟨m, dx, tp, td, tr, vk, ys, us, ps, ds, rm, rfl, _⟩ := h
    rfl
  obtain ⟨m, dx, tp, td, tr, vk, ys, us, ps, ds, rm, rfl, M, hrm, R, O, d8, q⟩ := h
  have hu := hu60 hr
  have lu := M.al.len
  refine ⟨_, (@pss_one _ _ _ (@ps_ret _ _ _ _ (pe_callB (call_all rfl) (by rfl) B.all PyProof.Rows.boot_all (@pa_cons _ _ _ _ _ (pe_comp (NX := ["self", "room"]) (N := ["self", "room", "deed"]) (ms := [true, true, false]) (ks := [2]) (out := defScope sStops) (by exact ⟨rfl, by decide +kernel, by decide +kernel, by decide +kernel, by decide +kernel, by decide +kernel⟩) rfl rfl rfl (@pi_tup _ _ _ _ (@pe_fld _ _ _ _ _ (pv 0) rfl)) (@sets_name 2) (by decide) (fun C ex s H => (pg_name (i := 2) nd_scStops1 rfl (Or.inl rfl))) (fun C ex s H => pts_nil) (fun C ex s H => (@pe_cmpR _ _ _ _ _ _ _ (rEqD K) (@op_eqD _ hu) (pe_methK (P := P) (w := w) (K := K) (mg := mg) (base := base) rfl rfl rfl rfl rfl (pv 0) hr (@pa_cons _ _ _ _ _ (pv 1) (@pa_cons _ _ _ _ _ (pv 2) pa_nil (by rfl)) (by rfl))) (@pe_lst _ _ _ _ pa_nil) (nomark _)))) pa_nil (by rfl))))), ?_⟩
  refine ⟨_, rfl, m, _, dx, _, _, rfl, M.at_, c.cl, c.n3, mac_d _ _ _, td, rfl, ⟨_, SqT.of M.hd⟩, comp_tup (xs := us) (fun i ws H' => ws = ((ds.map fun d => (behR ps d rm).isEmpty).take i).map V.bl ∧ Same H H') ⟨rfl, Same.refl H⟩ (fun i ws H' _ ⟨_, s'⟩ => s'.tup (SqT.of M.hd)) (fun i ws H' _ ⟨e', _⟩ => by rw [e', List.length_map]; exact small1000 (by rw [List.length_take, List.length_map]; omega)) ?_ ?_⟩
  · rintro i y ws H' hy ⟨rfl, s'⟩
    obtain ⟨d, ed, ob⟩ := M.al.get hy
    obtain ⟨hi, ed'⟩ := List.getElem?_eq_some_iff.mp ed
    have hmem := List.mem_of_getElem? ed
    have M' := M.same s'
    refine ⟨_, rfl, m, _, dx, _, _, rfl, M'.at_, mac_no _ _ _ (by decide +kernel) (by decide +kernel) (by decide +kernel), MD, _, rfl, _, rfl, m, dx, tp, td, tr, vk, y, ys, us, ps, ds, rm, d, rfl, M', s'.tup hrm, R, ob.same s', O.de d hmem, O.pl, fun z H3 us3 s3 _ e3 i3 => ?_⟩
    refine ⟨Nat.zero_le _, fun n hn => ⟨.lst ((behR ps d rm).map rmD), .lst [], ?_, ?_, rfl, rfl, ?_, ?_⟩⟩
    · rw [Is]
      exact ⟨z, _, rfl, SqL.of ((same_new hn _) _ _ e3), i3.same (same_new hn _)⟩
    · rw [Is]
      exact ⟨n, _, rfl, SqL.of upd_same, .nil⟩
    · rw [dep]; have := dep_rms (behR ps d rm); omega
    rw [eq_nilR]
    refine ⟨?_, s'.trans (s3.trans (same_new hn _))⟩
    rw [List.take_add_one, List.getElem?_map, ed, List.map_append]
    rfl
  rintro ws H6 ⟨rfl, s6⟩ D hD
  rw [List.take_of_length_le (by rw [List.length_map]; omega)]
  exact ⟨D, _, rfl, SqL.of upd_same, q _ (s6.trans (same_new hD _))⟩
theorem kvT_nd {zs : List (Pl × Int)} (hn : (zs.map (·.1.n)).Nodup) : ∀ i, i ≤ zs.length → (kvT (zs.take i)).length = i ∧ ∀ j (hj : j < zs.length), valV (kvT (zs.take i)) (.inr zs[j].1.n : Key) = if j < i then some (.int zs[j].2) else none
  | 0, _ => ⟨rfl, fun j hj => by rw [if_neg (Nat.not_lt_zero j)]; rfl⟩
  | i + 1, h => by
    have h' : i < zs.length := h
    obtain ⟨h1, h2⟩ := kvT_nd hn i (Nat.le_of_lt h')
    have h3 := h2 i h'
    rw [if_neg (Nat.lt_irrefl i)] at h3
    rw [kvT_take h']
    refine ⟨by rw [putK_new _ h3, List.length_append, h1]; rfl, fun j hj => ?_⟩
    rw [valV_put]
    by_cases e : j = i
    · subst e
      rw [if_pos rfl, if_pos (Nat.lt_succ_self _)]
    · have ne : ¬ (Sum.inr zs[j].1.n : Key) = .inr zs[i].1.n := by
        intro z
        have z : zs[j].1.n = zs[i].1.n := Sum.inr.inj z
        have lz : (zs.map (·.1.n)).length = zs.length := List.length_map ..
        rcases Nat.lt_or_gt_of_ne e with g | g
        · have := List.pairwise_iff_getElem.mp hn j i (by omega) (by omega) g
          simp only [List.getElem_map] at this
          exact this z
        · have := List.pairwise_iff_getElem.mp hn i j (by omega) (by omega) g
          simp only [List.getElem_map] at this
          exact this z.symm
      rw [if_neg ne, h2 j hj]
      by_cases g : j < i
      · rw [if_pos g, if_pos (by omega)]
      · rw [if_neg g, if_neg (by omega)]
def spLValues (K : PySem.W.Frag) (CK : Kd → Addr) (CC : Kc → Addr) (CY : Ks → Addr) (CD CM : Addr) : Sp := fun vs H Q _ => ∃ (m dx tp td tr : Addr) (vk : V) (ys us : List V) (ps : List Pl) (ds : List De) (rm : List Int), vs = [.ref m, .ref tp, .ref tr] ∧ ObjM K CK CC CY CD CM H ps ds m dx tp td vk ys us ∧ SqT K H tr (rm.map V.int) ∧ RmOk ps rm ∧ (ps.map (·.n)).Nodup ∧ ∀ H' : Hp, Same H H' → Q (.bl true) H'
theorem scLValues : FnScope ["_law_machine_here", "_law_places_here", "_law_room_here", "_law_values_here", "_law_k", "_law_found"] ["_law_machine_here", "_law_places_here", "_law_room_here"] (defScope sLValues) := ⟨rfl, rfl, rfl, by decide +kernel, rfl, by decide +kernel, by decide +kernel⟩
theorem ok_lValues {f fW : Addr} {fd fdW : FuncData} (B : Bl mg) (F : Fun K "_law_values" "_law_values" sLValues f fd) (FW : Fun K "_law_whole" "_law_whole" sWhole fW fdW) (bW : Binds K fdW ["_law_found"] []) (mW : mg "_law_whole" = some (.ref fW)) (MV : MOk P w K mg base 1 CM "values_in" (spValuesIn K CK CC CY CD CM)) : FnOk P w K mg base CX0 2 f fd ["_law_machine_here", "_law_places_here", "_law_room_here"] (spLValues K CK CC CY CD CM) := by
  have GW : FnOk P w K mg base CX0 1 fW fdW ["_law_found"] spWhole := ok_whole B FW
  refine F.ok scLValues (fun vs H Q E h => ?_) (fun cdv A outer s H vs Q E hr h => ?_)
  · obtain ⟨m, dx, tp, td, tr, vk, ys, us, ps, ds, rm, rfl, _⟩ := h
    rfl
  obtain ⟨m, dx, tp, td, tr, vk, ys, us, ps, ds, rm, rfl, M, hrm, R, nd, q⟩ := h
  have hu1 := hu1_of hr
  have few := R.few
  have ly : ys.length = ps.length := by rw [M.ip.length, List.length_map]
  have zl := R.zlen
  obtain ⟨kl, kv⟩ := kvT_nd (zs := ps.zip rm) (by rw [R.names]; exact nd) (ps.zip rm).length (Nat.le_refl _)
  rw [List.take_of_length_le (Nat.le_refl _), zl] at kl
  rw [List.take_of_length_le (Nat.le_refl _)] at kv
  have no : (macF (.ref tp) vk (.ref td)).lookup ("values_in" : Str) = none := mac_no _ _ _ (by decide +kernel) (by decide +kernel) (by decide +kernel)
  refine ⟨_, (@pss_cons _ _ _ _ _ (@ps_set _ _ 3 _ _ _ _ scLValues.nd rfl (Or.inl rfl) (pe_methP (pv 0) hr (@pa_cons _ _ _ _ _ (pv 2) pa_nil (by rfl))) rfl (Or.inl rfl)) (@pss_cons _ _ _ _ _ (@ps_if _ _ _ _ _ _ _ _ ((@pw_or _ _ _ _ _ _ _ (@pt_not _ _ _ _ (pt_val (pe_callB call_isinst (by rfl) B.isinstance PyProof.Rows.boot_isinstance (@pa_cons _ _ _ _ _ (pv 3) (@pa_cons _ _ _ _ _ (pe_bltn (v := V.ty "dict") (by rfl) B.dict PyProof.Rows.boot_dict (by rfl)) pa_nil (by rfl)) (by rfl))))) (pw_or1 (@pt_cmpR _ _ _ _ _ _ _ _ op_ne (pe_callB call_lenD (by rfl) B.len PySem.boot_len (@pa_cons _ _ _ _ _ (pv 3) pa_nil (by rfl))) (pe_callB call_len_seq (by rfl) B.len PySem.boot_len (@pa_cons _ _ _ _ _ (pv 1) pa_nil (by rfl))) (nomark _))))).pt (@pss_one _ _ _ (@ps_ret _ _ _ _ pe_bl)) pss_nil) (@pss_cons _ _ _ _ _ (@ps_for _ _ _ _ _ _ _ _ PassesOwn.never rfl (pi_range1 rfl B.range (@pa_cons _ _ _ _ _ (pe_callB call_len_seq (by rfl) B.len PySem.boot_len (@pa_cons _ _ _ _ _ (pv 1) pa_nil (by rfl))) pa_nil (by rfl))) (pg_name (i := 4) scLValues.nd rfl (Or.inl rfl)) (@pss_cons _ _ _ _ _ (@ps_set _ _ 5 _ _ _ _ scLValues.nd rfl (Or.inl rfl) (pe_dget1 hu1 (pv 3) (@pe_ix _ _ _ _ _ _ (rIxT K) ix_tup (@pe_ix _ _ _ _ _ _ (rIxT K) ix_tup (pv 1) (pv 4) (fun _ _ => rfl)) pe_int (fun _ _ => rfl)) ⟨rfl, rfl, rfl, rfl⟩) rfl (Or.inl rfl)) (@pss_one _ _ _ (@ps_if _ _ _ _ _ _ _ _ ((@pw_or _ _ _ _ _ _ _ (@pt_not _ _ _ _ (pt_val (pe_call GW hr (by rfl) mW FW.kp bW .nil pass0 (@pa_cons _ _ _ _ _ (pv 5) pa_nil (by rfl))))) (pw_or1 (@pt_cmpR _ _ _ _ _ _ _ _ op_ne (pv 5) (@pe_ix _ _ _ _ _ _ (rIxT K) ix_tup (pv 2) (pv 4) (fun _ _ => rfl)) (nomark _))))).pt (@pss_one _ _ _ (@ps_ret _ _ _ _ pe_bl)) pss_nil))) (by intro _; rfl)) (@pss_cons _ _ _ _ _ (@ps_dput _ _ _ _ _ _ _ _ _ hu1 (pv 3) pe_str pe_int rfl) (@pss_one _ _ _ (@ps_ret _ _ _ _ (@pe_cmpR _ _ _ _ _ _ _ _ op_eq (pe_callB call_lenD (by rfl) B.len PySem.boot_len (@pa_cons _ _ _ _ _ (pe_methP (pv 0) hr (@pa_cons _ _ _ _ _ (pv 2) pa_nil (by rfl))) pa_nil (by rfl))) (pe_callB call_len_seq (by rfl) B.len PySem.boot_len (@pa_cons _ _ _ _ _ (pv 1) pa_nil (by rfl))) (nomark _)))))))), ?_⟩
  refine ⟨_, rfl, m, _, dx, _, _, rfl, M.at_, no, MV, _, rfl, m, dx, tp, td, tr, vk, ys, us, ps, ds, rm, rfl, M, hrm, R, fun pv H1 s1 npv e1 => ?_⟩
  refine ⟨_, rfl, _, _, _, _, rfl, TyOf.dK e1, rfl, _, rfl, ?_⟩
  refine iteF ⟨_, rfl, pv, _, rfl, e1, _, rfl, tp, _, rfl, .inr (s1.tup M.hp), rfl, _, rfl, iteNS (by rw [kl, ly]) ?_⟩
  refine ⟨_, rfl, tp, _, rfl, .inr (s1.tup M.hp), _, rfl, by omega, by omega, ?_⟩
  refine for_range (n := ((ys.length : Nat) : Int).toNat) (fun i σ H2 => ∃ v1 v2 : Option V, σ = [some (.ref m), some (.ref tp), some (.ref tr), some (.ref pv), v1, v2] ∧ H2 = H1) ⟨none, none, rfl, rfl⟩ ?_ ?_
  · rintro i σ H2 hi ⟨v1, v2, rfl, rfl⟩
    have hi : i < ps.length := by omega
    have hir : i < rm.length := by rw [R.len]; exact hi
    have hz : i < (ps.zip rm).length := by rw [zl]; exact hi
    obtain ⟨v, ev, iv⟩ := iss_at M.ip hi
    obtain ⟨r, rfl, hr'⟩ := is_pl iv
    have hat : atI (rm.map V.int) (0 + (i : Int)) = some (.int rm[i]) := by
      rw [Int.zero_add]
      exact atI_nat (by rw [List.getElem?_map, List.getElem?_eq_getElem hir]; rfl)
    have hap : atI ys (0 + (i : Int)) = some (.ref r) := by
      rw [Int.zero_add]
      exact atI_nat ev
    have kvi := kv i hz
    rw [if_pos hz, List.getElem_zip] at kvi
    refine ⟨_, rfl, pv, rfl, .inl ⟨_, Rd.of e1⟩, _, rfl, _, rfl, tp, _, _, _, rfl, rfl, s1.tup M.hp, hap, r, _, _, _, rfl, rfl, s1.tup hr', atI_nat (j := 0) rfl, _, DGet.k (k := .inr ps[i].n) e1, ?_⟩
    rw [kvi]
    refine ⟨_, rfl, rm[i], rfl, _, rfl, ?_⟩
    exact iteF ⟨_, rfl, _, rfl, _, rfl, tr, _, _, _, rfl, rfl, s1.tup hrm, hat, rfl, _, rfl, iteNS rfl ⟨_, _, rfl, rfl⟩⟩
  rintro σ H2 ⟨v1, v2, rfl, rfl⟩
  refine ⟨_, rfl, pv, _, rfl, DPut.k (k := .inr "q") e1 (small1000 (by rw [kl]; omega)), ?_⟩
  have s2 := same_put s1 npv (.dK (putK (kvT (ps.zip rm)) (.inr "q") (.int 1)))
  generalize upd H2 pv (.dK (putK (kvT (ps.zip rm)) (.inr "q") (.int 1))) = H3 at s2 ⊢
  have M3 := M.same s2
  refine ⟨_, rfl, m, _, dx, _, _, rfl, M3.at_, no, MV, _, rfl, m, dx, tp, td, tr, vk, ys, us, ps, ds, rm, rfl, M3, s2.tup hrm, R, fun pw H4 s4 _ e4 => ?_⟩
  refine ⟨pw, _, rfl, e4, _, rfl, tp, _, rfl, .inr ((s2.trans s4).tup M.hp), rfl, ?_⟩
  have e : decide (V.int (((kvT (ps.zip rm)).length : Nat) : Int) = V.int ((ys.length : Nat) : Int)) = true := decide_eq_true (by rw [kl, ly])
  rw [e]
  exact q H4 (s2.trans s4)
end
end Nw

set_option Elab.async false
set_option linter.all false
set_option maxRecDepth 100000
set_option maxHeartbeats 4000000
namespace Nw
open PySem L2
theorem Al.both {α : Type} {R : α → V → Prop} {ps qs : List α} {vs us : List V} (a : Al R ps vs) (b : Al R qs us) : Al R (ps ++ qs) (vs ++ us) := by
  refine ⟨by rw [List.length_append, List.length_append, a.len, b.len], fun i q u h1 h2 => ?_⟩
  by_cases hi : i < ps.length
  · rw [List.getElem?_append_left hi] at h1
    rw [List.getElem?_append_left (by rw [← a.len]; exact hi)] at h2
    exact a.at_ i q u h1 h2
  · have hi : ps.length ≤ i := Nat.le_of_not_lt hi
    rw [List.getElem?_append_right hi] at h1
    rw [List.getElem?_append_right (by rw [← a.len]; exact hi), ← a.len] at h2
    exact b.at_ _ q u h1 h2
theorem stop_eq (ps : List Pl) (ds : List De) (rm : List Int) : stopB ps ds rm = (ds.filter fun d => !(behR ps d rm).isEmpty).isEmpty := by
  unfold stopB
  induction ds with
  | nil => rfl
  | cons d ds ih =>
    rw [List.map_cons, List.all_cons, ih, List.filter_cons]
    cases (behR ps d rm).isEmpty <;> rfl
theorem dep_tr : ∀ t : Tr, dep (trD t) ≤ dp t + 1
  | .num n => by simp [trD, dep, deps]
  | .nam n => by simp [trD, dep, deps]
  | .op g l r => by
    have h1 := dep_tr l
    have h2 := dep_tr r
    simp only [trD, dep, deps, dp]
    omega
theorem dep_sy {l : List Str} : ∀ {t : Sy}, FitsS l t → dep (syD t) ≤ dps t + 12
  | .yes, _ => by simp [syD, dep, deps]
  | .cmp g a b, h => by
    obtain ⟨_, _, la, lb⟩ : Fits l a ∧ Fits l b ∧ lv a ≤ 9 ∧ lv b ≤ 9 := h
    have h1 := dep_tr a
    have h2 := dep_tr b
    have h3 := dp_lt a
    have h4 := dp_lt b
    simp only [syD, dep, deps, dps]
    omega
  | .neg s, h => by
    have h1 := dep_sy (t := s) h
    simp only [syD, dep, deps, dps]
    omega
  | .bin g a b, h => by
    obtain ⟨ha, hb⟩ : FitsS l a ∧ FitsS l b := h
    have h1 := dep_sy ha
    have h2 := dep_sy hb
    simp only [syD, dep, deps, dps]
    omega
theorem dep_ch {l : List Str} : ∀ {g : Ch}, FitsC l 8 g → dep (chD g) ≤ 10
  | .cha n, _ => by simp [chD, dep, deps]
  | .put n t, h => by
    obtain ⟨_, _, h1⟩ : Fits l t ∧ lv t ≤ 100 ∧ dp t < 8 := h
    have h2 := dep_tr t
    simp only [chD, dep, deps]
    omega
  | .any n t u, h => by
    obtain ⟨⟨_, _, h1⟩, _, _, h3⟩ : (Fits l t ∧ lv t ≤ 100 ∧ dp t < 8) ∧ Fits l u ∧ lv u ≤ 100 ∧ dp u < 8 := h
    have h2 := dep_tr t
    have h4 := dep_tr u
    simp only [chD, dep, deps]
    omega
theorem dep_chs {l : List Str} : ∀ {cs : List Ch}, (∀ c ∈ cs, FitsC l 8 c) → deps (cs.map chD) ≤ 10
  | [], _ => by simp [deps]
  | c :: cs, h => by
    have h1 := dep_ch (h c (List.mem_cons_self ..))
    have h2 := dep_chs (cs := cs) fun c hc => h c (List.mem_cons_of_mem _ hc)
    rw [List.map_cons, deps]
    omega
theorem dep_des {l : List Str} : ∀ {ds : List De}, (∀ d ∈ ds, DeOk l d) → deps (ds.map deD) ≤ 30
  | [], _ => by simp [deps]
  | d :: ds, h => by
    have o := h d (List.mem_cons_self ..)
    have h1 := dep_sy o.wh
    have h2 := dep_chs (cs := d.chs) fun c hc => (o.ch c hc).1
    have h3 := dep_des (ds := ds) fun d hd => h d (List.mem_cons_of_mem _ hd)
    have h4 := o.dp
    rw [List.map_cons, deps]
    have h5 : dep (deD d) ≤ 20 := by
      simp only [deD, dep, deps]
      omega
    omega
theorem is_ma {K : PySem.W.Frag} {H : Hp} {ps : List Pl} {ds : List De} {v : V} (h : Is K H (maD ps ds) v) : ∃ x tp td ys us, v = .ref x ∧ SqT K H x [.ref tp, .ref td] ∧ SqT K H tp ys ∧ Iss K H (ps.map plD) ys ∧ SqT K H td us ∧ Iss K H (ds.map deD) us := by
  rw [maD, Is] at h
  obtain ⟨x, xs, e, h1, h2⟩ := h
  simp only [Iss] at h2
  obtain ⟨v1, r1, rfl, i1, v2, r2, rfl, i2, rfl⟩ := h2
  rw [Is] at i1
  rw [Is] at i2
  obtain ⟨tp, ys, rfl, j1, j2⟩ := i1
  obtain ⟨td, us, rfl, k1, k2⟩ := i2
  exact ⟨x, tp, td, ys, us, e, h1, j1, j2, k1, k2⟩
theorem behR_len {ps : List Pl} {d : De} {rm : List Int} (R : RmOk ps rm) (op : ∀ p ∈ ps, PlOk p) : (behR ps d rm).length ≤ 1296 := by
  unfold behR
  split
  · have l6 : ∀ l ∈ optsR ps d rm, l.length ≤ 6 := by
      intro l hl
      unfold optsR at hl
      obtain ⟨z, hz, rfl⟩ := List.mem_map.mp hl
      exact optI_len _ (op _ (List.of_mem_zip hz).1) _ _
    have ll : (optsR ps d rm).length = ps.length := by unfold optsR; rw [List.length_map, R.zlen]
    have h := prodP_len l6 (optsR ps d rm).length (Nat.le_refl _)
    rw [List.take_of_length_le (Nat.le_refl _), ll] at h
    refine Nat.le_trans h ?_
    have few := R.few
    generalize ps.length = n at few
    have : n = 0 ∨ n = 1 ∨ n = 2 ∨ n = 3 ∨ n = 4 := by omega
    rcases this with rfl | rfl | rfl | rfl | rfl <;> decide
  · exact Nat.zero_le _
def RmH (ps : List Pl) (H : Hp) (rm : List Int) (v : V) : Prop := RmOk ps rm ∧ ∃ r, v = .ref r ∧ H r = some (.tup (rm.map V.int))
theorem RmH.same {ps : List Pl} {H H' : Hp} (s : Same H H') {rm : List Int} {v : V} (h : RmH ps H rm v) : RmH ps H' rm v := by
  obtain ⟨R, r, e, h⟩ := h
  exact ⟨R, r, e, s _ _ h⟩
theorem RmH.put {ps : List Pl} {H : Hp} {pl : Addr} {us zs : List V} (hl : H pl = some (.lst us)) {rm : List Int} {v : V} (h : RmH ps H rm v) : RmH ps (upd H pl (.lst zs)) rm v := by
  obtain ⟨R, r, e, h⟩ := h
  exact ⟨R, r, e, by rw [upd_ne (ne_of h hl (by intro z; cases z))]; exact h⟩
section
variable {P : Program} {w : World} {K : PySem.W.Frag} {mg : Str → Option Value} {base : Heap}
def spLaw (K : PySem.W.Frag) : Sp := fun vs H Q _ => ∃ (a : Addr) (ns : List Int), vs = [.ref a] ∧ SqL K H a (ns.map V.int) ∧ ns.length ≤ 63 ∧ ∀ H', Q (.bl true) H'
theorem scLaw : FnScope ["_law_script", "_law_head", "_law_places_here", "_law_deeds", "_law_made", "_law_keeps", "_law_machine_here", "_law_k", "_law_first", "_law_rooms", "_law_room_here", "_law_due", "_law_found"] ["_law_script"] (defScope sLaw) := ⟨rfl, rfl, rfl, by decide +kernel, rfl, by decide +kernel, by decide +kernel⟩
theorem nd_scLaw1 : (["_law_script", "_law_head", "_law_places_here", "_law_deeds", "_law_made", "_law_keeps", "_law_machine_here", "_law_k", "_law_first", "_law_rooms", "_law_room_here", "_law_due", "_law_found", "_law_deed_here"] : List Str).Nodup := by decide +kernel
theorem nd_scLaw2 : (["_law_script", "_law_head", "_law_places_here", "_law_deeds", "_law_made", "_law_keeps", "_law_machine_here", "_law_k", "_law_first", "_law_rooms", "_law_room_here", "_law_due", "_law_found", "_law_place"] : List Str).Nodup := by decide +kernel
theorem nd_scLaw3 : (["_law_script", "_law_head", "_law_places_here", "_law_deeds", "_law_made", "_law_keeps", "_law_machine_here", "_law_k", "_law_first", "_law_rooms", "_law_room_here", "_law_due", "_law_found"] : List Str).Nodup := by decide +kernel
theorem nd_scLaw4 : (["_law_script", "_law_head", "_law_places_here", "_law_deeds", "_law_made", "_law_keeps", "_law_machine_here", "_law_k", "_law_first", "_law_rooms", "_law_room_here", "_law_due", "_law_found", "_law_deed_here"] : List Str).Nodup := by decide +kernel
structure Txt (K : PySem.W.Frag) (mg : Str → Option Value) (CK : Kd → Addr) (CC : Kc → Addr) (CY : Ks → Addr) (CD CM : Addr) (fNI fMI fTI fPI fOI fCI fUI fAI fDI fZI fNW fMW fPW fIW fXW fCC fUC fAC fYH fLH fAH fEH fUH fBH fOH fTH fZV fZD fZF fZS fAt fBe fDr fNa fSu fWo fHa fWh fSg fHo fTo fPl fCg fDe fMa fCo fDo fOp fLb fRm fXo fXr fLv : Addr) (dNI dMI dTI dPI dOI dCI dUI dAI dDI dZI dNW dMW dPW dIW dXW dCC dUC dAC dYH dLH dAH dEH dUH dBH dOH dTH dZV dZD dZF dZS dAt dBe dDr dNa dSu dWo dHa dWh dSg dHo dTo dPl dCg dDe dMa dCo dDo dOp dLb dRm dXo dXr dLv : FuncData) : Prop where
  bl : Bl mg
  mkr : Maker K mg CK fNI fMI fTI dNI dMI dTI
  mks : MakerS K mg CY fPI fOI dPI dOI
  cc : ClsC K CC
  cd : ClsD K CD
  cz : ClsM K CM
  mkU : Mk K (CC .put) fUI
  mkA : Mk K (CC .any) fAI
  mkD : Mk K CD fDI
  mkZ : Mk K CM fZI
  gC : mg "Change" = some (.ref (CC .cha))
  gU : mg "Put" = some (.ref (CC .put))
  gA : mg "Any" = some (.ref (CC .any))
  gD : mg "Deed" = some (.ref CD)
  gZ : mg "Machine" = some (.ref CM)
  cm : CMeth K (CC .cha) "__init__" fCI
  FCI : Fun K "__init__" "Change.__init__" sChaI fCI dCI
  bCI : Binds K dCI ["self", "name"] []
  FUI : Fun K "__init__" "Put.__init__" sPutI fUI dUI
  bUI : Binds K dUI ["self", "name", "one"] []
  FAI : Fun K "__init__" "Any.__init__" sAnyI fAI dAI
  bAI : Binds K dAI ["self", "name", "one", "other"] []
  FDI : Fun K "__init__" "Deed.__init__" sDeeI fDI dDI
  bDI : Binds K dDI ["self", "called", "when", "changes"] []
  FZI : Fun K "__init__" "Machine.__init__" sMacI fZI dZI
  bZI : Binds K dZI ["self", "places", "keeps", "deeds"] []
  FNW : Fun K "worth" "Number.worth" sNumW fNW dNW
  bNW : Binds K dNW ["self", "values"] []
  mNW : Meth K (CK .num) "worth" fNW
  FMW : Fun K "worth" "Named.worth" sNamW fMW dMW
  bMW : Binds K dMW ["self", "values"] []
  mMW : Meth K (CK .nam) "worth" fMW
  FPW : Fun K "worth" "Plus.worth" sPluW fPW dPW
  bPW : Binds K dPW ["self", "values"] []
  mPW : Meth K (CK (.op .plus)) "worth" fPW
  FIW : Fun K "worth" "Minus.worth" sMinW fIW dIW
  bIW : Binds K dIW ["self", "values"] []
  mIW : Meth K (CK (.op .minus)) "worth" fIW
  FXW : Fun K "worth" "Times.worth" sTimW fXW dXW
  bXW : Binds K dXW ["self", "values"] []
  mXW : Meth K (CK (.op .times)) "worth" fXW
  FCC : Fun K "choices" "Change.choices" sChaC fCC dCC
  bCC : Binds K dCC ["self", "values", "low", "high"] []
  mCC : Meth K (CC .cha) "choices" fCC
  FUC : Fun K "choices" "Put.choices" sPutC fUC dUC
  bUC : Binds K dUC ["self", "values", "low", "high"] []
  mUC : Meth K (CC .put) "choices" fUC
  FAC : Fun K "choices" "Any.choices" sAnyC fAC dAC
  bAC : Binds K dAC ["self", "values", "low", "high"] []
  mAC : Meth K (CC .any) "choices" fAC
  FYH : Fun K "holds" "Saying.holds" sSayH fYH dYH
  bYH : Binds K dYH ["self", "values"] []
  mYH : Meth K (CY .yes) "holds" fYH
  FLH : Fun K "holds" "Less.holds" sLesH fLH dLH
  bLH : Binds K dLH ["self", "values"] []
  mLH : Meth K (CY (.cmp .lt)) "holds" fLH
  FAH : Fun K "holds" "AtMost.holds" sAtmH fAH dAH
  bAH : Binds K dAH ["self", "values"] []
  mAH : Meth K (CY (.cmp .le)) "holds" fAH
  FEH : Fun K "holds" "Equal.holds" sEquH fEH dEH
  bEH : Binds K dEH ["self", "values"] []
  mEH : Meth K (CY (.cmp .eq)) "holds" fEH
  FUH : Fun K "holds" "Unlike.holds" sUnlH fUH dUH
  bUH : Binds K dUH ["self", "values"] []
  mUH : Meth K (CY (.cmp .ne)) "holds" fUH
  FBH : Fun K "holds" "Both.holds" sBotH fBH dBH
  bBH : Binds K dBH ["self", "values"] []
  mBH : Meth K (CY (.bin .and)) "holds" fBH
  FOH : Fun K "holds" "Either.holds" sEitH fOH dOH
  bOH : Binds K dOH ["self", "values"] []
  mOH : Meth K (CY (.bin .or)) "holds" fOH
  FTH : Fun K "holds" "Not.holds" sNotH fTH dTH
  bTH : Binds K dTH ["self", "values"] []
  mTH : Meth K (CY .neg) "holds" fTH
  FZV : Fun K "values_in" "Machine.values_in" sValuesIn fZV dZV
  bZV : Binds K dZV ["self", "room"] []
  mZV : Meth K (CM) "values_in" fZV
  FZD : Fun K "rooms_by_deed" "Machine.rooms_by_deed" sByDeed fZD dZD
  bZD : Binds K dZD ["self", "room", "deed"] []
  mZD : Meth K (CM) "rooms_by_deed" fZD
  FZF : Fun K "first" "Machine.first" sFirst fZF dZF
  bZF : Binds K dZF ["self"] []
  mZF : Meth K (CM) "first" fZF
  FZS : Fun K "stops" "Machine.stops" sStops fZS dZS
  bZS : Binds K dZS ["self", "room"] []
  mZS : Meth K (CM) "stops" fZS
  gAt : mg "_law_at" = some (.ref fAt)
  FAt : Fun K "_law_at" "_law_at" sAt fAt dAt
  bAt : Binds K dAt ["_law_script", "_law_k"] []
  gBe : mg "_law_begin" = some (.ref fBe)
  FBe : Fun K "_law_begin" "_law_begin" sBegin fBe dBe
  bBe : Binds K dBe ["_law_cell"] []
  gDr : mg "_law_draw" = some (.ref fDr)
  FDr : Fun K "_law_draw" "_law_draw" sDraw fDr dDr
  bDr : Binds K dDr ["_law_state", "_law_many"] []
  gNa : mg "_law_names" = some (.ref fNa)
  FNa : Fun K "_law_names" "_law_names" sNames fNa dNa
  bNa : Binds K dNa ["_law_cell", "_law_many"] []
  gSu : mg "_law_sum" = some (.ref fSu)
  FSu : Fun K "_law_sum" "_law_sum" sSum fSu dSu
  bSu : Binds K dSu ["_law_state", "_law_names_here", "_law_near", "_law_depth"] []
  gWo : mg "_law_worth" = some (.ref fWo)
  FWo : Fun K "_law_worth" "_law_worth" sWorth fWo dWo
  bWo : Binds K dWo ["_law_one", "_law_values_here"] []
  gHa : mg "_law_sum_of" = some (.ref fHa)
  FHa : Fun K "_law_sum_of" "_law_sum_of" sHand fHa dHa
  bHa : Binds K dHa ["_law_one"] []
  gWh : mg "_law_whole" = some (.ref fWh)
  FWh : Fun K "_law_whole" "_law_whole" sWhole fWh dWh
  bWh : Binds K dWh ["_law_found"] []
  gSg : mg "_law_saying" = some (.ref fSg)
  FSg : Fun K "_law_saying" "_law_saying" sSaying fSg dSg
  bSg : Binds K dSg ["_law_state", "_law_names_here", "_law_near", "_law_depth"] []
  gHo : mg "_law_holds" = some (.ref fHo)
  FHo : Fun K "_law_holds" "_law_holds" sHolds fHo dHo
  bHo : Binds K dHo ["_law_one", "_law_values_here"] []
  gTo : mg "_law_saying_of" = some (.ref fTo)
  FTo : Fun K "_law_saying_of" "_law_saying_of" sTold fTo dTo
  bTo : Binds K dTo ["_law_one"] []
  gPl : mg "_law_places" = some (.ref fPl)
  FPl : Fun K "_law_places" "_law_places" sPlaces fPl dPl
  bPl : Binds K dPl ["_law_script", "_law_start", "_law_names_here"] []
  gCg : mg "_law_change" = some (.ref fCg)
  FCg : Fun K "_law_change" "_law_change" sChange fCg dCg
  bCg : Binds K dCg ["_law_cell", "_law_place", "_law_names_here"] []
  gDe : mg "_law_deed" = some (.ref fDe)
  FDe : Fun K "_law_deed" "_law_deed" sDeed fDe dDe
  bDe : Binds K dDe ["_law_script", "_law_start", "_law_called", "_law_places_here"] []
  gMa : mg "_law_machine" = some (.ref fMa)
  FMa : Fun K "_law_machine" "_law_machine" sMachine fMa dMa
  bMa : Binds K dMa ["_law_script", "_law_start", "_law_many_names", "_law_many_deeds"] []
  gCo : mg "_law_change_of" = some (.ref fCo)
  FCo : Fun K "_law_change_of" "_law_change_of" sChangeOf fCo dCo
  bCo : Binds K dCo ["_law_change_here"] []
  gDo : mg "_law_deed_of" = some (.ref fDo)
  FDo : Fun K "_law_deed_of" "_law_deed_of" sDeedOf fDo dDo
  bDo : Binds K dDo ["_law_deed_here"] []
  gOp : mg "_law_options" = some (.ref fOp)
  FOp : Fun K "_law_options" "_law_options" sOptions fOp dOp
  bOp : Binds K dOp ["_law_place", "_law_value", "_law_deed_here", "_law_values_here"] []
  gLb : mg "_law_behind" = some (.ref fLb)
  FLb : Fun K "_law_behind" "_law_behind" sLBehind fLb dLb
  bLb : Binds K dLb ["_law_places_here", "_law_deed_here", "_law_room_here"] []
  gRm : mg "_law_room" = some (.ref fRm)
  FRm : Fun K "_law_room" "_law_room" sRoom fRm dRm
  bRm : Binds K dRm ["_law_places_here", "_law_cell"] []
  gXo : mg "choices_of" = some (.ref fXo)
  FXo : Fun K "choices_of" "choices_of" sChoicesOf fXo dXo
  bXo : Binds K dXo ["place", "value", "changes", "values"] []
  gXr : mg "rooms_by_choices" = some (.ref fXr)
  FXr : Fun K "rooms_by_choices" "rooms_by_choices" sByChoices fXr dXr
  bXr : Binds K dXr ["lists"] []
  gLv : mg "_law_values" = some (.ref fLv)
  FLv : Fun K "_law_values" "_law_values" sLValues fLv dLv
  bLv : Binds K dLv ["_law_machine_here", "_law_places_here", "_law_room_here"] []
variable {CK : Kd → Addr} {CC : Kc → Addr} {CY : Ks → Addr} {CD CM : Addr} {fNI fMI fTI fPI fOI fCI fUI fAI fDI fZI fNW fMW fPW fIW fXW fCC fUC fAC fYH fLH fAH fEH fUH fBH fOH fTH fZV fZD fZF fZS fAt fBe fDr fNa fSu fWo fHa fWh fSg fHo fTo fPl fCg fDe fMa fCo fDo fOp fLb fRm fXo fXr fLv : Addr} {dNI dMI dTI dPI dOI dCI dUI dAI dDI dZI dNW dMW dPW dIW dXW dCC dUC dAC dYH dLH dAH dEH dUH dBH dOH dTH dZV dZD dZF dZS dAt dBe dDr dNa dSu dWo dHa dWh dSg dHo dTo dPl dCg dDe dMa dCo dDo dOp dLb dRm dXo dXr dLv : FuncData}
theorem worths (T : Txt K mg CK CC CY CD CM fNI fMI fTI fPI fOI fCI fUI fAI fDI fZI fNW fMW fPW fIW fXW fCC fUC fAC fYH fLH fAH fEH fUH fBH fOH fTH fZV fZD fZF fZS fAt fBe fDr fNa fSu fWo fHa fWh fSg fHo fTo fPl fCg fDe fMa fCo fDo fOp fLb fRm fXo fXr fLv dNI dMI dTI dPI dOI dCI dUI dAI dDI dZI dNW dMW dPW dIW dXW dCC dUC dAC dYH dLH dAH dEH dUH dBH dOH dTH dZV dZD dZF dZS dAt dBe dDr dNa dSu dWo dHa dWh dSg dHo dTo dPl dCg dDe dMa dCo dDo dOp dLb dRm dXo dXr dLv) :
    ∀ (n : Nat) (k : Kd), MOk P w K mg base (n + 1) (CK k) "worth" (spW CK n k)
  | n, .num => ⟨T.mkr.cls.cl _, _, _, _, T.mNW, (ok_numW T.mkr.cls T.FNW n).mono (Nat.le_add_left 1 n), T.bNW⟩
  | n, .nam => ⟨T.mkr.cls.cl _, _, _, _, T.mMW, (ok_namW T.mkr.cls T.FMW n).mono (Nat.le_add_left 1 n), T.bMW⟩
  | 0, .op .plus => ⟨T.mkr.cls.cl _, _, _, _, T.mPW, fn_none (spW_none _), T.bPW⟩
  | 0, .op .minus => ⟨T.mkr.cls.cl _, _, _, _, T.mIW, fn_none (spW_none _), T.bIW⟩
  | 0, .op .times => ⟨T.mkr.cls.cl _, _, _, _, T.mXW, fn_none (spW_none _), T.bXW⟩
  | n + 1, .op .plus => ⟨T.mkr.cls.cl _, _, _, _, T.mPW, ok_pluW T.mkr.cls T.FPW n (worths T n), T.bPW⟩
  | n + 1, .op .minus => ⟨T.mkr.cls.cl _, _, _, _, T.mIW, ok_minW T.mkr.cls T.FIW n (worths T n), T.bIW⟩
  | n + 1, .op .times => ⟨T.mkr.cls.cl _, _, _, _, T.mXW, ok_timW T.mkr.cls T.FXW n (worths T n), T.bXW⟩
theorem choices (T : Txt K mg CK CC CY CD CM fNI fMI fTI fPI fOI fCI fUI fAI fDI fZI fNW fMW fPW fIW fXW fCC fUC fAC fYH fLH fAH fEH fUH fBH fOH fTH fZV fZD fZF fZS fAt fBe fDr fNa fSu fWo fHa fWh fSg fHo fTo fPl fCg fDe fMa fCo fDo fOp fLb fRm fXo fXr fLv dNI dMI dTI dPI dOI dCI dUI dAI dDI dZI dNW dMW dPW dIW dXW dCC dUC dAC dYH dLH dAH dEH dUH dBH dOH dTH dZV dZD dZF dZS dAt dBe dDr dNa dSu dWo dHa dWh dSg dHo dTo dPl dCg dDe dMa dCo dDo dOp dLb dRm dXo dXr dLv) : ∀ k : Kc, MOk P w K mg base 10 (CC k) "choices" (spC CK CC 8 k)
  | .cha => ⟨T.cc.cl _, _, _, _, T.mCC, (ok_chaC T.FCC 8).mono (by decide), T.bCC⟩
  | .put => ⟨T.cc.cl _, _, _, _, T.mUC, ok_putC T.cc T.FUC 8 (worths T 8), T.bUC⟩
  | .any => ⟨T.cc.cl _, _, _, _, T.mAC, ok_anyC T.bl T.cc T.FAC 8 (worths T 8), T.bAC⟩
theorem holdses (T : Txt K mg CK CC CY CD CM fNI fMI fTI fPI fOI fCI fUI fAI fDI fZI fNW fMW fPW fIW fXW fCC fUC fAC fYH fLH fAH fEH fUH fBH fOH fTH fZV fZD fZF fZS fAt fBe fDr fNa fSu fWo fHa fWh fSg fHo fTo fPl fCg fDe fMa fCo fDo fOp fLb fRm fXo fXr fLv dNI dMI dTI dPI dOI dCI dUI dAI dDI dZI dNW dMW dPW dIW dXW dCC dUC dAC dYH dLH dAH dEH dUH dBH dOH dTH dZV dZD dZF dZS dAt dBe dDr dNa dSu dWo dHa dWh dSg dHo dTo dPl dCg dDe dMa dCo dDo dOp dLb dRm dXo dXr dLv) : ∀ (n : Nat) (k : Ks), MOk P w K mg base (n + 11) (CY k) "holds" (spH CK CY n k)
  | n, .yes => ⟨T.mks.cls.cl _, _, _, _, T.mYH, (ok_yesH T.FYH n).mono (by omega), T.bYH⟩
  | n, .cmp .lt => ⟨T.mks.cls.cl _, _, _, _, T.mLH, (ok_lesH T.mks.cls T.FLH (worths T 9) n).mono (by omega), T.bLH⟩
  | n, .cmp .le => ⟨T.mks.cls.cl _, _, _, _, T.mAH, (ok_atmH T.mks.cls T.FAH (worths T 9) n).mono (by omega), T.bAH⟩
  | n, .cmp .eq => ⟨T.mks.cls.cl _, _, _, _, T.mEH, (ok_equH T.mks.cls T.FEH (worths T 9) n).mono (by omega), T.bEH⟩
  | n, .cmp .ne => ⟨T.mks.cls.cl _, _, _, _, T.mUH, (ok_unlH T.mks.cls T.FUH (worths T 9) n).mono (by omega), T.bUH⟩
  | 0, .bin .and => ⟨T.mks.cls.cl _, _, _, _, T.mBH, fn_none (spH_none _), T.bBH⟩
  | 0, .bin .or => ⟨T.mks.cls.cl _, _, _, _, T.mOH, fn_none (spH_none _), T.bOH⟩
  | 0, .neg => ⟨T.mks.cls.cl _, _, _, _, T.mTH, fn_none (spH_none _), T.bTH⟩
  | n + 1, .bin .and => ⟨T.mks.cls.cl _, _, _, _, T.mBH, ok_botH T.mks.cls T.FBH n (holdses T n), T.bBH⟩
  | n + 1, .bin .or => ⟨T.mks.cls.cl _, _, _, _, T.mOH, ok_eitH T.mks.cls T.FOH n (holdses T n), T.bOH⟩
  | n + 1, .neg => ⟨T.mks.cls.cl _, _, _, _, T.mTH, ok_notH T.mks.cls T.FTH n (holdses T n), T.bTH⟩
theorem valuesIn (T : Txt K mg CK CC CY CD CM fNI fMI fTI fPI fOI fCI fUI fAI fDI fZI fNW fMW fPW fIW fXW fCC fUC fAC fYH fLH fAH fEH fUH fBH fOH fTH fZV fZD fZF fZS fAt fBe fDr fNa fSu fWo fHa fWh fSg fHo fTo fPl fCg fDe fMa fCo fDo fOp fLb fRm fXo fXr fLv dNI dMI dTI dPI dOI dCI dUI dAI dDI dZI dNW dMW dPW dIW dXW dCC dUC dAC dYH dLH dAH dEH dUH dBH dOH dTH dZV dZD dZF dZS dAt dBe dDr dNa dSu dWo dHa dWh dSg dHo dTo dPl dCg dDe dMa dCo dDo dOp dLb dRm dXo dXr dLv) : MOk P w K mg base 1 CM "values_in" (spValuesIn K CK CC CY CD CM) := ⟨T.cz.cl, _, _, _, T.mZV, ok_valuesIn T.bl T.cz T.FZV, T.bZV⟩
theorem byDeed (T : Txt K mg CK CC CY CD CM fNI fMI fTI fPI fOI fCI fUI fAI fDI fZI fNW fMW fPW fIW fXW fCC fUC fAC fYH fLH fAH fEH fUH fBH fOH fTH fZV fZD fZF fZS fAt fBe fDr fNa fSu fWo fHa fWh fSg fHo fTo fPl fCg fDe fMa fCo fDo fOp fLb fRm fXo fXr fLv dNI dMI dTI dPI dOI dCI dUI dAI dDI dZI dNW dMW dPW dIW dXW dCC dUC dAC dYH dLH dAH dEH dUH dBH dOH dTH dZV dZD dZF dZS dAt dBe dDr dNa dSu dWo dHa dWh dSg dHo dTo dPl dCg dDe dMa dCo dDo dOp dLb dRm dXo dXr dLv) : MOk P w K mg base 16 CM "rooms_by_deed" (spByDeed K CK CC CY CD CM) :=
  ⟨T.cz.cl, _, _, _, T.mZD, ok_byDeed T.bl T.cz T.cd T.FZD T.FXo T.bXo T.gXo (ok_choicesOf T.cc T.FXo (choices T)) T.FXr T.bXr T.gXr (valuesIn T) (holdses T 4), T.bZD⟩
theorem g_machine (T : Txt K mg CK CC CY CD CM fNI fMI fTI fPI fOI fCI fUI fAI fDI fZI fNW fMW fPW fIW fXW fCC fUC fAC fYH fLH fAH fEH fUH fBH fOH fTH fZV fZD fZF fZS fAt fBe fDr fNa fSu fWo fHa fWh fSg fHo fTo fPl fCg fDe fMa fCo fDo fOp fLb fRm fXo fXr fLv dNI dMI dTI dPI dOI dCI dUI dAI dDI dZI dNW dMW dPW dIW dXW dCC dUC dAC dYH dLH dAH dEH dUH dBH dOH dTH dZV dZD dZF dZS dAt dBe dDr dNa dSu dWo dHa dWh dSg dHo dTo dPl dCg dDe dMa dCo dDo dOp dLb dRm dXo dXr dLv) : FnOk P w K mg base CX0 13 fMa dMa ["_law_script", "_law_start", "_law_many_names", "_law_many_deeds"] (spMachine K) :=
  ok_machine T.bl T.FMa T.FAt T.bAt T.gAt T.FNa T.bNa T.gNa (ok_names T.bl T.FNa T.FBe T.bBe T.gBe T.FDr T.bDr T.gDr) T.FPl T.bPl T.gPl (ok_places T.bl T.FPl T.FAt T.bAt T.gAt T.FBe T.bBe T.gBe T.FDr T.bDr T.gDr)
    T.FDe T.bDe T.gDe (ok_deed T.bl T.FDe T.FAt T.bAt T.gAt T.FSu T.bSu T.gSu T.FBe T.bBe T.gBe T.FDr T.bDr T.gDr T.FSg T.bSg T.gSg T.FCg T.bCg T.gCg)
theorem g_deedOf (T : Txt K mg CK CC CY CD CM fNI fMI fTI fPI fOI fCI fUI fAI fDI fZI fNW fMW fPW fIW fXW fCC fUC fAC fYH fLH fAH fEH fUH fBH fOH fTH fZV fZD fZF fZS fAt fBe fDr fNa fSu fWo fHa fWh fSg fHo fTo fPl fCg fDe fMa fCo fDo fOp fLb fRm fXo fXr fLv dNI dMI dTI dPI dOI dCI dUI dAI dDI dZI dNW dMW dPW dIW dXW dCC dUC dAC dYH dLH dAH dEH dUH dBH dOH dTH dZV dZD dZF dZS dAt dBe dDr dNa dSu dWo dHa dWh dSg dHo dTo dPl dCg dDe dMa dCo dDo dOp dLb dRm dXo dXr dLv) : FnOk P w K mg base CX0 18 fDo dDo ["_law_deed_here"] (spDeedOf K CK CC CY CD) :=
  ok_deedOf T.bl T.FDo T.FCo T.bCo T.gCo (ok_changeOf T.bl T.FCo T.FHa T.bHa T.gHa (ok_hand T.mkr T.FHa T.bHa T.gHa 8) T.mkU T.gU T.bUI T.FUI (ok_putI T.cc T.FUI T.FCI T.bCI T.gC T.cm) T.mkA T.gA T.bAI T.FAI (ok_anyI T.cc T.FAI T.FCI T.bCI T.gC T.cm))
    T.FTo T.bTo T.gTo (ok_told T.mkr T.mks T.FTo T.bTo T.gTo T.FHa T.bHa T.gHa 4) T.cd T.mkD T.gD T.bDI T.FDI
theorem g_lBehind (T : Txt K mg CK CC CY CD CM fNI fMI fTI fPI fOI fCI fUI fAI fDI fZI fNW fMW fPW fIW fXW fCC fUC fAC fYH fLH fAH fEH fUH fBH fOH fTH fZV fZD fZF fZS fAt fBe fDr fNa fSu fWo fHa fWh fSg fHo fTo fPl fCg fDe fMa fCo fDo fOp fLb fRm fXo fXr fLv dNI dMI dTI dPI dOI dCI dUI dAI dDI dZI dNW dMW dPW dIW dXW dCC dUC dAC dYH dLH dAH dEH dUH dBH dOH dTH dZV dZD dZF dZS dAt dBe dDr dNa dSu dWo dHa dWh dSg dHo dTo dPl dCg dDe dMa dCo dDo dOp dLb dRm dXo dXr dLv) : FnOk P w K mg base CX0 16 fLb dLb ["_law_places_here", "_law_deed_here", "_law_room_here"] (spLBehind K) :=
  ok_lBehind T.bl T.FLb T.FHo T.bHo T.gHo (ok_holds T.bl T.FHo T.bHo T.gHo T.FWo T.bWo T.gWo 4) T.FOp T.bOp T.gOp (ok_options T.bl T.FOp T.FWo T.bWo T.gWo)
theorem g_first (T : Txt K mg CK CC CY CD CM fNI fMI fTI fPI fOI fCI fUI fAI fDI fZI fNW fMW fPW fIW fXW fCC fUC fAC fYH fLH fAH fEH fUH fBH fOH fTH fZV fZD fZF fZS fAt fBe fDr fNa fSu fWo fHa fWh fSg fHo fTo fPl fCg fDe fMa fCo fDo fOp fLb fRm fXo fXr fLv dNI dMI dTI dPI dOI dCI dUI dAI dDI dZI dNW dMW dPW dIW dXW dCC dUC dAC dYH dLH dAH dEH dUH dBH dOH dTH dZV dZD dZF dZS dAt dBe dDr dNa dSu dWo dHa dWh dSg dHo dTo dPl dCg dDe dMa dCo dDo dOp dLb dRm dXo dXr dLv) : MOk P w K mg base 1 CM "first" (spFirst K CK CC CY CD CM) := ⟨T.cz.cl, _, _, _, T.mZF, ok_first T.bl T.cz T.FZF, T.bZF⟩
theorem g_stops (T : Txt K mg CK CC CY CD CM fNI fMI fTI fPI fOI fCI fUI fAI fDI fZI fNW fMW fPW fIW fXW fCC fUC fAC fYH fLH fAH fEH fUH fBH fOH fTH fZV fZD fZF fZS fAt fBe fDr fNa fSu fWo fHa fWh fSg fHo fTo fPl fCg fDe fMa fCo fDo fOp fLb fRm fXo fXr fLv dNI dMI dTI dPI dOI dCI dUI dAI dDI dZI dNW dMW dPW dIW dXW dCC dUC dAC dYH dLH dAH dEH dUH dBH dOH dTH dZV dZD dZF dZS dAt dBe dDr dNa dSu dWo dHa dWh dSg dHo dTo dPl dCg dDe dMa dCo dDo dOp dLb dRm dXo dXr dLv) : MOk P w K mg base 17 CM "stops" (spStops K CK CC CY CD CM) := ⟨T.cz.cl, _, _, _, T.mZS, ok_stops T.bl T.cz T.FZS (byDeed T), T.bZS⟩
theorem ok_law {f : Addr} {fd : FuncData} (T : Txt K mg CK CC CY CD CM fNI fMI fTI fPI fOI fCI fUI fAI fDI fZI fNW fMW fPW fIW fXW fCC fUC fAC fYH fLH fAH fEH fUH fBH fOH fTH fZV fZD fZF fZS fAt fBe fDr fNa fSu fWo fHa fWh fSg fHo fTo fPl fCg fDe fMa fCo fDo fOp fLb fRm fXo fXr fLv dNI dMI dTI dPI dOI dCI dUI dAI dDI dZI dNW dMW dPW dIW dXW dCC dUC dAC dYH dLH dAH dEH dUH dBH dOH dTH dZV dZD dZF dZS dAt dBe dDr dNa dSu dWo dHa dWh dSg dHo dTo dPl dCg dDe dMa dCo dDo dOp dLb dRm dXo dXr dLv) (F : Fun K "law" "law" sLaw f fd) : FnOk P w K mg base CX0 19 f fd ["_law_script"] (spLaw K) := by
  have B := T.bl
  have GAt : FnOk P w K mg base CX0 1 fAt dAt ["_law_script", "_law_k"] (spAt K) := ok_at B T.FAt
  have GMa : FnOk P w K mg base CX0 13 fMa dMa ["_law_script", "_law_start", "_law_many_names", "_law_many_deeds"] (spMachine K) := g_machine T
  have GDo : FnOk P w K mg base CX0 18 fDo dDo ["_law_deed_here"] (spDeedOf K CK CC CY CD) := g_deedOf T
  have GLb : FnOk P w K mg base CX0 16 fLb dLb ["_law_places_here", "_law_deed_here", "_law_room_here"] (spLBehind K) := g_lBehind T
  have GRm : FnOk P w K mg base CX0 2 fRm dRm ["_law_places_here", "_law_cell"] (spRoom K) := ok_room B T.FRm T.FBe T.bBe T.gBe T.FDr T.bDr T.gDr
  have GTo : FnOk P w K mg base CX0 17 fTo dTo ["_law_one"] (spTold K CK CY 4) := ok_told T.mkr T.mks T.FTo T.bTo T.gTo T.FHa T.bHa T.gHa 4
  have GLv : FnOk P w K mg base CX0 2 fLv dLv ["_law_machine_here", "_law_places_here", "_law_room_here"] (spLValues K CK CC CY CD CM) := ok_lValues B T.FLv T.FWh T.bWh T.gWh (valuesIn T)
  have GZI : FnOk P w K mg base CX0 1 fZI dZI ["self", "places", "keeps", "deeds"] (spMacI CM) := ok_macI T.cz T.FZI
  have MF : MOk P w K mg base 1 CM "first" (spFirst K CK CC CY CD CM) := g_first T
  have MS : MOk P w K mg base 17 CM "stops" (spStops K CK CC CY CD CM) := g_stops T
  have c := T.cz
  have cd := T.cd
  refine F.ok scLaw (fun vs H Q E h => ?_) (fun cdv A outer s H vs Q E hr h => ?_)
  · obtain ⟨a, ns, rfl, _⟩ := h
    rfl
  obtain ⟨a, ns, rfl, hS, h63, q⟩ := h
  have hr1 : Room 1 _ := hr.mono (by decide)
  have hr2 : Room 2 _ := hr.mono (by decide)
  have hr13 : Room 13 _ := hr.mono (by decide)
  have hr16 : Room 16 _ := hr.mono (by decide)
  have hr17 : Room 17 _ := hr.mono (by decide)
  have hu := hu60 hr
  refine ⟨_, (@pss_cons _ _ _ _ _ (@ps_set _ _ 1 _ _ _ _ scLaw.nd rfl (Or.inl rfl) (pe_call GAt hr1 (by rfl) T.gAt T.FAt.kp T.bAt .nil pass0 (@pa_cons _ _ _ _ _ (pv 0) (@pa_cons _ _ _ _ _ pe_int pa_nil (by rfl)) (by rfl))) rfl (Or.inl rfl)) (@pss_cons _ _ _ _ _ (ps_asg (pe_call GMa hr13 (by rfl) T.gMa T.FMa.kp T.bMa .nil pass0 (@pa_cons _ _ _ _ _ (pv 0) (@pa_cons _ _ _ _ _ pe_int (@pa_cons _ _ _ _ _ (@pe_op _ _ _ _ _ _ _ _ op_mod (pv 1) pe_int) (@pa_cons _ _ _ _ _ (@pe_op _ _ _ _ _ _ _ _ op_mod (@pe_op _ _ _ _ _ _ _ _ op_fdiv (pv 1) pe_int) pe_int) pa_nil (by rfl)) (by rfl)) (by rfl)) (by rfl))) (pg_tup (n := 2) rfl (pgs_cons (pg_name (i := 2) scLaw.nd rfl (Or.inr rfl)) (pgs_cons (pg_name (i := 3) scLaw.nd rfl (Or.inl rfl)) pgs_nil)))) (@pss_cons _ _ _ _ _ (@ps_set _ _ 4 _ _ _ _ scLaw.nd rfl (Or.inl rfl) (pe_callTy call_tuple_of (by rfl) B.tuple PyProof.Rows.boot_tuple (@pa_cons _ _ _ _ _ (pe_comp (NX := ["_law_script", "_law_head", "_law_places_here", "_law_deeds", "_law_made", "_law_keeps", "_law_machine_here", "_law_k", "_law_first", "_law_rooms", "_law_room_here", "_law_due", "_law_found"]) (N := ["_law_script", "_law_head", "_law_places_here", "_law_deeds", "_law_made", "_law_keeps", "_law_machine_here", "_law_k", "_law_first", "_law_rooms", "_law_room_here", "_law_due", "_law_found", "_law_deed_here"]) (ms := [true, true, true, true, true, true, true, true, true, true, true, true, true, false]) (ks := [13]) (out := defScope sLaw) (by exact ⟨rfl, by decide +kernel, by decide +kernel, by decide +kernel, by decide +kernel, by decide +kernel⟩) rfl rfl rfl (@pi_tup _ _ _ _ (pv 3)) (@sets_name 13) (by decide) (fun C ex s H => (pg_name (i := 13) nd_scLaw1 rfl (Or.inl rfl))) (fun C ex s H => pts_nil) (fun C ex s H => (pe_call GDo hr (by rfl) T.gDo T.FDo.kp T.bDo .nil pass0 (@pa_cons _ _ _ _ _ (pv 13) pa_nil (by rfl))))) pa_nil (by rfl))) rfl (Or.inl rfl)) (@pss_cons _ _ _ _ _ (@ps_set _ _ 5 _ _ _ _ scLaw.nd rfl (Or.inl rfl) (@pe_tup _ _ _ _ _ (@pa_cons _ _ _ _ _ (pe_call GTo hr17 (by rfl) T.gTo T.FTo.kp T.bTo .nil pass0 (@pa_cons _ _ _ _ _ (@pe_tup _ _ _ _ _ (@pa_cons _ _ _ _ _ pe_str pa_nil (by rfl))) pa_nil (by rfl))) pa_nil (by rfl))) rfl (Or.inl rfl)) (@pss_cons _ _ _ _ _ (@ps_set _ _ 6 _ _ _ _ scLaw.nd rfl (Or.inl rfl) (pe_make T.mkZ GZI hr2 rfl T.gZ T.bZI .nil pass0 (@pa_cons _ _ _ _ _ (pv 2) (@pa_cons _ _ _ _ _ (pv 5) (@pa_cons _ _ _ _ _ (pv 4) pa_nil (by rfl)) (by rfl)) (by rfl))) rfl (Or.inl rfl)) (@pss_cons _ _ _ _ _ (@ps_if _ _ _ _ _ _ _ _ (PW.pt (@pw_or _ _ _ _ _ _ _ (@pt_cmpR _ _ _ _ _ _ _ _ (op_neSelf hu) (@pe_fld _ _ _ _ _ (pv 6) rfl) (pv 2) (nomark _)) (@pw_or _ _ _ _ _ _ _ (@pt_cmpR _ _ _ _ _ _ _ _ (op_neSelf hu) (@pe_fld _ _ _ _ _ (pv 6) rfl) (pv 5) (nomark _)) (pw_or1 (@pt_cmpR _ _ _ _ _ _ _ _ (op_neSelf hu) (@pe_fld _ _ _ _ _ (pv 6) rfl) (pv 4) (nomark _)))))) (@pss_one _ _ _ (@ps_ret _ _ _ _ pe_bl)) pss_nil) (@pss_cons _ _ _ _ _ (@ps_for _ _ _ _ _ _ _ _ PassesOwn.never rfl (pi_range1 rfl B.range (@pa_cons _ _ _ _ _ (pe_callB call_len_seq (by rfl) B.len PySem.boot_len (@pa_cons _ _ _ _ _ (pv 3) pa_nil (by rfl))) pa_nil (by rfl))) (pg_name (i := 7) scLaw.nd rfl (Or.inl rfl)) (@pss_one _ _ _ (@ps_if _ _ _ _ _ _ _ _ (PW.pt (@pw_or _ _ _ _ _ _ _ (@pt_cmpR _ _ _ _ _ _ _ _ op_ne (@pe_fld _ _ _ _ _ (@pe_ix _ _ _ _ _ _ (rIxT K) ix_tup (@pe_fld _ _ _ _ _ (pv 6) rfl) (pv 7) (fun _ _ => rfl)) rfl) (@pe_ix _ _ _ _ _ _ (rIxT K) ix_tup (@pe_ix _ _ _ _ _ _ (rIxT K) ix_tup (pv 3) (pv 7) (fun _ _ => rfl)) pe_int (fun _ _ => rfl)) (nomark _)) (pw_or1 (@pt_cmpR _ _ _ _ _ _ _ _ op_ne (pe_callB call_len_seq (by rfl) B.len PySem.boot_len (@pa_cons _ _ _ _ _ (@pe_fld _ _ _ _ _ (@pe_ix _ _ _ _ _ _ (rIxT K) ix_tup (@pe_fld _ _ _ _ _ (pv 6) rfl) (pv 7) (fun _ _ => rfl)) rfl) pa_nil (by rfl))) (pe_callB call_len_seq (by rfl) B.len PySem.boot_len (@pa_cons _ _ _ _ _ (@pe_ix _ _ _ _ _ _ (rIxT K) ix_tup (@pe_ix _ _ _ _ _ _ (rIxT K) ix_tup (pv 3) (pv 7) (fun _ _ => rfl)) pe_int (fun _ _ => rfl)) pa_nil (by rfl))) (nomark _))))) (@pss_one _ _ _ (@ps_ret _ _ _ _ pe_bl)) pss_nil)) (by intro _; rfl)) (@pss_cons _ _ _ _ _ (@ps_set _ _ 8 _ _ _ _ scLaw.nd rfl (Or.inl rfl) (pe_methP0 (pv 6) hr1) rfl (Or.inl rfl)) (@pss_cons _ _ _ _ _ (@ps_if _ _ _ _ _ _ _ _ (PW.pt (@pw_or _ _ _ _ _ _ _ (@pt_not _ _ _ _ (pt_val (pe_callB call_isinst (by rfl) B.isinstance PyProof.Rows.boot_isinstance (@pa_cons _ _ _ _ _ (pv 8) (@pa_cons _ _ _ _ _ (pe_bltn (v := V.ty "tuple") (by rfl) B.tuple PyProof.Rows.boot_tuple (by rfl)) pa_nil (by rfl)) (by rfl))))) (pw_or1 (@pt_cmpR _ _ _ _ _ _ _ _ (@op_neD _ hu) (pv 8) (pe_callTy call_tuple_of (by rfl) B.tuple PyProof.Rows.boot_tuple (@pa_cons _ _ _ _ _ (pe_comp (NX := ["_law_script", "_law_head", "_law_places_here", "_law_deeds", "_law_made", "_law_keeps", "_law_machine_here", "_law_k", "_law_first", "_law_rooms", "_law_room_here", "_law_due", "_law_found"]) (N := ["_law_script", "_law_head", "_law_places_here", "_law_deeds", "_law_made", "_law_keeps", "_law_machine_here", "_law_k", "_law_first", "_law_rooms", "_law_room_here", "_law_due", "_law_found", "_law_place"]) (ms := [true, true, true, true, true, true, true, true, true, true, true, true, true, false]) (ks := [13]) (out := defScope sLaw) (by exact ⟨rfl, by decide +kernel, by decide +kernel, by decide +kernel, by decide +kernel, by decide +kernel⟩) rfl rfl rfl (@pi_tup _ _ _ _ (pv 2)) (@sets_name 13) (by decide) (fun C ex s H => (pg_name (i := 13) nd_scLaw2 rfl (Or.inl rfl))) (fun C ex s H => pts_nil) (fun C ex s H => (@pe_ix _ _ _ _ _ _ (rIxT K) ix_tup (pv 13) pe_int (fun _ _ => rfl)))) pa_nil (by rfl))) (nomark _))))) (@pss_one _ _ _ (@ps_ret _ _ _ _ pe_bl)) pss_nil) (@pss_cons _ _ _ _ _ (@ps_set _ _ 9 _ _ _ _ scLaw.nd rfl (Or.inl rfl) (@pe_op _ _ _ _ _ _ _ _ op_catL (@pe_lst _ _ _ _ (@pa_cons _ _ _ _ _ (pv 8) pa_nil (by rfl))) (pe_comp (NX := ["_law_script", "_law_head", "_law_places_here", "_law_deeds", "_law_made", "_law_keeps", "_law_machine_here", "_law_k", "_law_first", "_law_rooms", "_law_room_here", "_law_due", "_law_found"]) (N := ["_law_script", "_law_head", "_law_places_here", "_law_deeds", "_law_made", "_law_keeps", "_law_machine_here", "_law_k", "_law_first", "_law_rooms", "_law_room_here", "_law_due", "_law_found"]) (ms := [true, true, true, true, true, true, true, false, true, true, true, true, true]) (ks := [7]) (out := defScope sLaw) (by exact ⟨rfl, by decide +kernel, by decide +kernel, by decide +kernel, by decide +kernel, by decide +kernel⟩) rfl rfl rfl (pi_range1 rfl B.range (@pa_cons _ _ _ _ _ pe_int pa_nil (by rfl))) (@sets_name 7) (by decide) (fun C ex s H => (pg_name (i := 7) nd_scLaw3 rfl (Or.inl rfl))) (fun C ex s H => pts_nil) (fun C ex s H => (pe_call GRm hr2 (by rfl) T.gRm T.FRm.kp T.bRm .nil pass0 (@pa_cons _ _ _ _ _ (pv 2) (@pa_cons _ _ _ _ _ (pe_call GAt hr1 (by rfl) T.gAt T.FAt.kp T.bAt .nil pass0 (@pa_cons _ _ _ _ _ (pv 0) (@pa_cons _ _ _ _ _ (@pe_op _ _ _ _ _ _ _ _ op_add pe_int (pv 7)) pa_nil (by rfl)) (by rfl))) pa_nil (by rfl)) (by rfl)))))) rfl (Or.inl rfl)) (@pss_cons _ _ _ _ _ (@ps_for _ _ _ _ _ _ _ _ PassesOwn.never rfl (@pi_list _ _ _ _ (pv 9)) (pg_name (i := 10) scLaw.nd rfl (Or.inr rfl)) (@pss_cons _ _ _ _ _ (@ps_set _ _ 11 _ _ _ _ scLaw.nd rfl (Or.inl rfl) (@pe_cmpR _ _ _ _ _ _ _ _ (@op_eqD _ hu) (pe_comp (NX := ["_law_script", "_law_head", "_law_places_here", "_law_deeds", "_law_made", "_law_keeps", "_law_machine_here", "_law_k", "_law_first", "_law_rooms", "_law_room_here", "_law_due", "_law_found"]) (N := ["_law_script", "_law_head", "_law_places_here", "_law_deeds", "_law_made", "_law_keeps", "_law_machine_here", "_law_k", "_law_first", "_law_rooms", "_law_room_here", "_law_due", "_law_found", "_law_deed_here"]) (ms := [true, true, true, true, true, true, true, true, true, true, true, true, true, false]) (ks := [13]) (out := defScope sLaw) (by exact ⟨rfl, by decide +kernel, by decide +kernel, by decide +kernel, by decide +kernel, by decide +kernel⟩) rfl rfl rfl (@pi_tup _ _ _ _ (pv 3)) (@sets_name 13) (by decide) (fun C ex s H => (pg_name (i := 13) nd_scLaw4 rfl (Or.inl rfl))) (fun C ex s H => (@pts_one _ _ _ (@pt_cmpR _ _ _ _ _ _ _ (rNeD K) (@op_neD _ hu) (pe_call GLb hr16 (by rfl) T.gLb T.FLb.kp T.bLb .nil pass0 (@pa_cons _ _ _ _ _ (pv 2) (@pa_cons _ _ _ _ _ (pv 13) (@pa_cons _ _ _ _ _ (pv 10) pa_nil (by rfl)) (by rfl)) (by rfl))) (@pe_lst _ _ _ _ pa_nil) (nomark _)))) (fun C ex s H => (pv 13))) (@pe_lst _ _ _ _ pa_nil) (nomark _)) rfl (Or.inl rfl)) (@pss_cons _ _ _ _ _ (@ps_set _ _ 12 _ _ _ _ scLaw.nd rfl (Or.inl rfl) (pe_methP (pv 6) hr17 (@pa_cons _ _ _ _ _ (pv 10) pa_nil (by rfl))) rfl (Or.inl rfl)) (@pss_one _ _ _ (@ps_if _ _ _ _ _ _ _ _ (PW.pt (@pw_or _ _ _ _ _ _ _ (@pt_not _ _ _ _ (pt_val (pe_callB call_isinst (by rfl) B.isinstance PyProof.Rows.boot_isinstance (@pa_cons _ _ _ _ _ (pv 12) (@pa_cons _ _ _ _ _ (pe_bltn (v := V.ty "bool") (by rfl) B.bool PyProof.Rows.boot_bool (by rfl)) pa_nil (by rfl)) (by rfl))))) (@pw_or _ _ _ _ _ _ _ (@pt_cmpR _ _ _ _ _ _ _ _ op_ne (pv 12) (pv 11) (nomark _)) (pw_or1 (@pt_not _ _ _ _ (pt_val (pe_call GLv hr2 (by rfl) T.gLv T.FLv.kp T.bLv .nil pass0 (@pa_cons _ _ _ _ _ (pv 6) (@pa_cons _ _ _ _ _ (pv 2) (@pa_cons _ _ _ _ _ (pv 10) pa_nil (by rfl)) (by rfl)) (by rfl))))))))) (@pss_one _ _ _ (@ps_ret _ _ _ _ pe_bl)) pss_nil)))) (by intro _; rfl)) (@pss_one _ _ _ (@ps_ret _ _ _ _ pe_bl))))))))))))), ?_⟩
  refine ⟨_, rfl, a, ns, 0, rfl, hS, h63, by decide, by decide, fun hd H1 s1 => ?_⟩
  have b1 := Int.emod_nonneg hd (b := 4) (by decide)
  have b2 := Int.emod_lt_of_pos hd (b := 4) (by decide)
  have b3 := Int.emod_nonneg (hd / 4) (b := 4) (by decide)
  have b4 := Int.emod_lt_of_pos (hd / 4) (b := 4) (by decide)
  refine ⟨_, rfl, _, rfl, _, _, rfl, rfl, (by show (0 : Int) < 4; decide), _, rfl, _, _, rfl, rfl, ⟨by decide, by decide⟩, _, _, rfl, rfl, (by show (0 : Int) < 4; decide), a, ns, 2, hd % 4, hd / 4 % 4, rfl, s1.seq hS, h63, by decide, by decide, by omega, by omega, by omega, by omega, fun x H2 ps ds s2 i2 O l1 l2 => ?_⟩
  obtain ⟨x', tp, td, ys, us, ex, hx, hp, ip, hdd, idd⟩ := is_ma i2
  cases ex
  have t2 := s1.trans s2
  have few : ps.length ≤ 4 := by omega
  have ly : ys.length = ps.length := by rw [ip.length, List.length_map]
  have lu : us.length = ds.length := by rw [idd.length, List.length_map]
  refine ⟨x, _, rfl, hx, rfl, _, _, rfl, _, _, rfl, rfl, ?_⟩
  -- the deeds as objects
  refine ⟨_, rfl, td, rfl, ⟨_, hdd⟩, comp_tup (xs := us) (fun i zs H' => Same H2 H' ∧ Al (ObjD CK CC CY CD H') (ds.take i) zs) ⟨Same.refl _, Al.nil⟩ (fun i zs H' _ ⟨s', _⟩ => s'.tup hdd) (fun i zs H' _ ⟨_, al⟩ => small1000 (by have h1 := al.len; rw [List.length_take] at h1; omega)) ?_ ?_⟩
  · rintro i y zs H' hy ⟨s', al⟩
    have hi : i < ds.length := by rw [← lu]; exact (List.getElem?_eq_some_iff.mp hy).1
    obtain ⟨v, ev, iv⟩ := iss_at idd hi
    rw [hy] at ev
    cases ev
    refine ⟨_, rfl, y, ds[i], _, rfl, iv.same s', O.de _ (List.getElem_mem hi), fun p1 H3 s4 ob => ⟨s'.trans s4, ?_⟩⟩
    rw [List.take_add_one, List.getElem?_eq_getElem hi]
    exact Al.snoc (al.mono fun _ _ h => h.same s4) ob
  rintro zs H3 ⟨s4, al⟩ D hD
  rw [List.take_of_length_le (by omega)] at al
  refine ⟨D, _, rfl, .inl ⟨SqL.of upd_same, fun t ht => ?_⟩⟩
  have u1 := (same_new hD (.lst zs)).trans (same_new ht (.tup zs))
  have et : upd (upd H3 D (.lst zs)) t (.tup zs) t = some (.tup zs) := upd_same
  have t4 := s4.trans u1
  have al4 := al.mono fun _ _ (h : ObjD CK CC CY CD H3 _ _) => h.same u1
  generalize upd (upd H3 D (.lst zs)) t (.tup zs) = H4 at u1 et t4 al4 ⊢
  -- the keeps
  refine ⟨by show 1 ≤ sizeLine; decide, fun py hpy => ?_⟩
  refine ⟨.ref py, .yes, [], rfl, sy_yes (SqT.of upd_same), trivial, by decide, fun pk H5 s5 o5 => ⟨by show 1 ≤ sizeLine; decide, fun tk htk => ?_⟩⟩
  have s6 := (same_new hpy (.tup [V.str "yes"])).trans (s5.trans (same_new htk (.tup [V.ref pk])))
  have ek : upd H5 tk (.tup [V.ref pk]) tk = some (.tup [V.ref pk]) := upd_same
  generalize upd H5 tk (.tup [V.ref pk]) = H6 at s6 ek ⊢
  have t6 := t4.trans s6
  refine ⟨_, rfl, _, rfl, _, rfl, fun m dx hm hdx hxd => ⟨m, dx, _, _, _, rfl, upd_same, fun H7 h3 h4 => ⟨rfl, ?_⟩⟩⟩
  have s7 := same_made2 hm hdx hxd h4
  have t7 := t6.trans s7
  have M : ObjM K CK CC CY CD CM H7 ps ds m dx tp t (.ref tk) ys zs := ⟨h3, t7.tup hp, ip.same t7, (s6.trans s7) _ _ et, al4.mono fun _ _ h => h.same (s6.trans s7)⟩
  have ek := s7 _ _ ek
  clear h3 h4 al al4 et
  have hd7 := t7.tup hdd
  have id7 := idd.same t7
  have hS7 := (t2.trans t7).seq hS
  clear s7 t7 u1 t4 s4 s5 s6 t6
  -- the fields
  refine ⟨_, rfl, m, _, dx, _, _, rfl, M.at_, c.cl, c.n1, mac_p _ _ _, _, rfl, tp, _, rfl, rfl, M.hp, _, rfl, ?_⟩
  refine iteF ⟨_, rfl, m, _, dx, _, _, rfl, M.at_, c.cl, c.n2, mac_k _ _ _, _, rfl, tk, _, rfl, rfl, SqT.of ek, _, rfl, ?_⟩
  refine iteF ⟨_, rfl, m, _, dx, _, _, rfl, M.at_, c.cl, c.n3, mac_d _ _ _, _, rfl, t, _, rfl, rfl, SqT.of M.hd, _, rfl, ?_⟩
  refine iteF ⟨_, rfl, td, _, rfl, .inr hd7, _, rfl, by omega, by omega, ?_⟩
  refine for_range (n := ((us.length : Nat) : Int).toNat) (fun i σ H8 => ∃ v1 : Option V, σ = [some (.ref a), some (.int hd), some (.ref tp), some (.ref td), some (.ref t), some (.ref tk), some (.ref m), v1, none, none, none, none, none] ∧ H8 = H7) ⟨none, rfl, rfl⟩ ?_ ?_
  · rintro i σ H8 hi ⟨v1, rfl, rfl⟩
    have lz := M.al.len
    have hi : i < ds.length := by omega
    have hzi : i < zs.length := by omega
    obtain ⟨d, ed, ob⟩ := M.al.get (List.getElem?_eq_getElem hzi)
    obtain ⟨_, ed'⟩ := List.getElem?_eq_some_iff.mp ed
    obtain ⟨pd, dxd, vw, tc, cs, ez, hdo, _, hc, alc⟩ := ob
    have hat : atI zs (0 + (i : Int)) = some (.ref pd) := by
      rw [Int.zero_add]
      exact atI_nat (by rw [List.getElem?_eq_getElem hzi, ez])
    obtain ⟨v, ev, iv⟩ := iss_at id7 hi
    rw [ed'] at iv
    obtain ⟨pdd, aw, tcc, ccs, rfl, htd, _, hcc, icc⟩ := is_de iv
    have hau : atI us (0 + (i : Int)) = some (.ref pdd) := by
      rw [Int.zero_add]
      exact atI_nat ev
    refine ⟨_, rfl, m, _, dx, _, _, rfl, M.at_, c.cl, c.n3, mac_d _ _ _, _, rfl, t, _, _, _, rfl, rfl, SqT.of M.hd, hat, pd, _, dxd, _, _, rfl, hdo, cd.cl, cd.n1, dee_n _ _ _, _, rfl, _, rfl, td, _, _, _, rfl, rfl, hd7, hau, pdd, _, _, _, rfl, rfl, htd, atI_nat (j := 0) rfl, rfl, _, rfl, iteNS rfl ?_⟩
    refine ⟨_, rfl, m, _, dx, _, _, rfl, M.at_, c.cl, c.n3, mac_d _ _ _, _, rfl, t, _, _, _, rfl, rfl, SqT.of M.hd, hat, pd, _, dxd, _, _, rfl, hdo, cd.cl, cd.n3, dee_c _ _ _, tc, _, rfl, .inr (SqT.of hc), _, rfl, _, rfl, td, _, _, _, rfl, rfl, hd7, hau, pdd, _, _, _, rfl, rfl, htd, atI_nat (j := 2) rfl, tcc, _, rfl, .inr hcc, rfl, _, rfl, iteNS (by rw [← alc.len, icc.length, List.length_map]) ?_⟩
    exact ⟨_, rfl, rfl⟩
  rintro σ H8 ⟨v1, rfl, rfl⟩
  -- the first room
  refine ⟨_, rfl, m, _, dx, _, _, rfl, M.at_, mac_no _ _ _ (by decide +kernel) (by decide +kernel) (by decide +kernel), MF, m, dx, tp, t, _, ys, zs, ps, ds, rfl, M, by omega, fun t1 H9 s9 e9 => ?_⟩
  have M9 := M.same s9
  refine ⟨_, rfl, _, _, _, _, rfl, TyOf.tup e9, rfl, _, rfl, ?_⟩
  refine iteF ⟨_, rfl, _, rfl, tp, rfl, ⟨_, M9.hp⟩, comp_tup (xs := ys) (fun i ws H' => ws = ((ps.map (·.st)).take i).map V.int ∧ H' = H9) ⟨rfl, rfl⟩ (fun i ws H' _ ⟨_, e'⟩ => by rw [e']; exact M9.hp) (fun i ws H' _ ⟨e', _⟩ => by rw [e', List.length_map]; exact small1000 (by rw [List.length_take, List.length_map]; omega)) ?_ ?_⟩
  · rintro i y ws H' hy ⟨rfl, rfl⟩
    have hi : i < ps.length := by rw [← ly]; exact (List.getElem?_eq_some_iff.mp hy).1
    obtain ⟨v, ev, iv⟩ := iss_at M9.ip hi
    rw [hy] at ev
    cases ev
    obtain ⟨r, rfl, hr'⟩ := is_pl iv
    refine ⟨_, rfl, r, _, _, _, rfl, rfl, hr', atI_nat (j := 3) rfl, ?_, rfl⟩
    rw [List.take_add_one, List.getElem?_map, List.getElem?_eq_getElem hi, List.map_append]
    rfl
  rintro ws H10 ⟨rfl, rfl⟩ D2 hD2
  rw [List.take_of_length_le (by rw [List.length_map]; omega)]
  refine ⟨D2, _, rfl, .inl ⟨SqL.of upd_same, fun t2 ht2 => ?_⟩⟩
  have s11 := (same_new hD2 (.lst ((ps.map (·.st)).map V.int))).trans (same_new ht2 (.tup ((ps.map (·.st)).map V.int)))
  refine ⟨rmD (ps.map (·.st)), rmD (ps.map (·.st)), rm_is (SqT.of (s11 _ _ e9)), rm_is (SqT.of upd_same), rfl, rfl, by rw [rmD, dep, deps_ints]; decide, _, rfl, ?_⟩
  rw [dEq_refl]
  have e11 := s11 _ _ e9
  have u11 := s9.trans s11
  generalize upd (upd H10 D2 (.lst ((ps.map (·.st)).map V.int))) t2 (.tup ((ps.map (·.st)).map V.int)) = H11 at s11 e11 u11 ⊢
  have R0 : RmOk ps (ps.map (·.st)) := ⟨by rw [List.length_map], few, fun r hr => by
    obtain ⟨p, hp, rfl⟩ := List.mem_map.mp hr
    have o := O.pl p hp
    have := o.a; have := o.b; have := o.d; have := o.e; have := o.f
    omega⟩
  -- the rooms
  refine iteF ⟨_, rfl, by show 1 ≤ sizeLine; decide, fun pf hpf => ?_⟩
  have s12 := same_new hpf (.lst [V.ref t1])
  have e12 : upd H11 pf (.lst [V.ref t1]) pf = some (.lst [V.ref t1]) := upd_same
  have r12 := s12 _ _ e11
  have u12 := u11.trans s12
  generalize upd H11 pf (.lst [V.ref t1]) = H12 at s12 e12 r12 u12 ⊢
  have hp12 := u12.tup M.hp
  have ip12 := M.ip.same u12
  refine ⟨6, rfl, by decide, by decide, comp_range (lo := 0) (n := 6) (fun i ws H' => Same H12 H' ∧ ∃ rms, Al (RmH ps H') rms ws ∧ ws.length = i) ⟨Same.refl _, [], Al.nil, rfl⟩ (fun i ws H' _ ⟨_, _, _, e'⟩ => by rw [e']; exact small1000 (by omega)) ?_ ?_⟩
  · rintro i ws H' hi ⟨s', rms, al, lw⟩
    refine ⟨_, rfl, _, rfl, _, rfl, _, _, rfl, rfl, a, ns, _, rfl, (u12.trans s').seq hS7, h63, by omega, by omega, fun cx Hx sx => ?_⟩
    have tx := s'.trans sx
    refine ⟨tp, cx, ys, ps, rfl, tx.tup hp12, ip12.same tx, few, O.pl, fun z HA rm sA eA R => ?_⟩
    exact ⟨tx.trans sA, rms ++ [rm], Al.snoc (al.mono fun _ _ h => h.same (sx.trans sA)) ⟨R, z, rfl, eA⟩, by rw [List.length_append, lw]; rfl⟩
  rintro ws H13 ⟨s13, rms, al, lw⟩ D3 hD3
  have n13 := same_new hD3 (.lst ws)
  refine ⟨pf, D3, _, _, rfl, rfl, SqL.of (n13 _ _ (s13 _ _ e12)), SqL.of upd_same, ?_, fun pr hpr => ?_⟩
  · rw [lw]; exact Nat.le_of_lt (small1000 (by show 1 + 6 ≤ 1000; decide))
  have s14 := n13.trans (same_new hpr (.lst ([V.ref t1] ++ ws)))
  have e14 : upd (upd H13 D3 (.lst ws)) pr (.lst ([V.ref t1] ++ ws)) pr = some (.lst ([V.ref t1] ++ ws)) := upd_same
  have u14 := u12.trans (s13.trans s14)
  have al14 : Al (RmH ps (upd (upd H13 D3 (.lst ws)) pr (.lst ([V.ref t1] ++ ws)))) ([ps.map (·.st)] ++ rms) ([V.ref t1] ++ ws) := Al.both (Al.snoc Al.nil ⟨R0, t1, rfl, (s13.trans s14) _ _ r12⟩) (al.mono fun _ _ h => h.same s14)
  generalize upd (upd H13 D3 (.lst ws)) pr (.lst ([V.ref t1] ++ ws)) = H14 at s14 e14 u14 al14 ⊢
  generalize [V.ref t1] ++ ws = rs at e14 al14
  generalize [ps.map (·.st)] ++ rms = rms' at al14
  have M14 := M.same u14
  have hd14 := u14.tup hd7
  have id14 := id7.same u14
  refine ⟨_, rfl, pr, rfl, ⟨_, SqL.of e14⟩, for_list (xs := rs) (fun i σ H9 => ∃ (v2 v3 v4 : Option V), σ = [some (.ref a), some (.int hd), some (.ref tp), some (.ref td), some (.ref t), some (.ref tk), some (.ref m), v1, some (.ref t1), some (.ref pr), v2, v3, v4] ∧ Same H14 H9) ⟨none, none, none, rfl, Same.refl _⟩ (fun i σ H9 _ ⟨_, _, _, _, s9⟩ => SqL.of (s9 _ _ e14)) ?_ ?_⟩
  · rintro i y σ H15 hy ⟨v2, v3, v4, rfl, s15⟩
    obtain ⟨rm, _, R, tr, rfl, hrm0⟩ := al14.get hy
    have hrm := s15 _ _ hrm0
    have M15 := M14.same s15
    have hd15 := s15.tup hd14
    have id15 := id14.same s15
    refine ⟨_, rfl, td, rfl, ⟨_, hd15⟩, comp_tup (xs := us) (fun j ws H' => Same H15 H' ∧ Iss K H' (((ds.take j).filter fun d => !(behR ps d rm).isEmpty).map deD) ws) ⟨Same.refl _, .nil⟩ (fun j ws H' _ ⟨s', _⟩ => s'.tup hd15) (fun j ws H' _ ⟨_, i'⟩ => by rw [i'.length, List.length_map]; exact small1000 (Nat.le_trans (List.length_filter_le _ _) (by rw [List.length_take]; omega))) ?_ ?_⟩
    · rintro j y ws H' hy ⟨s', i'⟩
      have hj : j < ds.length := by rw [← lu]; exact (List.getElem?_eq_some_iff.mp hy).1
      obtain ⟨v, ev, iv⟩ := iss_at id15 hj
      rw [hy] at ev
      cases ev
      have hmem := List.getElem_mem hj
      refine ⟨_, rfl, _, rfl, _, rfl, tp, tr, y, ys, ps, ds[j], rm, rfl, s'.tup M15.hp, M15.ip.same s', iv.same s', SqT.of (s' _ _ hrm), R, O.de _ hmem, O.pl, fun q1 HB us1 sB eB iB => ?_⟩
      refine ⟨Nat.zero_le _, fun n hn => ⟨.lst ((behR ps ds[j] rm).map rmD), .lst [], ?_, ?_, rfl, rfl, ?_, _, rfl, ?_⟩⟩
      · rw [Is]
        exact ⟨q1, _, rfl, SqL.of ((same_new hn _) _ _ eB), iB.same (same_new hn _)⟩
      · rw [Is]
        exact ⟨n, _, rfl, SqL.of upd_same, .nil⟩
      · rw [dep]; have := dep_rms (behR ps ds[j] rm); omega
      rw [eq_nilR]
      have sC := sB.trans (same_new hn (.lst []))
      have ef : (ds.take (j + 1)).filter (fun d => !(behR ps d rm).isEmpty) = (ds.take j).filter (fun d => !(behR ps d rm).isEmpty) ++ (if (!(behR ps ds[j] rm).isEmpty) = true then [ds[j]] else []) := by
        rw [List.take_add_one, List.getElem?_eq_getElem hj, List.filter_append]
        congr 1
        show [ds[j]].filter _ = _
        cases hb : (behR ps ds[j] rm).isEmpty <;> simp [List.filter, hb]
      refine ite2 (fun hb => ?_) (fun hb => ?_)
      · rw [if_pos hb] at ef
        refine ⟨_, rfl, s'.trans sC, ?_⟩
        rw [ef, List.map_append]
        exact Iss.snoc ((iv.same s').same sC) (i'.same sC)
      · rw [if_neg hb, List.append_nil] at ef
        refine ⟨s'.trans sC, ?_⟩
        rw [ef]
        exact i'.same sC
    rintro ws H16 ⟨s16, i16⟩ D4 hD4
    rw [List.take_of_length_le (by omega)] at i16
    refine ⟨Nat.zero_le _, fun n hn => ⟨.lst ((ds.filter fun d => !(behR ps d rm).isEmpty).map deD), .lst [], ?_, ?_, rfl, rfl, ?_, ?_⟩⟩
    · rw [Is]
      exact ⟨D4, _, rfl, SqL.of ((same_new hn _) _ _ upd_same), i16.same ((same_new hD4 _).trans (same_new hn _))⟩
    · rw [Is]
      exact ⟨n, _, rfl, SqL.of upd_same, .nil⟩
    · rw [dep]
      have := dep_des (l := ps.map (·.n)) (ds := ds.filter fun d => !(behR ps d rm).isEmpty) (fun d hd => O.de d ((List.mem_filter.mp hd).1))
      omega
    rw [eq_nilD]
    have s17 := s15.trans (s16.trans ((same_new hD4 (.lst ws)).trans (same_new hn (.lst []))))
    generalize upd (upd H16 D4 (.lst ws)) n (.lst []) = H17 at s17 ⊢
    have M17 := M14.same s17
    refine ⟨_, rfl, m, _, dx, _, _, rfl, M17.at_, mac_no _ _ _ (by decide +kernel) (by decide +kernel) (by decide +kernel), MS, _, rfl, m, dx, tp, t, tr, _, ys, zs, ps, ds, rm, rfl, M17, SqT.of (s17 _ _ hrm0), R, O, by omega, fun H18 s18 => ?_⟩
    refine ⟨_, rfl, _, _, _, _, rfl, TyOf.bl _, rfl, _, rfl, ?_⟩
    refine iteF ⟨_, rfl, _, rfl, rfl, _, rfl, iteNS (by rw [stop_eq]) ?_⟩
    have u18 := s17.trans s18
    refine ⟨_, rfl, _, rfl, _, rfl, m, dx, tp, t, tr, _, ys, zs, ps, ds, rm, rfl, M14.same u18, SqT.of (u18 _ _ hrm0), R, O.pn, fun H19 s19 => ⟨_, rfl, iteF ?_⟩⟩
    exact ⟨_, _, _, rfl, u18.trans s19⟩
  · rintro σ H9 ⟨v2, v3, v4, rfl, s9⟩
    exact q H9
end
end Nw

set_option Elab.async false
set_option linter.all false
set_option maxRecDepth 100000
set_option maxHeartbeats 4000000
namespace Nw
open PySem L2
theorem all_mk {l : PySem.W.OpenLaw} {w : World} {K : PySem.W.Frag} {h : Heap} {mg : Str → Option Value} {fa CN CM CP CI CX CC CU CA CY CQ CW CE CV CB CO CT CD CZ fNI fMI fTI fPI fOI fCI fUI fAI fDI fZI fNW fMW fPW fIW fXW fCC fUC fAC fYH fLH fAH fEH fUH fBH fOH fTH fZV fZD fZF fZS fAt fBe fDr fNa fSu fWo fHa fWh fSg fHo fTo fPl fCg fDe fMa fCo fDo fOp fLb fRm fXo fXr fLv fL : Addr} {odNI anNI odMI anMI odTI anTI odPI anPI odOI anOI odCI anCI odUI anUI odAI anAI odDI anDI odZI anZI odNW anNW odMW anMW odPW anPW odIW anIW odXW anXW odCC anCC odUC anUC odAC anAC odYH anYH odLH anLH odAH anAH odEH anEH odUH anUH odBH anBH odOH anOH odTH anTH odZV anZV odZD anZD odZF anZF odZS anZS odAt anAt odBe anBe odDr anDr odNa anNa odSu anSu odWo anWo odHa anHa odWh anWh odSg anSg odHo anHo odTo anTo odPl anPl odCg anCg odDe anDe odMa anMa odCo anCo odDo anDo odOp anOp odLb anLb odRm anRm odXo anXo odXr anXr odLv anLv odL anL : Option Addr} {slNI slMI slTI slPI slOI slCI slUI slAI slDI slZI slNW slMW slPW slIW slXW slCC slUC slAC slYH slLH slAH slEH slUH slBH slOH slTH slZV slZD slZF slZS slAt slBe slDr slNa slSu slWo slHa slWh slSg slHo slTo slPl slCg slDe slMa slCo slDo slOp slLb slRm slXo slXr slLv slL : Array (Option Value)} {ocNI kVNI dcNI pmNI cdNI ctNI ocMI kVMI dcMI pmMI cdMI ctMI ocTI kVTI dcTI pmTI cdTI ctTI ocPI kVPI dcPI pmPI cdPI ctPI ocOI kVOI dcOI pmOI cdOI ctOI ocCI kVCI dcCI pmCI cdCI ctCI ocUI kVUI dcUI pmUI cdUI ctUI ocAI kVAI dcAI pmAI cdAI ctAI ocDI kVDI dcDI pmDI cdDI ctDI ocZI kVZI dcZI pmZI cdZI ctZI ocNW kVNW dcNW pmNW cdNW ctNW ocMW kVMW dcMW pmMW cdMW ctMW ocPW kVPW dcPW pmPW cdPW ctPW ocIW kVIW dcIW pmIW cdIW ctIW ocXW kVXW dcXW pmXW cdXW ctXW ocCC kVCC dcCC pmCC cdCC ctCC ocUC kVUC dcUC pmUC cdUC ctUC ocAC kVAC dcAC pmAC cdAC ctAC ocYH kVYH dcYH pmYH cdYH ctYH ocLH kVLH dcLH pmLH cdLH ctLH ocAH kVAH dcAH pmAH cdAH ctAH ocEH kVEH dcEH pmEH cdEH ctEH ocUH kVUH dcUH pmUH cdUH ctUH ocBH kVBH dcBH pmBH cdBH ctBH ocOH kVOH dcOH pmOH cdOH ctOH ocTH kVTH dcTH pmTH cdTH ctTH ocZV kVZV dcZV pmZV cdZV ctZV ocZD kVZD dcZD pmZD cdZD ctZD ocZF kVZF dcZF pmZF cdZF ctZF ocZS kVZS dcZS pmZS cdZS ctZS ocAt kVAt dcAt pmAt cdAt ctAt ocBe kVBe dcBe pmBe cdBe ctBe ocDr kVDr dcDr pmDr cdDr ctDr ocNa kVNa dcNa pmNa cdNa ctNa ocSu kVSu dcSu pmSu cdSu ctSu ocWo kVWo dcWo pmWo cdWo ctWo ocHa kVHa dcHa pmHa cdHa ctHa ocWh kVWh dcWh pmWh cdWh ctWh ocSg kVSg dcSg pmSg cdSg ctSg ocHo kVHo dcHo pmHo cdHo ctHo ocTo kVTo dcTo pmTo cdTo ctTo ocPl kVPl dcPl pmPl cdPl ctPl ocCg kVCg dcCg pmCg cdCg ctCg ocDe kVDe dcDe pmDe cdDe ctDe ocMa kVMa dcMa pmMa cdMa ctMa ocCo kVCo dcCo pmCo cdCo ctCo ocDo kVDo dcDo pmDo cdDo ctDo ocOp kVOp dcOp pmOp cdOp ctOp ocLb kVLb dcLb pmLb cdLb ctLb ocRm kVRm dcRm pmRm cdRm ctRm ocXo kVXo dcXo pmXo cdXo ctXo ocXr kVXr dcXr pmXr cdXr ctXr ocLv kVLv dcLv pmLv cdLv ctLv ocL kVL dcL pmL cdL ctL : Value} (X : K.In h) (G : h.Ns mainGlobals mg) (hfa : mg "law" = some (.ref fa))
    (aN : PySem.W.nsIn K mainGlobals "Number" = some (some (.ref CN)))
    (pgN : PySem.W.plainGet K CN Str.empty = true)
    (hdN : PySem.W.hasDictIn K CN = true)
    (poN : PySem.W.plainOver K CN = true)
    (saN : PySem.W.findIn K (.ref CN) "__setattr__" = some (some (.builtin "object.__setattr__")))
    (mkN : PySem.W.makesIn K CN = true)
    (kcN : PySem.W.keepIn K (.ref CN) = true)
    (nN_number : PySem.W.findIn K (.ref CN) "number" = some none)
    (aM : PySem.W.nsIn K mainGlobals "Named" = some (some (.ref CM)))
    (pgM : PySem.W.plainGet K CM Str.empty = true)
    (hdM : PySem.W.hasDictIn K CM = true)
    (poM : PySem.W.plainOver K CM = true)
    (saM : PySem.W.findIn K (.ref CM) "__setattr__" = some (some (.builtin "object.__setattr__")))
    (mkM : PySem.W.makesIn K CM = true)
    (kcM : PySem.W.keepIn K (.ref CM) = true)
    (nM_name : PySem.W.findIn K (.ref CM) "name" = some none)
    (aP : PySem.W.nsIn K mainGlobals "Plus" = some (some (.ref CP)))
    (pgP : PySem.W.plainGet K CP Str.empty = true)
    (hdP : PySem.W.hasDictIn K CP = true)
    (poP : PySem.W.plainOver K CP = true)
    (saP : PySem.W.findIn K (.ref CP) "__setattr__" = some (some (.builtin "object.__setattr__")))
    (mkP : PySem.W.makesIn K CP = true)
    (kcP : PySem.W.keepIn K (.ref CP) = true)
    (nP_one : PySem.W.findIn K (.ref CP) "one" = some none)
    (nP_other : PySem.W.findIn K (.ref CP) "other" = some none)
    (aI : PySem.W.nsIn K mainGlobals "Minus" = some (some (.ref CI)))
    (pgI : PySem.W.plainGet K CI Str.empty = true)
    (hdI : PySem.W.hasDictIn K CI = true)
    (poI : PySem.W.plainOver K CI = true)
    (saI : PySem.W.findIn K (.ref CI) "__setattr__" = some (some (.builtin "object.__setattr__")))
    (mkI : PySem.W.makesIn K CI = true)
    (kcI : PySem.W.keepIn K (.ref CI) = true)
    (nI_one : PySem.W.findIn K (.ref CI) "one" = some none)
    (nI_other : PySem.W.findIn K (.ref CI) "other" = some none)
    (aX : PySem.W.nsIn K mainGlobals "Times" = some (some (.ref CX)))
    (pgX : PySem.W.plainGet K CX Str.empty = true)
    (hdX : PySem.W.hasDictIn K CX = true)
    (poX : PySem.W.plainOver K CX = true)
    (saX : PySem.W.findIn K (.ref CX) "__setattr__" = some (some (.builtin "object.__setattr__")))
    (mkX : PySem.W.makesIn K CX = true)
    (kcX : PySem.W.keepIn K (.ref CX) = true)
    (nX_one : PySem.W.findIn K (.ref CX) "one" = some none)
    (nX_other : PySem.W.findIn K (.ref CX) "other" = some none)
    (aC : PySem.W.nsIn K mainGlobals "Change" = some (some (.ref CC)))
    (pgC : PySem.W.plainGet K CC Str.empty = true)
    (hdC : PySem.W.hasDictIn K CC = true)
    (poC : PySem.W.plainOver K CC = true)
    (saC : PySem.W.findIn K (.ref CC) "__setattr__" = some (some (.builtin "object.__setattr__")))
    (mkC : PySem.W.makesIn K CC = true)
    (kcC : PySem.W.keepIn K (.ref CC) = true)
    (nC_name : PySem.W.findIn K (.ref CC) "name" = some none)
    (aU : PySem.W.nsIn K mainGlobals "Put" = some (some (.ref CU)))
    (pgU : PySem.W.plainGet K CU Str.empty = true)
    (hdU : PySem.W.hasDictIn K CU = true)
    (poU : PySem.W.plainOver K CU = true)
    (saU : PySem.W.findIn K (.ref CU) "__setattr__" = some (some (.builtin "object.__setattr__")))
    (mkU : PySem.W.makesIn K CU = true)
    (kcU : PySem.W.keepIn K (.ref CU) = true)
    (nU_name : PySem.W.findIn K (.ref CU) "name" = some none)
    (nU_one : PySem.W.findIn K (.ref CU) "one" = some none)
    (aA : PySem.W.nsIn K mainGlobals "Any" = some (some (.ref CA)))
    (pgA : PySem.W.plainGet K CA Str.empty = true)
    (hdA : PySem.W.hasDictIn K CA = true)
    (poA : PySem.W.plainOver K CA = true)
    (saA : PySem.W.findIn K (.ref CA) "__setattr__" = some (some (.builtin "object.__setattr__")))
    (mkA : PySem.W.makesIn K CA = true)
    (kcA : PySem.W.keepIn K (.ref CA) = true)
    (nA_name : PySem.W.findIn K (.ref CA) "name" = some none)
    (nA_one : PySem.W.findIn K (.ref CA) "one" = some none)
    (nA_other : PySem.W.findIn K (.ref CA) "other" = some none)
    (aY : PySem.W.nsIn K mainGlobals "Saying" = some (some (.ref CY)))
    (pgY : PySem.W.plainGet K CY Str.empty = true)
    (hdY : PySem.W.hasDictIn K CY = true)
    (poY : PySem.W.plainOver K CY = true)
    (saY : PySem.W.findIn K (.ref CY) "__setattr__" = some (some (.builtin "object.__setattr__")))
    (mkY : PySem.W.makesIn K CY = true)
    (kcY : PySem.W.keepIn K (.ref CY) = true)
    (inY : PySem.W.findIn K (.ref CY) "__init__" = some (some (.builtin "object.__init__")))
    (aQ : PySem.W.nsIn K mainGlobals "Less" = some (some (.ref CQ)))
    (pgQ : PySem.W.plainGet K CQ Str.empty = true)
    (hdQ : PySem.W.hasDictIn K CQ = true)
    (poQ : PySem.W.plainOver K CQ = true)
    (saQ : PySem.W.findIn K (.ref CQ) "__setattr__" = some (some (.builtin "object.__setattr__")))
    (mkQ : PySem.W.makesIn K CQ = true)
    (kcQ : PySem.W.keepIn K (.ref CQ) = true)
    (nQ_one : PySem.W.findIn K (.ref CQ) "one" = some none)
    (nQ_other : PySem.W.findIn K (.ref CQ) "other" = some none)
    (aW : PySem.W.nsIn K mainGlobals "AtMost" = some (some (.ref CW)))
    (pgW : PySem.W.plainGet K CW Str.empty = true)
    (hdW : PySem.W.hasDictIn K CW = true)
    (poW : PySem.W.plainOver K CW = true)
    (saW : PySem.W.findIn K (.ref CW) "__setattr__" = some (some (.builtin "object.__setattr__")))
    (mkW : PySem.W.makesIn K CW = true)
    (kcW : PySem.W.keepIn K (.ref CW) = true)
    (nW_one : PySem.W.findIn K (.ref CW) "one" = some none)
    (nW_other : PySem.W.findIn K (.ref CW) "other" = some none)
    (aE : PySem.W.nsIn K mainGlobals "Equal" = some (some (.ref CE)))
    (pgE : PySem.W.plainGet K CE Str.empty = true)
    (hdE : PySem.W.hasDictIn K CE = true)
    (poE : PySem.W.plainOver K CE = true)
    (saE : PySem.W.findIn K (.ref CE) "__setattr__" = some (some (.builtin "object.__setattr__")))
    (mkE : PySem.W.makesIn K CE = true)
    (kcE : PySem.W.keepIn K (.ref CE) = true)
    (nE_one : PySem.W.findIn K (.ref CE) "one" = some none)
    (nE_other : PySem.W.findIn K (.ref CE) "other" = some none)
    (aV : PySem.W.nsIn K mainGlobals "Unlike" = some (some (.ref CV)))
    (pgV : PySem.W.plainGet K CV Str.empty = true)
    (hdV : PySem.W.hasDictIn K CV = true)
    (poV : PySem.W.plainOver K CV = true)
    (saV : PySem.W.findIn K (.ref CV) "__setattr__" = some (some (.builtin "object.__setattr__")))
    (mkV : PySem.W.makesIn K CV = true)
    (kcV : PySem.W.keepIn K (.ref CV) = true)
    (nV_one : PySem.W.findIn K (.ref CV) "one" = some none)
    (nV_other : PySem.W.findIn K (.ref CV) "other" = some none)
    (aB : PySem.W.nsIn K mainGlobals "Both" = some (some (.ref CB)))
    (pgB : PySem.W.plainGet K CB Str.empty = true)
    (hdB : PySem.W.hasDictIn K CB = true)
    (poB : PySem.W.plainOver K CB = true)
    (saB : PySem.W.findIn K (.ref CB) "__setattr__" = some (some (.builtin "object.__setattr__")))
    (mkB : PySem.W.makesIn K CB = true)
    (kcB : PySem.W.keepIn K (.ref CB) = true)
    (nB_one : PySem.W.findIn K (.ref CB) "one" = some none)
    (nB_other : PySem.W.findIn K (.ref CB) "other" = some none)
    (aO : PySem.W.nsIn K mainGlobals "Either" = some (some (.ref CO)))
    (pgO : PySem.W.plainGet K CO Str.empty = true)
    (hdO : PySem.W.hasDictIn K CO = true)
    (poO : PySem.W.plainOver K CO = true)
    (saO : PySem.W.findIn K (.ref CO) "__setattr__" = some (some (.builtin "object.__setattr__")))
    (mkO : PySem.W.makesIn K CO = true)
    (kcO : PySem.W.keepIn K (.ref CO) = true)
    (nO_one : PySem.W.findIn K (.ref CO) "one" = some none)
    (nO_other : PySem.W.findIn K (.ref CO) "other" = some none)
    (aT : PySem.W.nsIn K mainGlobals "Not" = some (some (.ref CT)))
    (pgT : PySem.W.plainGet K CT Str.empty = true)
    (hdT : PySem.W.hasDictIn K CT = true)
    (poT : PySem.W.plainOver K CT = true)
    (saT : PySem.W.findIn K (.ref CT) "__setattr__" = some (some (.builtin "object.__setattr__")))
    (mkT : PySem.W.makesIn K CT = true)
    (kcT : PySem.W.keepIn K (.ref CT) = true)
    (nT_one : PySem.W.findIn K (.ref CT) "one" = some none)
    (aD : PySem.W.nsIn K mainGlobals "Deed" = some (some (.ref CD)))
    (pgD : PySem.W.plainGet K CD Str.empty = true)
    (hdD : PySem.W.hasDictIn K CD = true)
    (poD : PySem.W.plainOver K CD = true)
    (saD : PySem.W.findIn K (.ref CD) "__setattr__" = some (some (.builtin "object.__setattr__")))
    (mkD : PySem.W.makesIn K CD = true)
    (kcD : PySem.W.keepIn K (.ref CD) = true)
    (nD_called : PySem.W.findIn K (.ref CD) "called" = some none)
    (nD_when : PySem.W.findIn K (.ref CD) "when" = some none)
    (nD_changes : PySem.W.findIn K (.ref CD) "changes" = some none)
    (aZ : PySem.W.nsIn K mainGlobals "Machine" = some (some (.ref CZ)))
    (pgZ : PySem.W.plainGet K CZ Str.empty = true)
    (hdZ : PySem.W.hasDictIn K CZ = true)
    (poZ : PySem.W.plainOver K CZ = true)
    (saZ : PySem.W.findIn K (.ref CZ) "__setattr__" = some (some (.builtin "object.__setattr__")))
    (mkZ : PySem.W.makesIn K CZ = true)
    (kcZ : PySem.W.keepIn K (.ref CZ) = true)
    (nZ_places : PySem.W.findIn K (.ref CZ) "places" = some none)
    (nZ_keeps : PySem.W.findIn K (.ref CZ) "keeps" = some none)
    (nZ_deeds : PySem.W.findIn K (.ref CZ) "deeds" = some none)
    (aNI : PySem.W.findIn K (.ref CN) "__init__" = some (some (.ref fNI)))
    (iNI : PySem.W.isFn K (.ref fNI) = true)
    (lNI : K.lookup fNI = some ⟨ocNI, odNI, .func (PySem.W.fnOf "__init__" "Number.__init__" (defArgs sNumI) (defBody sNumI) (defScope sNumI) .none kVNI dcNI pmNI anNI cdNI ctNI), slNI⟩)
    (cNI : PySem.W.codeIn K cdNI "Number.__init__" = true)
    (kNI : PySem.W.keepIn K (.ref fNI) = true)
    (aMI : PySem.W.findIn K (.ref CM) "__init__" = some (some (.ref fMI)))
    (iMI : PySem.W.isFn K (.ref fMI) = true)
    (lMI : K.lookup fMI = some ⟨ocMI, odMI, .func (PySem.W.fnOf "__init__" "Named.__init__" (defArgs sNamI) (defBody sNamI) (defScope sNamI) .none kVMI dcMI pmMI anMI cdMI ctMI), slMI⟩)
    (cMI : PySem.W.codeIn K cdMI "Named.__init__" = true)
    (kMI : PySem.W.keepIn K (.ref fMI) = true)
    (aTI : PySem.W.findIn K (.ref CP) "__init__" = some (some (.ref fTI)))
    (aTII : PySem.W.findIn K (.ref CI) "__init__" = some (some (.ref fTI)))
    (aTIX : PySem.W.findIn K (.ref CX) "__init__" = some (some (.ref fTI)))
    (iTI : PySem.W.isFn K (.ref fTI) = true)
    (lTI : K.lookup fTI = some ⟨ocTI, odTI, .func (PySem.W.fnOf "__init__" "Twofold.__init__" (defArgs sTwoI) (defBody sTwoI) (defScope sTwoI) .none kVTI dcTI pmTI anTI cdTI ctTI), slTI⟩)
    (cTI : PySem.W.codeIn K cdTI "Twofold.__init__" = true)
    (kTI : PySem.W.keepIn K (.ref fTI) = true)
    (aPI : PySem.W.findIn K (.ref CQ) "__init__" = some (some (.ref fPI)))
    (aPIW : PySem.W.findIn K (.ref CW) "__init__" = some (some (.ref fPI)))
    (aPIE : PySem.W.findIn K (.ref CE) "__init__" = some (some (.ref fPI)))
    (aPIV : PySem.W.findIn K (.ref CV) "__init__" = some (some (.ref fPI)))
    (aPIB : PySem.W.findIn K (.ref CB) "__init__" = some (some (.ref fPI)))
    (aPIO : PySem.W.findIn K (.ref CO) "__init__" = some (some (.ref fPI)))
    (iPI : PySem.W.isFn K (.ref fPI) = true)
    (lPI : K.lookup fPI = some ⟨ocPI, odPI, .func (PySem.W.fnOf "__init__" "Pairing.__init__" (defArgs sPaiI) (defBody sPaiI) (defScope sPaiI) .none kVPI dcPI pmPI anPI cdPI ctPI), slPI⟩)
    (cPI : PySem.W.codeIn K cdPI "Pairing.__init__" = true)
    (kPI : PySem.W.keepIn K (.ref fPI) = true)
    (aOI : PySem.W.findIn K (.ref CT) "__init__" = some (some (.ref fOI)))
    (iOI : PySem.W.isFn K (.ref fOI) = true)
    (lOI : K.lookup fOI = some ⟨ocOI, odOI, .func (PySem.W.fnOf "__init__" "Not.__init__" (defArgs sNotI) (defBody sNotI) (defScope sNotI) .none kVOI dcOI pmOI anOI cdOI ctOI), slOI⟩)
    (cOI : PySem.W.codeIn K cdOI "Not.__init__" = true)
    (kOI : PySem.W.keepIn K (.ref fOI) = true)
    (aCI : PySem.W.findIn K (.ref CC) "__init__" = some (some (.ref fCI)))
    (iCI : PySem.W.isFn K (.ref fCI) = true)
    (lCI : K.lookup fCI = some ⟨ocCI, odCI, .func (PySem.W.fnOf "__init__" "Change.__init__" (defArgs sChaI) (defBody sChaI) (defScope sChaI) .none kVCI dcCI pmCI anCI cdCI ctCI), slCI⟩)
    (cCI : PySem.W.codeIn K cdCI "Change.__init__" = true)
    (kCI : PySem.W.keepIn K (.ref fCI) = true)
    (aUI : PySem.W.findIn K (.ref CU) "__init__" = some (some (.ref fUI)))
    (iUI : PySem.W.isFn K (.ref fUI) = true)
    (lUI : K.lookup fUI = some ⟨ocUI, odUI, .func (PySem.W.fnOf "__init__" "Put.__init__" (defArgs sPutI) (defBody sPutI) (defScope sPutI) .none kVUI dcUI pmUI anUI cdUI ctUI), slUI⟩)
    (cUI : PySem.W.codeIn K cdUI "Put.__init__" = true)
    (kUI : PySem.W.keepIn K (.ref fUI) = true)
    (aAI : PySem.W.findIn K (.ref CA) "__init__" = some (some (.ref fAI)))
    (iAI : PySem.W.isFn K (.ref fAI) = true)
    (lAI : K.lookup fAI = some ⟨ocAI, odAI, .func (PySem.W.fnOf "__init__" "Any.__init__" (defArgs sAnyI) (defBody sAnyI) (defScope sAnyI) .none kVAI dcAI pmAI anAI cdAI ctAI), slAI⟩)
    (cAI : PySem.W.codeIn K cdAI "Any.__init__" = true)
    (kAI : PySem.W.keepIn K (.ref fAI) = true)
    (aDI : PySem.W.findIn K (.ref CD) "__init__" = some (some (.ref fDI)))
    (iDI : PySem.W.isFn K (.ref fDI) = true)
    (lDI : K.lookup fDI = some ⟨ocDI, odDI, .func (PySem.W.fnOf "__init__" "Deed.__init__" (defArgs sDeeI) (defBody sDeeI) (defScope sDeeI) .none kVDI dcDI pmDI anDI cdDI ctDI), slDI⟩)
    (cDI : PySem.W.codeIn K cdDI "Deed.__init__" = true)
    (kDI : PySem.W.keepIn K (.ref fDI) = true)
    (aZI : PySem.W.findIn K (.ref CZ) "__init__" = some (some (.ref fZI)))
    (iZI : PySem.W.isFn K (.ref fZI) = true)
    (lZI : K.lookup fZI = some ⟨ocZI, odZI, .func (PySem.W.fnOf "__init__" "Machine.__init__" (defArgs sMacI) (defBody sMacI) (defScope sMacI) .none kVZI dcZI pmZI anZI cdZI ctZI), slZI⟩)
    (cZI : PySem.W.codeIn K cdZI "Machine.__init__" = true)
    (kZI : PySem.W.keepIn K (.ref fZI) = true)
    (aNW : PySem.W.findIn K (.ref CN) "worth" = some (some (.ref fNW)))
    (iNW : PySem.W.isFn K (.ref fNW) = true)
    (lNW : K.lookup fNW = some ⟨ocNW, odNW, .func (PySem.W.fnOf "worth" "Number.worth" (defArgs sNumW) (defBody sNumW) (defScope sNumW) .none kVNW dcNW pmNW anNW cdNW ctNW), slNW⟩)
    (cNW : PySem.W.codeIn K cdNW "Number.worth" = true)
    (kNW : PySem.W.keepIn K (.ref fNW) = true)
    (aMW : PySem.W.findIn K (.ref CM) "worth" = some (some (.ref fMW)))
    (iMW : PySem.W.isFn K (.ref fMW) = true)
    (lMW : K.lookup fMW = some ⟨ocMW, odMW, .func (PySem.W.fnOf "worth" "Named.worth" (defArgs sNamW) (defBody sNamW) (defScope sNamW) .none kVMW dcMW pmMW anMW cdMW ctMW), slMW⟩)
    (cMW : PySem.W.codeIn K cdMW "Named.worth" = true)
    (kMW : PySem.W.keepIn K (.ref fMW) = true)
    (aPW : PySem.W.findIn K (.ref CP) "worth" = some (some (.ref fPW)))
    (iPW : PySem.W.isFn K (.ref fPW) = true)
    (lPW : K.lookup fPW = some ⟨ocPW, odPW, .func (PySem.W.fnOf "worth" "Plus.worth" (defArgs sPluW) (defBody sPluW) (defScope sPluW) .none kVPW dcPW pmPW anPW cdPW ctPW), slPW⟩)
    (cPW : PySem.W.codeIn K cdPW "Plus.worth" = true)
    (kPW : PySem.W.keepIn K (.ref fPW) = true)
    (aIW : PySem.W.findIn K (.ref CI) "worth" = some (some (.ref fIW)))
    (iIW : PySem.W.isFn K (.ref fIW) = true)
    (lIW : K.lookup fIW = some ⟨ocIW, odIW, .func (PySem.W.fnOf "worth" "Minus.worth" (defArgs sMinW) (defBody sMinW) (defScope sMinW) .none kVIW dcIW pmIW anIW cdIW ctIW), slIW⟩)
    (cIW : PySem.W.codeIn K cdIW "Minus.worth" = true)
    (kIW : PySem.W.keepIn K (.ref fIW) = true)
    (aXW : PySem.W.findIn K (.ref CX) "worth" = some (some (.ref fXW)))
    (iXW : PySem.W.isFn K (.ref fXW) = true)
    (lXW : K.lookup fXW = some ⟨ocXW, odXW, .func (PySem.W.fnOf "worth" "Times.worth" (defArgs sTimW) (defBody sTimW) (defScope sTimW) .none kVXW dcXW pmXW anXW cdXW ctXW), slXW⟩)
    (cXW : PySem.W.codeIn K cdXW "Times.worth" = true)
    (kXW : PySem.W.keepIn K (.ref fXW) = true)
    (aCC : PySem.W.findIn K (.ref CC) "choices" = some (some (.ref fCC)))
    (iCC : PySem.W.isFn K (.ref fCC) = true)
    (lCC : K.lookup fCC = some ⟨ocCC, odCC, .func (PySem.W.fnOf "choices" "Change.choices" (defArgs sChaC) (defBody sChaC) (defScope sChaC) .none kVCC dcCC pmCC anCC cdCC ctCC), slCC⟩)
    (cCC : PySem.W.codeIn K cdCC "Change.choices" = true)
    (kCC : PySem.W.keepIn K (.ref fCC) = true)
    (aUC : PySem.W.findIn K (.ref CU) "choices" = some (some (.ref fUC)))
    (iUC : PySem.W.isFn K (.ref fUC) = true)
    (lUC : K.lookup fUC = some ⟨ocUC, odUC, .func (PySem.W.fnOf "choices" "Put.choices" (defArgs sPutC) (defBody sPutC) (defScope sPutC) .none kVUC dcUC pmUC anUC cdUC ctUC), slUC⟩)
    (cUC : PySem.W.codeIn K cdUC "Put.choices" = true)
    (kUC : PySem.W.keepIn K (.ref fUC) = true)
    (aAC : PySem.W.findIn K (.ref CA) "choices" = some (some (.ref fAC)))
    (iAC : PySem.W.isFn K (.ref fAC) = true)
    (lAC : K.lookup fAC = some ⟨ocAC, odAC, .func (PySem.W.fnOf "choices" "Any.choices" (defArgs sAnyC) (defBody sAnyC) (defScope sAnyC) .none kVAC dcAC pmAC anAC cdAC ctAC), slAC⟩)
    (cAC : PySem.W.codeIn K cdAC "Any.choices" = true)
    (kAC : PySem.W.keepIn K (.ref fAC) = true)
    (aYH : PySem.W.findIn K (.ref CY) "holds" = some (some (.ref fYH)))
    (iYH : PySem.W.isFn K (.ref fYH) = true)
    (lYH : K.lookup fYH = some ⟨ocYH, odYH, .func (PySem.W.fnOf "holds" "Saying.holds" (defArgs sSayH) (defBody sSayH) (defScope sSayH) .none kVYH dcYH pmYH anYH cdYH ctYH), slYH⟩)
    (cYH : PySem.W.codeIn K cdYH "Saying.holds" = true)
    (kYH : PySem.W.keepIn K (.ref fYH) = true)
    (aLH : PySem.W.findIn K (.ref CQ) "holds" = some (some (.ref fLH)))
    (iLH : PySem.W.isFn K (.ref fLH) = true)
    (lLH : K.lookup fLH = some ⟨ocLH, odLH, .func (PySem.W.fnOf "holds" "Less.holds" (defArgs sLesH) (defBody sLesH) (defScope sLesH) .none kVLH dcLH pmLH anLH cdLH ctLH), slLH⟩)
    (cLH : PySem.W.codeIn K cdLH "Less.holds" = true)
    (kLH : PySem.W.keepIn K (.ref fLH) = true)
    (aAH : PySem.W.findIn K (.ref CW) "holds" = some (some (.ref fAH)))
    (iAH : PySem.W.isFn K (.ref fAH) = true)
    (lAH : K.lookup fAH = some ⟨ocAH, odAH, .func (PySem.W.fnOf "holds" "AtMost.holds" (defArgs sAtmH) (defBody sAtmH) (defScope sAtmH) .none kVAH dcAH pmAH anAH cdAH ctAH), slAH⟩)
    (cAH : PySem.W.codeIn K cdAH "AtMost.holds" = true)
    (kAH : PySem.W.keepIn K (.ref fAH) = true)
    (aEH : PySem.W.findIn K (.ref CE) "holds" = some (some (.ref fEH)))
    (iEH : PySem.W.isFn K (.ref fEH) = true)
    (lEH : K.lookup fEH = some ⟨ocEH, odEH, .func (PySem.W.fnOf "holds" "Equal.holds" (defArgs sEquH) (defBody sEquH) (defScope sEquH) .none kVEH dcEH pmEH anEH cdEH ctEH), slEH⟩)
    (cEH : PySem.W.codeIn K cdEH "Equal.holds" = true)
    (kEH : PySem.W.keepIn K (.ref fEH) = true)
    (aUH : PySem.W.findIn K (.ref CV) "holds" = some (some (.ref fUH)))
    (iUH : PySem.W.isFn K (.ref fUH) = true)
    (lUH : K.lookup fUH = some ⟨ocUH, odUH, .func (PySem.W.fnOf "holds" "Unlike.holds" (defArgs sUnlH) (defBody sUnlH) (defScope sUnlH) .none kVUH dcUH pmUH anUH cdUH ctUH), slUH⟩)
    (cUH : PySem.W.codeIn K cdUH "Unlike.holds" = true)
    (kUH : PySem.W.keepIn K (.ref fUH) = true)
    (aBH : PySem.W.findIn K (.ref CB) "holds" = some (some (.ref fBH)))
    (iBH : PySem.W.isFn K (.ref fBH) = true)
    (lBH : K.lookup fBH = some ⟨ocBH, odBH, .func (PySem.W.fnOf "holds" "Both.holds" (defArgs sBotH) (defBody sBotH) (defScope sBotH) .none kVBH dcBH pmBH anBH cdBH ctBH), slBH⟩)
    (cBH : PySem.W.codeIn K cdBH "Both.holds" = true)
    (kBH : PySem.W.keepIn K (.ref fBH) = true)
    (aOH : PySem.W.findIn K (.ref CO) "holds" = some (some (.ref fOH)))
    (iOH : PySem.W.isFn K (.ref fOH) = true)
    (lOH : K.lookup fOH = some ⟨ocOH, odOH, .func (PySem.W.fnOf "holds" "Either.holds" (defArgs sEitH) (defBody sEitH) (defScope sEitH) .none kVOH dcOH pmOH anOH cdOH ctOH), slOH⟩)
    (cOH : PySem.W.codeIn K cdOH "Either.holds" = true)
    (kOH : PySem.W.keepIn K (.ref fOH) = true)
    (aTH : PySem.W.findIn K (.ref CT) "holds" = some (some (.ref fTH)))
    (iTH : PySem.W.isFn K (.ref fTH) = true)
    (lTH : K.lookup fTH = some ⟨ocTH, odTH, .func (PySem.W.fnOf "holds" "Not.holds" (defArgs sNotH) (defBody sNotH) (defScope sNotH) .none kVTH dcTH pmTH anTH cdTH ctTH), slTH⟩)
    (cTH : PySem.W.codeIn K cdTH "Not.holds" = true)
    (kTH : PySem.W.keepIn K (.ref fTH) = true)
    (aZV : PySem.W.findIn K (.ref CZ) "values_in" = some (some (.ref fZV)))
    (iZV : PySem.W.isFn K (.ref fZV) = true)
    (lZV : K.lookup fZV = some ⟨ocZV, odZV, .func (PySem.W.fnOf "values_in" "Machine.values_in" (defArgs sValuesIn) (defBody sValuesIn) (defScope sValuesIn) .none kVZV dcZV pmZV anZV cdZV ctZV), slZV⟩)
    (cZV : PySem.W.codeIn K cdZV "Machine.values_in" = true)
    (kZV : PySem.W.keepIn K (.ref fZV) = true)
    (aZD : PySem.W.findIn K (.ref CZ) "rooms_by_deed" = some (some (.ref fZD)))
    (iZD : PySem.W.isFn K (.ref fZD) = true)
    (lZD : K.lookup fZD = some ⟨ocZD, odZD, .func (PySem.W.fnOf "rooms_by_deed" "Machine.rooms_by_deed" (defArgs sByDeed) (defBody sByDeed) (defScope sByDeed) .none kVZD dcZD pmZD anZD cdZD ctZD), slZD⟩)
    (cZD : PySem.W.codeIn K cdZD "Machine.rooms_by_deed" = true)
    (kZD : PySem.W.keepIn K (.ref fZD) = true)
    (aZF : PySem.W.findIn K (.ref CZ) "first" = some (some (.ref fZF)))
    (iZF : PySem.W.isFn K (.ref fZF) = true)
    (lZF : K.lookup fZF = some ⟨ocZF, odZF, .func (PySem.W.fnOf "first" "Machine.first" (defArgs sFirst) (defBody sFirst) (defScope sFirst) .none kVZF dcZF pmZF anZF cdZF ctZF), slZF⟩)
    (cZF : PySem.W.codeIn K cdZF "Machine.first" = true)
    (kZF : PySem.W.keepIn K (.ref fZF) = true)
    (aZS : PySem.W.findIn K (.ref CZ) "stops" = some (some (.ref fZS)))
    (iZS : PySem.W.isFn K (.ref fZS) = true)
    (lZS : K.lookup fZS = some ⟨ocZS, odZS, .func (PySem.W.fnOf "stops" "Machine.stops" (defArgs sStops) (defBody sStops) (defScope sStops) .none kVZS dcZS pmZS anZS cdZS ctZS), slZS⟩)
    (cZS : PySem.W.codeIn K cdZS "Machine.stops" = true)
    (kZS : PySem.W.keepIn K (.ref fZS) = true)
    (aAt : PySem.W.nsIn K mainGlobals "_law_at" = some (some (.ref fAt)))
    (lAt : K.lookup fAt = some ⟨ocAt, odAt, .func (PySem.W.fnOf "_law_at" "_law_at" (defArgs sAt) (defBody sAt) (defScope sAt) .none kVAt dcAt pmAt anAt cdAt ctAt), slAt⟩)
    (cAt : PySem.W.codeIn K cdAt "_law_at" = true)
    (kAt : PySem.W.keepIn K (.ref fAt) = true)
    (aBe : PySem.W.nsIn K mainGlobals "_law_begin" = some (some (.ref fBe)))
    (lBe : K.lookup fBe = some ⟨ocBe, odBe, .func (PySem.W.fnOf "_law_begin" "_law_begin" (defArgs sBegin) (defBody sBegin) (defScope sBegin) .none kVBe dcBe pmBe anBe cdBe ctBe), slBe⟩)
    (cBe : PySem.W.codeIn K cdBe "_law_begin" = true)
    (kBe : PySem.W.keepIn K (.ref fBe) = true)
    (aDr : PySem.W.nsIn K mainGlobals "_law_draw" = some (some (.ref fDr)))
    (lDr : K.lookup fDr = some ⟨ocDr, odDr, .func (PySem.W.fnOf "_law_draw" "_law_draw" (defArgs sDraw) (defBody sDraw) (defScope sDraw) .none kVDr dcDr pmDr anDr cdDr ctDr), slDr⟩)
    (cDr : PySem.W.codeIn K cdDr "_law_draw" = true)
    (kDr : PySem.W.keepIn K (.ref fDr) = true)
    (aNa : PySem.W.nsIn K mainGlobals "_law_names" = some (some (.ref fNa)))
    (lNa : K.lookup fNa = some ⟨ocNa, odNa, .func (PySem.W.fnOf "_law_names" "_law_names" (defArgs sNames) (defBody sNames) (defScope sNames) .none kVNa dcNa pmNa anNa cdNa ctNa), slNa⟩)
    (cNa : PySem.W.codeIn K cdNa "_law_names" = true)
    (kNa : PySem.W.keepIn K (.ref fNa) = true)
    (aSu : PySem.W.nsIn K mainGlobals "_law_sum" = some (some (.ref fSu)))
    (lSu : K.lookup fSu = some ⟨ocSu, odSu, .func (PySem.W.fnOf "_law_sum" "_law_sum" (defArgs sSum) (defBody sSum) (defScope sSum) .none kVSu dcSu pmSu anSu cdSu ctSu), slSu⟩)
    (cSu : PySem.W.codeIn K cdSu "_law_sum" = true)
    (kSu : PySem.W.keepIn K (.ref fSu) = true)
    (aWo : PySem.W.nsIn K mainGlobals "_law_worth" = some (some (.ref fWo)))
    (lWo : K.lookup fWo = some ⟨ocWo, odWo, .func (PySem.W.fnOf "_law_worth" "_law_worth" (defArgs sWorth) (defBody sWorth) (defScope sWorth) .none kVWo dcWo pmWo anWo cdWo ctWo), slWo⟩)
    (cWo : PySem.W.codeIn K cdWo "_law_worth" = true)
    (kWo : PySem.W.keepIn K (.ref fWo) = true)
    (aHa : PySem.W.nsIn K mainGlobals "_law_sum_of" = some (some (.ref fHa)))
    (lHa : K.lookup fHa = some ⟨ocHa, odHa, .func (PySem.W.fnOf "_law_sum_of" "_law_sum_of" (defArgs sHand) (defBody sHand) (defScope sHand) .none kVHa dcHa pmHa anHa cdHa ctHa), slHa⟩)
    (cHa : PySem.W.codeIn K cdHa "_law_sum_of" = true)
    (kHa : PySem.W.keepIn K (.ref fHa) = true)
    (aWh : PySem.W.nsIn K mainGlobals "_law_whole" = some (some (.ref fWh)))
    (lWh : K.lookup fWh = some ⟨ocWh, odWh, .func (PySem.W.fnOf "_law_whole" "_law_whole" (defArgs sWhole) (defBody sWhole) (defScope sWhole) .none kVWh dcWh pmWh anWh cdWh ctWh), slWh⟩)
    (cWh : PySem.W.codeIn K cdWh "_law_whole" = true)
    (kWh : PySem.W.keepIn K (.ref fWh) = true)
    (aSg : PySem.W.nsIn K mainGlobals "_law_saying" = some (some (.ref fSg)))
    (lSg : K.lookup fSg = some ⟨ocSg, odSg, .func (PySem.W.fnOf "_law_saying" "_law_saying" (defArgs sSaying) (defBody sSaying) (defScope sSaying) .none kVSg dcSg pmSg anSg cdSg ctSg), slSg⟩)
    (cSg : PySem.W.codeIn K cdSg "_law_saying" = true)
    (kSg : PySem.W.keepIn K (.ref fSg) = true)
    (aHo : PySem.W.nsIn K mainGlobals "_law_holds" = some (some (.ref fHo)))
    (lHo : K.lookup fHo = some ⟨ocHo, odHo, .func (PySem.W.fnOf "_law_holds" "_law_holds" (defArgs sHolds) (defBody sHolds) (defScope sHolds) .none kVHo dcHo pmHo anHo cdHo ctHo), slHo⟩)
    (cHo : PySem.W.codeIn K cdHo "_law_holds" = true)
    (kHo : PySem.W.keepIn K (.ref fHo) = true)
    (aTo : PySem.W.nsIn K mainGlobals "_law_saying_of" = some (some (.ref fTo)))
    (lTo : K.lookup fTo = some ⟨ocTo, odTo, .func (PySem.W.fnOf "_law_saying_of" "_law_saying_of" (defArgs sTold) (defBody sTold) (defScope sTold) .none kVTo dcTo pmTo anTo cdTo ctTo), slTo⟩)
    (cTo : PySem.W.codeIn K cdTo "_law_saying_of" = true)
    (kTo : PySem.W.keepIn K (.ref fTo) = true)
    (aPl : PySem.W.nsIn K mainGlobals "_law_places" = some (some (.ref fPl)))
    (lPl : K.lookup fPl = some ⟨ocPl, odPl, .func (PySem.W.fnOf "_law_places" "_law_places" (defArgs sPlaces) (defBody sPlaces) (defScope sPlaces) .none kVPl dcPl pmPl anPl cdPl ctPl), slPl⟩)
    (cPl : PySem.W.codeIn K cdPl "_law_places" = true)
    (kPl : PySem.W.keepIn K (.ref fPl) = true)
    (aCg : PySem.W.nsIn K mainGlobals "_law_change" = some (some (.ref fCg)))
    (lCg : K.lookup fCg = some ⟨ocCg, odCg, .func (PySem.W.fnOf "_law_change" "_law_change" (defArgs sChange) (defBody sChange) (defScope sChange) .none kVCg dcCg pmCg anCg cdCg ctCg), slCg⟩)
    (cCg : PySem.W.codeIn K cdCg "_law_change" = true)
    (kCg : PySem.W.keepIn K (.ref fCg) = true)
    (aDe : PySem.W.nsIn K mainGlobals "_law_deed" = some (some (.ref fDe)))
    (lDe : K.lookup fDe = some ⟨ocDe, odDe, .func (PySem.W.fnOf "_law_deed" "_law_deed" (defArgs sDeed) (defBody sDeed) (defScope sDeed) .none kVDe dcDe pmDe anDe cdDe ctDe), slDe⟩)
    (cDe : PySem.W.codeIn K cdDe "_law_deed" = true)
    (kDe : PySem.W.keepIn K (.ref fDe) = true)
    (aMa : PySem.W.nsIn K mainGlobals "_law_machine" = some (some (.ref fMa)))
    (lMa : K.lookup fMa = some ⟨ocMa, odMa, .func (PySem.W.fnOf "_law_machine" "_law_machine" (defArgs sMachine) (defBody sMachine) (defScope sMachine) .none kVMa dcMa pmMa anMa cdMa ctMa), slMa⟩)
    (cMa : PySem.W.codeIn K cdMa "_law_machine" = true)
    (kMa : PySem.W.keepIn K (.ref fMa) = true)
    (aCo : PySem.W.nsIn K mainGlobals "_law_change_of" = some (some (.ref fCo)))
    (lCo : K.lookup fCo = some ⟨ocCo, odCo, .func (PySem.W.fnOf "_law_change_of" "_law_change_of" (defArgs sChangeOf) (defBody sChangeOf) (defScope sChangeOf) .none kVCo dcCo pmCo anCo cdCo ctCo), slCo⟩)
    (cCo : PySem.W.codeIn K cdCo "_law_change_of" = true)
    (kCo : PySem.W.keepIn K (.ref fCo) = true)
    (aDo : PySem.W.nsIn K mainGlobals "_law_deed_of" = some (some (.ref fDo)))
    (lDo : K.lookup fDo = some ⟨ocDo, odDo, .func (PySem.W.fnOf "_law_deed_of" "_law_deed_of" (defArgs sDeedOf) (defBody sDeedOf) (defScope sDeedOf) .none kVDo dcDo pmDo anDo cdDo ctDo), slDo⟩)
    (cDo : PySem.W.codeIn K cdDo "_law_deed_of" = true)
    (kDo : PySem.W.keepIn K (.ref fDo) = true)
    (aOp : PySem.W.nsIn K mainGlobals "_law_options" = some (some (.ref fOp)))
    (lOp : K.lookup fOp = some ⟨ocOp, odOp, .func (PySem.W.fnOf "_law_options" "_law_options" (defArgs sOptions) (defBody sOptions) (defScope sOptions) .none kVOp dcOp pmOp anOp cdOp ctOp), slOp⟩)
    (cOp : PySem.W.codeIn K cdOp "_law_options" = true)
    (kOp : PySem.W.keepIn K (.ref fOp) = true)
    (aLb : PySem.W.nsIn K mainGlobals "_law_behind" = some (some (.ref fLb)))
    (lLb : K.lookup fLb = some ⟨ocLb, odLb, .func (PySem.W.fnOf "_law_behind" "_law_behind" (defArgs sLBehind) (defBody sLBehind) (defScope sLBehind) .none kVLb dcLb pmLb anLb cdLb ctLb), slLb⟩)
    (cLb : PySem.W.codeIn K cdLb "_law_behind" = true)
    (kLb : PySem.W.keepIn K (.ref fLb) = true)
    (aRm : PySem.W.nsIn K mainGlobals "_law_room" = some (some (.ref fRm)))
    (lRm : K.lookup fRm = some ⟨ocRm, odRm, .func (PySem.W.fnOf "_law_room" "_law_room" (defArgs sRoom) (defBody sRoom) (defScope sRoom) .none kVRm dcRm pmRm anRm cdRm ctRm), slRm⟩)
    (cRm : PySem.W.codeIn K cdRm "_law_room" = true)
    (kRm : PySem.W.keepIn K (.ref fRm) = true)
    (aXo : PySem.W.nsIn K mainGlobals "choices_of" = some (some (.ref fXo)))
    (lXo : K.lookup fXo = some ⟨ocXo, odXo, .func (PySem.W.fnOf "choices_of" "choices_of" (defArgs sChoicesOf) (defBody sChoicesOf) (defScope sChoicesOf) .none kVXo dcXo pmXo anXo cdXo ctXo), slXo⟩)
    (cXo : PySem.W.codeIn K cdXo "choices_of" = true)
    (kXo : PySem.W.keepIn K (.ref fXo) = true)
    (aXr : PySem.W.nsIn K mainGlobals "rooms_by_choices" = some (some (.ref fXr)))
    (lXr : K.lookup fXr = some ⟨ocXr, odXr, .func (PySem.W.fnOf "rooms_by_choices" "rooms_by_choices" (defArgs sByChoices) (defBody sByChoices) (defScope sByChoices) .none kVXr dcXr pmXr anXr cdXr ctXr), slXr⟩)
    (cXr : PySem.W.codeIn K cdXr "rooms_by_choices" = true)
    (kXr : PySem.W.keepIn K (.ref fXr) = true)
    (aLv : PySem.W.nsIn K mainGlobals "_law_values" = some (some (.ref fLv)))
    (lLv : K.lookup fLv = some ⟨ocLv, odLv, .func (PySem.W.fnOf "_law_values" "_law_values" (defArgs sLValues) (defBody sLValues) (defScope sLValues) .none kVLv dcLv pmLv anLv cdLv ctLv), slLv⟩)
    (cLv : PySem.W.codeIn K cdLv "_law_values" = true)
    (kLv : PySem.W.keepIn K (.ref fLv) = true)
    (aL : PySem.W.nsIn K mainGlobals "law" = some (some (.ref fL)))
    (lL : K.lookup fL = some ⟨ocL, odL, .func (PySem.W.fnOf "law" "law" (defArgs sLaw) (defBody sLaw) (defScope sLaw) .none kVL dcL pmL anL cdL ctL), slL⟩)
    (cL : PySem.W.codeIn K cdL "law" = true)
    (kL : PySem.W.keepIn K (.ref fL) = true)
    (z_len : PySem.W.nsIn K mainGlobals "len" = some none)
    (z_range : PySem.W.nsIn K mainGlobals "range" = some none)
    (z_isinstance : PySem.W.nsIn K mainGlobals "isinstance" = some none)
    (z_int : PySem.W.nsIn K mainGlobals "int" = some none)
    (z_bool : PySem.W.nsIn K mainGlobals "bool" = some none)
    (z_list : PySem.W.nsIn K mainGlobals "list" = some none)
    (z_tuple : PySem.W.nsIn K mainGlobals "tuple" = some none)
    (z_dict : PySem.W.nsIn K mainGlobals "dict" = some none)
    (z_max : PySem.W.nsIn K mainGlobals "max" = some none)
    (z_min : PySem.W.nsIn K mainGlobals "min" = some none)
    (z_zip : PySem.W.nsIn K mainGlobals "zip" = some none)
    (z_all : PySem.W.nsIn K mainGlobals "all" = some none)
    (cmg : PySem.W.specialIn K (.ref CC) "__getattribute__" = some (some (.builtin "type.__getattribute__")))
    (cmr : PySem.W.readsIn K CC (.type "type") = true)
    (cmf : PySem.W.findCls K (.ref CC) (.type "type") "__init__" = some (.val (.ref fCI)))
    : ∃ fd : FuncData, (∀ (s : Shared) (v : Value), BindsTo s fd ⟨[v], []⟩ [("_law_script", v)]) ∧ ∀ base : Heap, K.In base → base.Ns mainGlobals mg → FnOk l.prog w K mg base CX0 19 fa fd ["_law_script"] (spLaw K) := by
  have e := hfa.symm.trans (PySem.W.mg_of X G aL)
  cases e
  have FNI := fun_mk (st := sNumI) lNI cNI kNI
  have bNI := FNI.binds (ps := ["self", "number"]) fun _ _ _ _ _ _ us hl => match us, hl with | [_, _], _ => rfl
  have FMI := fun_mk (st := sNamI) lMI cMI kMI
  have bMI := FMI.binds (ps := ["self", "name"]) fun _ _ _ _ _ _ us hl => match us, hl with | [_, _], _ => rfl
  have FTI := fun_mk (st := sTwoI) lTI cTI kTI
  have bTI := FTI.binds (ps := ["self", "one", "other"]) fun _ _ _ _ _ _ us hl => match us, hl with | [_, _, _], _ => rfl
  have FPI := fun_mk (st := sPaiI) lPI cPI kPI
  have bPI := FPI.binds (ps := ["self", "one", "other"]) fun _ _ _ _ _ _ us hl => match us, hl with | [_, _, _], _ => rfl
  have FOI := fun_mk (st := sNotI) lOI cOI kOI
  have bOI := FOI.binds (ps := ["self", "one"]) fun _ _ _ _ _ _ us hl => match us, hl with | [_, _], _ => rfl
  have FCI := fun_mk (st := sChaI) lCI cCI kCI
  have bCI := FCI.binds (ps := ["self", "name"]) fun _ _ _ _ _ _ us hl => match us, hl with | [_, _], _ => rfl
  have FUI := fun_mk (st := sPutI) lUI cUI kUI
  have bUI := FUI.binds (ps := ["self", "name", "one"]) fun _ _ _ _ _ _ us hl => match us, hl with | [_, _, _], _ => rfl
  have FAI := fun_mk (st := sAnyI) lAI cAI kAI
  have bAI := FAI.binds (ps := ["self", "name", "one", "other"]) fun _ _ _ _ _ _ us hl => match us, hl with | [_, _, _, _], _ => rfl
  have FDI := fun_mk (st := sDeeI) lDI cDI kDI
  have bDI := FDI.binds (ps := ["self", "called", "when", "changes"]) fun _ _ _ _ _ _ us hl => match us, hl with | [_, _, _, _], _ => rfl
  have FZI := fun_mk (st := sMacI) lZI cZI kZI
  have bZI := FZI.binds (ps := ["self", "places", "keeps", "deeds"]) fun _ _ _ _ _ _ us hl => match us, hl with | [_, _, _, _], _ => rfl
  have FNW := fun_mk (st := sNumW) lNW cNW kNW
  have bNW := FNW.binds (ps := ["self", "values"]) fun _ _ _ _ _ _ us hl => match us, hl with | [_, _], _ => rfl
  have FMW := fun_mk (st := sNamW) lMW cMW kMW
  have bMW := FMW.binds (ps := ["self", "values"]) fun _ _ _ _ _ _ us hl => match us, hl with | [_, _], _ => rfl
  have FPW := fun_mk (st := sPluW) lPW cPW kPW
  have bPW := FPW.binds (ps := ["self", "values"]) fun _ _ _ _ _ _ us hl => match us, hl with | [_, _], _ => rfl
  have FIW := fun_mk (st := sMinW) lIW cIW kIW
  have bIW := FIW.binds (ps := ["self", "values"]) fun _ _ _ _ _ _ us hl => match us, hl with | [_, _], _ => rfl
  have FXW := fun_mk (st := sTimW) lXW cXW kXW
  have bXW := FXW.binds (ps := ["self", "values"]) fun _ _ _ _ _ _ us hl => match us, hl with | [_, _], _ => rfl
  have FCC := fun_mk (st := sChaC) lCC cCC kCC
  have bCC := FCC.binds (ps := ["self", "values", "low", "high"]) fun _ _ _ _ _ _ us hl => match us, hl with | [_, _, _, _], _ => rfl
  have FUC := fun_mk (st := sPutC) lUC cUC kUC
  have bUC := FUC.binds (ps := ["self", "values", "low", "high"]) fun _ _ _ _ _ _ us hl => match us, hl with | [_, _, _, _], _ => rfl
  have FAC := fun_mk (st := sAnyC) lAC cAC kAC
  have bAC := FAC.binds (ps := ["self", "values", "low", "high"]) fun _ _ _ _ _ _ us hl => match us, hl with | [_, _, _, _], _ => rfl
  have FYH := fun_mk (st := sSayH) lYH cYH kYH
  have bYH := FYH.binds (ps := ["self", "values"]) fun _ _ _ _ _ _ us hl => match us, hl with | [_, _], _ => rfl
  have FLH := fun_mk (st := sLesH) lLH cLH kLH
  have bLH := FLH.binds (ps := ["self", "values"]) fun _ _ _ _ _ _ us hl => match us, hl with | [_, _], _ => rfl
  have FAH := fun_mk (st := sAtmH) lAH cAH kAH
  have bAH := FAH.binds (ps := ["self", "values"]) fun _ _ _ _ _ _ us hl => match us, hl with | [_, _], _ => rfl
  have FEH := fun_mk (st := sEquH) lEH cEH kEH
  have bEH := FEH.binds (ps := ["self", "values"]) fun _ _ _ _ _ _ us hl => match us, hl with | [_, _], _ => rfl
  have FUH := fun_mk (st := sUnlH) lUH cUH kUH
  have bUH := FUH.binds (ps := ["self", "values"]) fun _ _ _ _ _ _ us hl => match us, hl with | [_, _], _ => rfl
  have FBH := fun_mk (st := sBotH) lBH cBH kBH
  have bBH := FBH.binds (ps := ["self", "values"]) fun _ _ _ _ _ _ us hl => match us, hl with | [_, _], _ => rfl
  have FOH := fun_mk (st := sEitH) lOH cOH kOH
  have bOH := FOH.binds (ps := ["self", "values"]) fun _ _ _ _ _ _ us hl => match us, hl with | [_, _], _ => rfl
  have FTH := fun_mk (st := sNotH) lTH cTH kTH
  have bTH := FTH.binds (ps := ["self", "values"]) fun _ _ _ _ _ _ us hl => match us, hl with | [_, _], _ => rfl
  have FZV := fun_mk (st := sValuesIn) lZV cZV kZV
  have bZV := FZV.binds (ps := ["self", "room"]) fun _ _ _ _ _ _ us hl => match us, hl with | [_, _], _ => rfl
  have FZD := fun_mk (st := sByDeed) lZD cZD kZD
  have bZD := FZD.binds (ps := ["self", "room", "deed"]) fun _ _ _ _ _ _ us hl => match us, hl with | [_, _, _], _ => rfl
  have FZF := fun_mk (st := sFirst) lZF cZF kZF
  have bZF := FZF.binds (ps := ["self"]) fun _ _ _ _ _ _ us hl => match us, hl with | [_], _ => rfl
  have FZS := fun_mk (st := sStops) lZS cZS kZS
  have bZS := FZS.binds (ps := ["self", "room"]) fun _ _ _ _ _ _ us hl => match us, hl with | [_, _], _ => rfl
  have FAt := fun_mk (st := sAt) lAt cAt kAt
  have bAt := FAt.binds (ps := ["_law_script", "_law_k"]) fun _ _ _ _ _ _ us hl => match us, hl with | [_, _], _ => rfl
  have FBe := fun_mk (st := sBegin) lBe cBe kBe
  have bBe := FBe.binds (ps := ["_law_cell"]) fun _ _ _ _ _ _ us hl => match us, hl with | [_], _ => rfl
  have FDr := fun_mk (st := sDraw) lDr cDr kDr
  have bDr := FDr.binds (ps := ["_law_state", "_law_many"]) fun _ _ _ _ _ _ us hl => match us, hl with | [_, _], _ => rfl
  have FNa := fun_mk (st := sNames) lNa cNa kNa
  have bNa := FNa.binds (ps := ["_law_cell", "_law_many"]) fun _ _ _ _ _ _ us hl => match us, hl with | [_, _], _ => rfl
  have FSu := fun_mk (st := sSum) lSu cSu kSu
  have bSu := FSu.binds (ps := ["_law_state", "_law_names_here", "_law_near", "_law_depth"]) fun _ _ _ _ _ _ us hl => match us, hl with | [_, _, _, _], _ => rfl
  have FWo := fun_mk (st := sWorth) lWo cWo kWo
  have bWo := FWo.binds (ps := ["_law_one", "_law_values_here"]) fun _ _ _ _ _ _ us hl => match us, hl with | [_, _], _ => rfl
  have FHa := fun_mk (st := sHand) lHa cHa kHa
  have bHa := FHa.binds (ps := ["_law_one"]) fun _ _ _ _ _ _ us hl => match us, hl with | [_], _ => rfl
  have FWh := fun_mk (st := sWhole) lWh cWh kWh
  have bWh := FWh.binds (ps := ["_law_found"]) fun _ _ _ _ _ _ us hl => match us, hl with | [_], _ => rfl
  have FSg := fun_mk (st := sSaying) lSg cSg kSg
  have bSg := FSg.binds (ps := ["_law_state", "_law_names_here", "_law_near", "_law_depth"]) fun _ _ _ _ _ _ us hl => match us, hl with | [_, _, _, _], _ => rfl
  have FHo := fun_mk (st := sHolds) lHo cHo kHo
  have bHo := FHo.binds (ps := ["_law_one", "_law_values_here"]) fun _ _ _ _ _ _ us hl => match us, hl with | [_, _], _ => rfl
  have FTo := fun_mk (st := sTold) lTo cTo kTo
  have bTo := FTo.binds (ps := ["_law_one"]) fun _ _ _ _ _ _ us hl => match us, hl with | [_], _ => rfl
  have FPl := fun_mk (st := sPlaces) lPl cPl kPl
  have bPl := FPl.binds (ps := ["_law_script", "_law_start", "_law_names_here"]) fun _ _ _ _ _ _ us hl => match us, hl with | [_, _, _], _ => rfl
  have FCg := fun_mk (st := sChange) lCg cCg kCg
  have bCg := FCg.binds (ps := ["_law_cell", "_law_place", "_law_names_here"]) fun _ _ _ _ _ _ us hl => match us, hl with | [_, _, _], _ => rfl
  have FDe := fun_mk (st := sDeed) lDe cDe kDe
  have bDe := FDe.binds (ps := ["_law_script", "_law_start", "_law_called", "_law_places_here"]) fun _ _ _ _ _ _ us hl => match us, hl with | [_, _, _, _], _ => rfl
  have FMa := fun_mk (st := sMachine) lMa cMa kMa
  have bMa := FMa.binds (ps := ["_law_script", "_law_start", "_law_many_names", "_law_many_deeds"]) fun _ _ _ _ _ _ us hl => match us, hl with | [_, _, _, _], _ => rfl
  have FCo := fun_mk (st := sChangeOf) lCo cCo kCo
  have bCo := FCo.binds (ps := ["_law_change_here"]) fun _ _ _ _ _ _ us hl => match us, hl with | [_], _ => rfl
  have FDo := fun_mk (st := sDeedOf) lDo cDo kDo
  have bDo := FDo.binds (ps := ["_law_deed_here"]) fun _ _ _ _ _ _ us hl => match us, hl with | [_], _ => rfl
  have FOp := fun_mk (st := sOptions) lOp cOp kOp
  have bOp := FOp.binds (ps := ["_law_place", "_law_value", "_law_deed_here", "_law_values_here"]) fun _ _ _ _ _ _ us hl => match us, hl with | [_, _, _, _], _ => rfl
  have FLb := fun_mk (st := sLBehind) lLb cLb kLb
  have bLb := FLb.binds (ps := ["_law_places_here", "_law_deed_here", "_law_room_here"]) fun _ _ _ _ _ _ us hl => match us, hl with | [_, _, _], _ => rfl
  have FRm := fun_mk (st := sRoom) lRm cRm kRm
  have bRm := FRm.binds (ps := ["_law_places_here", "_law_cell"]) fun _ _ _ _ _ _ us hl => match us, hl with | [_, _], _ => rfl
  have FXo := fun_mk (st := sChoicesOf) lXo cXo kXo
  have bXo := FXo.binds (ps := ["place", "value", "changes", "values"]) fun _ _ _ _ _ _ us hl => match us, hl with | [_, _, _, _], _ => rfl
  have FXr := fun_mk (st := sByChoices) lXr cXr kXr
  have bXr := FXr.binds (ps := ["lists"]) fun _ _ _ _ _ _ us hl => match us, hl with | [_], _ => rfl
  have FLv := fun_mk (st := sLValues) lLv cLv kLv
  have bLv := FLv.binds (ps := ["_law_machine_here", "_law_places_here", "_law_room_here"]) fun _ _ _ _ _ _ us hl => match us, hl with | [_, _, _], _ => rfl
  have FL := fun_mk (st := sLaw) lL cL kL
  have T : Txt K mg (ckOf CN CM CP CI CX) (ccOf CC CU CA) (cyOf CY CQ CW CE CV CB CO CT) CD CZ fNI fMI fTI fPI fOI fCI fUI fAI fDI fZI fNW fMW fPW fIW fXW fCC fUC fAC fYH fLH fAH fEH fUH fBH fOH fTH fZV fZD fZF fZS fAt fBe fDr fNa fSu fWo fHa fWh fSg fHo fTo fPl fCg fDe fMa fCo fDo fOp fLb fRm fXo fXr fLv _ _ _ _ _ _ _ _ _ _ _ _ _ _ _ _ _ _ _ _ _ _ _ _ _ _ _ _ _ _ _ _ _ _ _ _ _ _ _ _ _ _ _ _ _ _ _ _ _ _ _ _ _ :=
    { bl := ⟨PySem.W.mg_none_of X G z_len, PySem.W.mg_none_of X G z_range, PySem.W.mg_none_of X G z_isinstance, PySem.W.mg_none_of X G z_int, PySem.W.mg_none_of X G z_bool, PySem.W.mg_none_of X G z_list, PySem.W.mg_none_of X G z_tuple, PySem.W.mg_none_of X G z_dict, PySem.W.mg_none_of X G z_max, PySem.W.mg_none_of X G z_min, PySem.W.mg_none_of X G z_zip, PySem.W.mg_none_of X G z_all⟩
      mkr :=
        { cls := ⟨fun k => match k with | .num => ⟨pgN, hdN, poN, saN⟩ | .nam => ⟨pgM, hdM, poM, saM⟩ | .op .plus => ⟨pgP, hdP, poP, saP⟩ | .op .minus => ⟨pgI, hdI, poI, saI⟩ | .op .times => ⟨pgX, hdX, poX, saX⟩, nN_number, nM_name, fun g => match g with | .plus => nP_one | .minus => nI_one | .times => nX_one, fun g => match g with | .plus => nP_other | .minus => nI_other | .times => nX_other⟩
          mkN := ⟨mkN, aNI, iNI, kcN⟩, mkM := ⟨mkM, aMI, iMI, kcM⟩
          mkT := fun g => match g with | .plus => ⟨mkP, aTI, iTI, kcP⟩ | .minus => ⟨mkI, aTII, iTI, kcI⟩ | .times => ⟨mkX, aTIX, iTI, kcX⟩
          gN := PySem.W.mg_of X G aN, gM := PySem.W.mg_of X G aM, gP := PySem.W.mg_of X G aP, gI := PySem.W.mg_of X G aI, gX := PySem.W.mg_of X G aX
          FN := FNI, FM := FMI, FT := FTI, bN := bNI, bM := bMI, bT := bTI }
      mks :=
        { cls := ⟨fun k => match k with | .yes => ⟨pgY, hdY, poY, saY⟩ | .cmp .lt => ⟨pgQ, hdQ, poQ, saQ⟩ | .cmp .le => ⟨pgW, hdW, poW, saW⟩ | .cmp .eq => ⟨pgE, hdE, poE, saE⟩ | .cmp .ne => ⟨pgV, hdV, poV, saV⟩ | .bin .and => ⟨pgB, hdB, poB, saB⟩ | .bin .or => ⟨pgO, hdO, poO, saO⟩ | .neg => ⟨pgT, hdT, poT, saT⟩, fun g => match g with | .lt => nQ_one | .le => nW_one | .eq => nE_one | .ne => nV_one, fun g => match g with | .lt => nQ_other | .le => nW_other | .eq => nE_other | .ne => nV_other, fun g => match g with | .and => nB_one | .or => nO_one, fun g => match g with | .and => nB_other | .or => nO_other, nT_one⟩
          mkP := fun g => match g with | .lt => ⟨mkQ, aPI, iPI, kcQ⟩ | .le => ⟨mkW, aPIW, iPI, kcW⟩ | .eq => ⟨mkE, aPIE, iPI, kcE⟩ | .ne => ⟨mkV, aPIV, iPI, kcV⟩
          mkB := fun g => match g with | .and => ⟨mkB, aPIB, iPI, kcB⟩ | .or => ⟨mkO, aPIO, iPI, kcO⟩
          mkN := ⟨mkT, aOI, iOI, kcT⟩, mkY := ⟨mkY, inY, kcY⟩
          gY := PySem.W.mg_of X G aY, gL := PySem.W.mg_of X G aQ, gA := PySem.W.mg_of X G aW, gE := PySem.W.mg_of X G aE, gU := PySem.W.mg_of X G aV, gB := PySem.W.mg_of X G aB, gO := PySem.W.mg_of X G aO, gN := PySem.W.mg_of X G aT
          FP := FPI, FN := FOI, bP := bPI, bN := bOI }
      cc := ⟨fun k => match k with | .cha => ⟨pgC, hdC, poC, saC⟩ | .put => ⟨pgU, hdU, poU, saU⟩ | .any => ⟨pgA, hdA, poA, saA⟩, fun k => match k with | .cha => nC_name | .put => nU_name | .any => nA_name, nU_one, nA_one, nA_other⟩
      cd := ⟨⟨pgD, hdD, poD, saD⟩, nD_called, nD_when, nD_changes⟩
      cz := ⟨⟨pgZ, hdZ, poZ, saZ⟩, nZ_places, nZ_keeps, nZ_deeds⟩
      mkU := ⟨mkU, aUI, iUI, kcU⟩, mkA := ⟨mkA, aAI, iAI, kcA⟩, mkD := ⟨mkD, aDI, iDI, kcD⟩, mkZ := ⟨mkZ, aZI, iZI, kcZ⟩
      gC := PySem.W.mg_of X G aC, gU := PySem.W.mg_of X G aU, gA := PySem.W.mg_of X G aA, gD := PySem.W.mg_of X G aD, gZ := PySem.W.mg_of X G aZ
      cm := ⟨cmg, cmr, cmf, kCI⟩
      FCI := FCI, bCI := bCI, FUI := FUI, bUI := bUI, FAI := FAI, bAI := bAI, FDI := FDI, bDI := bDI, FZI := FZI, bZI := bZI, FNW := FNW, bNW := bNW, FMW := FMW, bMW := bMW, FPW := FPW, bPW := bPW, FIW := FIW, bIW := bIW, FXW := FXW, bXW := bXW, FCC := FCC, bCC := bCC, FUC := FUC, bUC := bUC, FAC := FAC, bAC := bAC, FYH := FYH, bYH := bYH, FLH := FLH, bLH := bLH, FAH := FAH, bAH := bAH, FEH := FEH, bEH := bEH, FUH := FUH, bUH := bUH, FBH := FBH, bBH := bBH, FOH := FOH, bOH := bOH, FTH := FTH, bTH := bTH, FZV := FZV, bZV := bZV, FZD := FZD, bZD := bZD, FZF := FZF, bZF := bZF, FZS := FZS, bZS := bZS, FAt := FAt, bAt := bAt, FBe := FBe, bBe := bBe, FDr := FDr, bDr := bDr, FNa := FNa, bNa := bNa, FSu := FSu, bSu := bSu, FWo := FWo, bWo := bWo, FHa := FHa, bHa := bHa, FWh := FWh, bWh := bWh, FSg := FSg, bSg := bSg, FHo := FHo, bHo := bHo, FTo := FTo, bTo := bTo, FPl := FPl, bPl := bPl, FCg := FCg, bCg := bCg, FDe := FDe, bDe := bDe, FMa := FMa, bMa := bMa, FCo := FCo, bCo := bCo, FDo := FDo, bDo := bDo, FOp := FOp, bOp := bOp, FLb := FLb, bLb := bLb, FRm := FRm, bRm := bRm, FXo := FXo, bXo := bXo, FXr := FXr, bXr := bXr, FLv := FLv, bLv := bLv
      gAt := PySem.W.mg_of X G aAt, gBe := PySem.W.mg_of X G aBe, gDr := PySem.W.mg_of X G aDr, gNa := PySem.W.mg_of X G aNa, gSu := PySem.W.mg_of X G aSu, gWo := PySem.W.mg_of X G aWo, gHa := PySem.W.mg_of X G aHa, gWh := PySem.W.mg_of X G aWh, gSg := PySem.W.mg_of X G aSg, gHo := PySem.W.mg_of X G aHo, gTo := PySem.W.mg_of X G aTo, gPl := PySem.W.mg_of X G aPl, gCg := PySem.W.mg_of X G aCg, gDe := PySem.W.mg_of X G aDe, gMa := PySem.W.mg_of X G aMa, gCo := PySem.W.mg_of X G aCo, gDo := PySem.W.mg_of X G aDo, gOp := PySem.W.mg_of X G aOp, gLb := PySem.W.mg_of X G aLb, gRm := PySem.W.mg_of X G aRm, gXo := PySem.W.mg_of X G aXo, gXr := PySem.W.mg_of X G aXr, gLv := PySem.W.mg_of X G aLv
      mNW := ⟨aNW, iNW, kNW⟩, mMW := ⟨aMW, iMW, kMW⟩, mPW := ⟨aPW, iPW, kPW⟩, mIW := ⟨aIW, iIW, kIW⟩, mXW := ⟨aXW, iXW, kXW⟩, mCC := ⟨aCC, iCC, kCC⟩, mUC := ⟨aUC, iUC, kUC⟩, mAC := ⟨aAC, iAC, kAC⟩, mYH := ⟨aYH, iYH, kYH⟩, mLH := ⟨aLH, iLH, kLH⟩, mAH := ⟨aAH, iAH, kAH⟩, mEH := ⟨aEH, iEH, kEH⟩, mUH := ⟨aUH, iUH, kUH⟩, mBH := ⟨aBH, iBH, kBH⟩, mOH := ⟨aOH, iOH, kOH⟩, mTH := ⟨aTH, iTH, kTH⟩, mZV := ⟨aZV, iZV, kZV⟩, mZD := ⟨aZD, iZD, kZD⟩, mZF := ⟨aZF, iZF, kZF⟩, mZS := ⟨aZS, iZS, kZS⟩ }
  exact ⟨PySem.W.fnOf "law" "law" (defArgs sLaw) (defBody sLaw) (defScope sLaw) .none kVL dcL pmL anL cdL ctL, fun s v => .of_eq rfl, fun base _ _ => ok_law T FL⟩
theorem walk {l : PySem.W.OpenLaw} {q : Program} {loose : List Str} {XP : (Str → Option Value) → Heap → Prop} {YP : World → Heap → Prop} {d : DefRec} {K : Params → PySem.W.Frag} (hn : l.most = some 63) (hdf : d.params.defaults = [])
    (hY : ∀ (w : World) (h : Heap), YP w h → (K w.params).In h)
    (F : ∀ (w : World) (mg : Str → Option Value) (fa : Addr) (h : Heap), (K w.params).In h → h.Ns mainGlobals mg → mg d.name = some (.ref fa) →
      ∃ fd : FuncData, (∀ (s : Shared) (u : Value), BindsTo s fd ⟨[u], []⟩ [("_law_script", u)]) ∧ ∀ base : Heap, (K w.params).In base → base.Ns mainGlobals mg → FnOk l.prog w (K w.params) mg base CX0 19 fa fd ["_law_script"] (spLaw (K w.params))) :
    PySem.W.WalkO q loose XP YP l.row.toRowW d [] (fun f vs => PySem.call f vs) :=
  L2.walk_of (n := 63) (k := 19) (x := "_law_script") (CX := fun _ => CX0) (sp := fun w => spLaw (K w.params)) hn (by decide) hdf ⟨rfl, by decide, by decide⟩ hY F (fun _ _ a ns hl _ hS => ⟨a, ns, rfl, hS, hl, fun _ => rfl⟩) fun _ _ _ _ _ z => z
end Nw
open PySem PySem.W PyProof.Rows
namespace PySem.W.Fast
def tw9176241564226430597 := ()
def tw3013124164095077819 := ()
def tw15167745146934125887 := ()
def tw11611633082155917643 := ()
def tw9737166782590914715 := ()
def tw4507065977485105894 := ()
def tw6645122982762613760 := ()
def tw9852924019562084040 := ()
def tw268630730059995231 := ()
def tw16125844629625391232 := ()
def tw7449278396775240388 := ()
def tw14966637505385810946 := ()
def tw11425157197116964674 := ()
def tw18103103895181782018 := ()
def tw11205734762496816857 := ()
def tw4312212243635770734 := ()
def tw2733267300633787316 := ()
def tw10222904483610802451 := ()
def tw2917439682732373690 := ()
def tw1968823973155452068 := ()
def tw15069105640937630705 := ()
def tw2008800931434449108 := ()
def tw15071683914037363420 := ()
def tw16767992171392849144 := ()
def tw17392679776371841247 := ()
def tw11192944596723036188 := ()
def tw13032285057188355226 := ()
def tw15791581149784348596 := ()
def tw182775449528517528 := ()
def tw16555863277967934175 := ()
def tw11064384196435413903 := ()
def tw2568365770508250482 := ()
def tw4781400772715530430 := ()
def tw13696159249952790109 := ()
def tw8429250851692617400 := ()
def tw17071261056072249764 := ()
def tw14360006369114088048 := ()
def tw12164297232727631519 := ()
def tw93979292468734589 := ()
def tw11617555513602052991 := ()
def tw14107511195457715127 := ()
def tw6266909933729418704 := ()
def tw7916355315071785863 := ()
def tw9527453613137807416 := ()
def tw1858409370380052555 := ()
def tw10269968349275643609 := ()
def tw15721721815965046139 := ()
def tw4475098474416082810 := ()
def tw14602467631674233781 := ()
def tw9600336108525716404 := ()
def tw2201439449678256278 := ()
def tw2120597909895626114 := ()
def tw3010748641230232358 := ()
def tw15747024120345466772 := ()
def tw744196950589566474 := ()
def tw4331741028702197140 := ()
def tw5448665644774460600 := ()
def tw11881437858478521461 := ()
def tw10787266918934537096 := ()
def tw135579026729022009 := ()
def tw2500687067048827795 := ()
def tw15012806660059727162 := ()
def tw16730755176802673248 := ()
def tw4558976502756833061 := ()
def tw14697452329202267232 := ()
def tw18037129251409575841 := ()
def tw17546102379370610029 := ()
def tw2709120768176170695 := ()
def tw17675751810048042581 := ()
def tw17515718850183718914 := ()
def tw5077832817942878920 := ()
def tw1927274976009597496 := ()
def tw16504182664001056986 := ()
def tw17925192221766521642 := ()
def tw14166131015659030330 := ()
def tw3768916961054308042 := ()
def tw18320322887191241543 := ()
def tw16426483014323563713 := ()
def tw4682058592048675013 := ()
def tw12476980066929475462 := ()
def tw7874970706757543459 := ()
def tw11670819172086118101 := ()
def tw2374154166071150146 := ()
def tw1333543855775593948 := ()
def tw11610000138719470790 := ()
def tw14290794577958799946 := ()
def tw2132447858595510960 := ()
def tw14447163146075451399 := ()
def tw3696348971593871582 := ()
def tw2866386203920750673 := ()
def tw14086323305499570125 := ()
def tw5838518943079616238 := ()
def tw4959737478284548542 := ()
def tw6774098479770395329 := ()
def tw13381725231632747751 := ()
def tw13164149852569731799 := ()
def tw10839223816631623683 := ()
def tw13701263278872814259 := ()
def tw3127628194005211238 := ()
def tw7647967267007883171 := ()
def tw15995078894794662822 := ()
def tw7386297044289858370 := ()
def tw17592601007551741985 := ()
def tw7510142388623827312 := ()
def tw11980805333786038216 := ()
def tw15394123125398508297 := ()
def tw17378667673289965952 := ()
def tw16656706617360421239 := ()
def tw7937982654756054422 := ()
def tw18354298234350671818 := ()
def tw4011964932730112388 := ()
def tw13827783411753950572 := ()
def tw17700004808653500007 := ()
def tw1316458426544784355 := ()
def tw8339269132711022009 := ()
def tw5285941481805199608 := ()
def tw13954728291671141444 := ()
def tw10603156971423265618 := ()
def tw10899794426777352400 := ()
def tw5330199111981225087 := ()
def tw15062916486655915691 := ()
def tw5739904956283764096 := ()
def tw3160761296528690964 := ()
def tw13035796787862010912 := ()
def tw12999234486063333258 := ()
def tw11739595736674644509 := ()
def tw9184113662975537799 := ()
def tw2455707283910291844 := ()
def tw9373264963485281437 := ()
def tw12786153479563482268 := ()
def tw2188621604439026225 := ()
def tw3895772491642751134 := ()
def tw3014043688328073697 := ()
def tw4179697482924075373 := ()
def tw11377460082315658743 := ()
def tw6766925977541777662 := ()
def tw9211951285823583164 := ()
def tw12303218264317998213 := ()
def tw10581485329857603649 := ()
def tw7746906248578763018 := ()
def tw11120981876359999063 := ()
def tw4458722436364866801 := ()
def tw10432469958143851423 := ()
def tw8292386195550437776 := ()
def tw11713407853266366994 := ()
def tw4893815035348753785 := ()
def tw2137493611923910407 := ()
def tw9495355167947386953 := ()
def tw8936792186499936231 := ()
def tw14008180065304048722 := ()
def tw7183662160740736605 := ()
def tw1480614797201500948 := ()
def tw13467788251620829355 := ()
def tw11491833652290108667 := ()
def tw4212958509574892755 := ()
def tw16507568793578818394 := ()
def tw9536805924352391428 := ()
def tw15317935541474066524 := ()
def tw16720955893005115743 := ()
def tw3821923646516873995 := ()
def tw8228665156484184001 := ()
def tw15323590160388333283 := ()
def tw18357858729530015157 := ()
def tw11836495203153144156 := ()
def tw16285036080474502072 := ()
def tw13954893958601405713 := ()
def tw16021298882610546842 := ()
def tw11675765752699690043 := ()
def tw13290535791874862743 := ()
def tw13507388141524010010 := ()
def tw16889579314657685055 := ()
def tw6271911528434867214 := ()
def tw703418389238081397 := ()
def tw4401999124748068612 := ()
def tw5365589130471796605 := ()
def tw2535292282647096748 := ()
def tw11417068774608723040 := ()
def tw11024486923074963132 := ()
def tw4811703986141353868 := ()
def tw2678390517626774373 := ()
def tw6543646207629458003 := ()
def tw17001387306131063390 := ()
def tw2502783761244988769 := ()
def tw4606720869854720129 := ()
def tw13063404202213885431 := ()
def tw7358594102455854591 := ()
def tw6232758348042294886 := ()
def tw10871554052824241200 := ()
def tw17725597327914347673 := ()
def tw9999798470630973438 := ()
def tw14494587372207430170 := ()
def tw8354986688245052547 := ()
def tw9907054364849437317 := ()
def tw8248671691839182034 := ()
def tw6160841088422332792 := ()
def tw8638767250860433571 := ()
def tw15308080829062301302 := ()
def tw11198629929989464341 := ()
def tw6679648854764634888 := ()
def tw6393685396009338123 := ()
def tw13913743987117867553 := ()
def tw6715407341673649197 := ()
def tw709358710036464116 := ()
def tw9847389105282601948 := ()
def tw8326337611852992708 := ()
def tw5577199265030071554 := ()
def tw12198862396867717094 := ()
def tw4630382718275591515 := ()
def tw6439906556658177037 := ()
def tw3956851860305551543 := ()
def tw11791858126239908143 := ()
def tw13243924410724856098 := ()
def tw12339769333051929581 := ()
def tw914067117135420042 := ()
def tw3747908094624596154 := ()
def tw1824574759434441348 := ()
def tw16561487621940877619 := ()
def tw15368241168170063819 := ()
def tw5736241099645933138 := ()
def tw18446699576387184497 := ()
def tw5919948388803310110 := ()
def tw3106688858503233272 := ()
def tw25680678542720747 := ()
def tw11090376555167969519 := ()
def tw14853097265474905840 := ()
def tw14566995960471860726 := ()
def tw14449217476937013226 := ()
def tw3349244343367506609 := ()
def tw930894065456641298 := ()
def tw9031217942640027201 := ()
def tw2859431031798476639 := ()
def tw5061142113917319702 := ()
def tw15564182010293461297 := ()
def tw4008975056291145408 := ()
def tw8043076553251907467 := ()
def tw11301394405632972243 := ()
def tw11118879542402607959 := ()
def tw11556358850408349458 := ()
def tw14884777354916139957 := ()
def tw39523914188541785 := ()
def tw3825113637291614559 := ()
def tw10824945003432101283 := ()
def tw2336279607288895047 := ()
def tw10953384623501769303 := ()
def tw18360464499977539771 := ()
def tw6885511525499683540 := ()
def tw2534582429431482664 := ()
def tw15016939127421805257 := ()
def tw13244266766179720074 := ()
def tw9069181429982706779 := ()
def tw4553536168270723951 := ()
def tw9823726797684822102 := ()
def tw10958717308229284553 := ()
def tw9453858337980515954 := ()
def tw7152639102939814563 := ()
def tw10300723611903943157 := ()
def tw17962824104909875486 := ()
def tw866397375111781023 := ()
def tw15294743241701210139 := ()
def tw9422037992487424938 := ()
def tw16840993920844536368 := ()
def tw8751665175826141687 := ()
def tw2052375061362800709 := ()
def tw17163772131157759037 := ()
def tw8848794650135603109 := ()
def tw4077052047037795397 := ()
def tw16595656728721310086 := ()
def tw3101831131013864324 := ()
def tw3529628280141958402 := ()
def tw18444662324572950829 := ()
def tw12190722414258525463 := ()
def tw2305588395150172604 := ()
def tw6397845958266153182 := ()
def tw3942757715552880822 := ()
def tw4359198791272426071 := ()
def tw3097450679736279596 := ()
def tw12774593819626185572 := ()
def tw2940902561038554644 := ()
def tw5859173826811601547 := ()
def tw12466368375295179742 := ()
def tw7110404158475990198 := ()
def tw5276802438896546820 := ()
def tw11721294889277255280 := ()
def tw8311607753505904458 := ()
def tw1779509715044499205 := ()
def tw7298397134427358522 := ()
def tw13512480520182426529 := ()
def tw16425386621240181281 := ()
def tw15554593640422807333 := ()
def tw7666944985274486842 := ()
def tw17749661735942537164 := ()
def tw4510373750506972224 := ()
def tw17165118707172604966 := ()
def tw157692404136405842 := ()
def tw7263886039275337661 := ()
def tw2431926934955550087 := ()
def tw14598581339786149479 := ()
def tw11999465681819721785 := ()
def tw5131921526151383343 := ()
def tw3675078820129758675 := ()
def tw14374974671718586168 := ()
def tw11499815501630911951 := ()
def tw2839302341581097606 := ()
def tw16135021376024860670 := ()
def tw13877711691192382866 := ()
def tw13820942232680862287 := ()
def tw1839011690508535654 := ()
def tw6510821251513737510 := ()
def tw14202958831149795202 := ()
def tw9496734769237292206 := ()
def tw9534411030025737872 := ()
def tw1347117400515114646 := ()
def tw4254948620638440468 := ()
def tw3532740784952215523 := ()
def tw4204709215244227713 := ()
def tw5168257945171222637 := ()
def tw5234540299719150534 := ()
def tw16356132695645667898 := ()
def tw1390034394740936434 := ()
def tw15995707422020193523 := ()
def tw18307342326766303376 := ()
def tw841175502503445254 := ()
def tw11891051421399213214 := ()
def tw8661414235157898407 := ()
def tw5013383335254941660 := ()
def tw8984825199843083468 := ()
def tw12503518644004751927 := ()
def tw5278160349752993998 := ()
def tw2955193906142231564 := ()
def tw13863629845672401911 := ()
def tw14446401011038490584 := ()
def tw15855053156174738964 := ()
def tw13606159354539927227 := ()
def tw17901851938516190349 := ()
def tw4719268904298985023 := ()
def tw11749260888157343719 := ()
def tw4282471870961257642 := ()
def tw14569885233573855720 := ()
def tw7891357095324188346 := ()
def tw9161685181498760705 := ()
def tw8487786339032526513 := ()
def tw15239533640882889695 := ()
def tw13515414411394193009 := ()
def tw3380015877409995272 := ()
def tw6852172383073446124 := ()
def tw18332613818896291890 := ()
def tw3737294982233672889 := ()
def tw8813511202090746833 := ()
def tw16248419277433035328 := ()
def tw13867716732354711927 := ()
def tw4405172973737389219 := ()
def tw1780916417758769069 := ()
def tw2365858860616036801 := ()
def tw12416988992917446518 := ()
def tw13405321973094710254 := ()
def tw4623130511379587395 := ()
def tw8710585024301542654 := ()
def tw11231017399832712892 := ()
def tw12462599796074959249 := ()
def tw3386397532008682117 := ()
def tw3423344506777063844 := ()
def tw16489913294976547004 := ()
def tw170757943462850361 := ()
def tw16246346249746217912 := ()
def tw13907041915451106087 := ()
def tw10055598637006252253 := ()
def tw4450536918371518628 := ()
def tw2002390235380085418 := ()
def tw954416095252615009 := ()
def tw386769705846484077 := ()
def tw17080420465637875938 := ()
def tw3986815179609604828 := ()
def tw1977254708928566655 := ()
def tw6735670844068251295 := ()
def tw11056578956721572561 := ()
def tw16808391092921832506 := ()
def tw3466461974739652087 := ()
def tw2054826185856115835 := ()
def tw8626671162907616577 := ()
def tw3225105208103480119 := ()
def tw2851366928287158540 := ()
def tw15471050453257718542 := ()
def tw10302547317735570990 := ()
def tw17800214095724189513 := ()
def tw1771004148288775596 := ()
def tw18027182042620898544 := ()
def tw3634383162182429953 := ()
def tw11850893525031423343 := ()
def tw6120842116433128783 := ()
def tw6502288167142528957 := ()
def tw3617966644724837951 := ()
def tw15458841460575479858 := ()
def tw13353149147600542317 := ()
def tw14700382055244676344 := ()
def tw7623796478383173516 := ()
def tw5957917497055348928 := ()
def tw2124510834111462010 := ()
def tw2474774354917808865 := ()
def tw8794775599668897926 := ()
def tw7793594954379543374 := ()
def tw1713026766218838107 := ()
def tw11567315916821858957 := ()
def tw16662514492709033909 := ()
def tw13854954977892283850 := ()
def tw17328353708792005384 := ()
def tw5961647923407886441 := ()
def tw1973689852355737666 := ()
def tw2050395580724746178 := ()
def tw584116903743261469 := ()
def tw17079959333674813458 := ()
def tw11453947106059238872 := ()
def tw5887156457212707953 := ()
def tw10029066709363973398 := ()
def tw11612028133406418861 := ()
def tw17642379824654832725 := ()
def tw9950169072206135477 := ()
def tw5978614279129167337 := ()
def tw16034530493537792494 := ()
def tw13950979394291283536 := ()
def tw4867889259345318852 := ()
def tw11280692395555135089 := ()
def tw3165449245738294229 := ()
def tw7600205852643074441 := ()
def tw11450195782689487657 := ()
def tw17634178030134913824 := ()
def tw17931109224480102564 := ()
def tw5517693192956684464 := ()
def tw9574708780978966018 := ()
def tw16856573437188298572 := ()
def tw1228888689549874809 := ()
def tw3118937388738304374 := ()
def tw2179360046023096171 := ()
def tw2461751640005802742 := ()
def tw12391176967302232255 := ()
def tw12842430554236125584 := ()
def tw1102082836301370524 := ()
def tw8472821487679902218 := ()
def tw11528520414714336097 := ()
def tw4612322373521882604 := ()
def tw7387679773483682073 := ()
def tw16235193988268820418 := ()
def tw8524993700574266761 := ()
def tw4845284952509839320 := ()
def tw15839962493604475817 := ()
def tw18028845660218269746 := ()
def tw11241137034409550579 := ()
def tw233086534369228772 := ()
def tw10946280543486618961 := ()
def tw14153896182080389278 := ()
def tw16251960169830377120 := ()
def tw14401216127216561508 := ()
def tw7631188694136256560 := ()
def tw13806829650070254096 := ()
def tw1503797542271685913 := ()
def tw16642561181198424699 := ()
def tw4669137146717741854 := ()
def tw8595792150460599161 := ()
def tw16262862714796347826 := ()
def tw16873729837011886883 := ()
def tw12403826783230446806 := ()
def tw4062774939175528544 := ()
def tw3836941232804375352 := ()
def tw9513664454334152278 := ()
def tw2359405658334873488 := ()
def tw3099653574729997025 := ()
def tw15282517811922907473 := ()
def tw14272844221486415604 := ()
def tw9500742783123056803 := ()
def tw5967748949717821018 := ()
def tw12333744371142674729 := ()
def tw11717139099797513324 := ()
def tw9506657464158547518 := ()
def tw16193261966512479297 := ()
def tw3153455492237792163 := ()
def tw15005422458409285791 := ()
def tw5121251173292932743 := ()
def tw14961985212092396474 := ()
def tw3600027473200842506 := ()
def tw8619407497205103101 := ()
def tw17874356569690097987 := ()
def tw11096106978828509105 := ()
def tw18381684822264717547 := ()
def tw4133186518138372027 := ()
def tw387096066668420770 := ()
def tw3446957002134343951 := ()
def tw17341268048538400888 := ()
def tw4884477666144318654 := ()
def tw12982641594671127687 := ()
def tw1426366588585656389 := ()
def tw4041528315534258756 := ()
def tw1451421964712474094 := ()
def tw18134142902296353489 := ()
def tw4673014501582275775 := ()
def tw6954145866363748932 := ()
def tw16523601884815313211 := ()
def tw3425456741641540336 := ()
def tw4490980608086440284 := ()
def tw13899244238171140570 := ()
def tw5132819308138508095 := ()
def tw4356729482863969760 := ()
def tw5465231599640237817 := ()
def tw6967826469456249545 := ()
def tw10601291860792320323 := ()
def tw6687653869476522777 := ()
def tw1955160710359313363 := ()
def tw7067762777730123587 := ()
def tw13238611449017784452 := ()
def tw4036197991257300401 := ()
def tw2730292754902916969 := ()
def tw11094963383910526519 := ()
def tw6770383619112811678 := ()
def tw10179856067122129226 := ()
def tw128626584780472843 := ()
def tw9641075368555978474 := ()
def tw11489428174118573514 := ()
def tw6929731912062365808 := ()
def tw13701210668017554954 := ()
def tw10785915035050635132 := ()
def tw18292640862336646508 := ()
def tw15383318107100930461 := ()
def tw10337560177414856735 := ()
def tw16852044628976149528 := ()
def tw14813441922220735022 := ()
def tw8819182480351123315 := ()
def tw4147844711074714201 := ()
def tw3030940263938810615 := ()
def tw5333068643793963112 := ()
def tw2726181569965780555 := ()
def tw13545706972121346341 := ()
def tw16575796895338499204 := ()
def tw14151807161024379252 := ()
def tw10319988241472915408 := ()
def tw14443022569421941969 := ()
def tw12348182554303421800 := ()
def tw17140467831832066589 := ()
def tw15246682216444742237 := ()
def tw727385282057893679 := ()
def tw10780861067434682396 := ()
def tw18265065799289052986 := ()
def tw15218727701555790250 := ()
def tw6391697453594970565 := ()
def tw1580697265126361779 := ()
def tw13302272259652051117 := ()
def tw12816034483647157978 := ()
def tw1435922131149623183 := ()
def tw7192630885983918030 := ()
def tw4673181698295919629 := ()
def tw3955021894952570945 := ()
def tw1235690054532356563 := ()
def tw3961324267242882292 := ()
def tw13424154551215711829 := ()
def tw8599791542991798755 := ()
def tw11426301570627964112 := ()
def tw4626175143582407305 := ()
def tw2689036660704700781 := ()
def tw1405903615163639201 := ()
def tw18266789568927379336 := ()
def tw11820086910122864400 := ()
def tw3745616312047345651 := ()
def tw2574243864285192622 := ()
def tw17878053613338168728 := ()
def tw15096323707552041865 := ()
def tw7870698185965253231 := ()
def tw13135743410444622001 := ()
def tw8142263963014408837 := ()
def tw6321065862501797252 := ()
def tw1157906455784140125 := ()
def tw14667405745121251484 := ()
def tw13127489753407191546 := ()
def tw140460661975315483 := ()
def tw10272473493216410816 := ()
def tw5951402304272949817 := ()
def tw8464661523937983498 := ()
def tw14567341242221950707 := ()
def tw12260348877591592140 := ()
def tw13239446269656185667 := ()
def tw18396349714931903268 := ()
def tw15698232357923160508 := ()
def tw17610931109107832828 := ()
def tw18403855525788398478 := ()
def tw9322309023436254552 := ()
def tw1275270740604743139 := ()
def tw18219466956042242512 := ()
def tw8048025469821507235 := ()
def tw6509883733008112808 := ()
def tw7022644508066415558 := ()
def tw2845098402806377715 := ()
def tw7315323769091859217 := ()
def tw14572957291997168251 := ()
def tw2330756767191221753 := ()
def tw2866900749837852906 := ()
def tw6831473428936605825 := ()
def tw15471031445998348575 := ()
def tw10309963256148105120 := ()
def tw1176557791648418118 := ()
def tw12753429146552756753 := ()
def tw7737167038520995462 := ()
def tw17987927911383787995 := ()
def tw325753149647223608 := ()
def tw12442057430885173474 := ()
def tw16056464648923687043 := ()
def tw10676485516733561324 := ()
def tw11545274411526399330 := ()
def tw4619701473459018705 := ()
def tw11836278425652089681 := ()
def tw12398968101492204295 := ()
def tw10593191134615757964 := ()
def tw3234821338343545640 := ()
def tw4528280017086334664 := ()
def tw15167011394088374681 := ()
def tw13882495806618153648 := ()
def tw1874563789618168632 := ()
def tw3111627528158918825 := ()
def tw12633414510920771477 := ()
def tw2016787135729208982 := ()
def tw10944582454489066618 := ()
def tw3906872653992458091 := ()
def tw4078087521557899553 := ()
def tw15685842845750578554 := ()
def tw1259860160948766373 := ()
def tw8188524194803018294 := ()
def tw10140365071345653070 := ()
def tw9153114790274339200 := ()
def tw14324311342245686583 := ()
def tw11270170014157566265 := ()
def tw18292155272980888990 := ()
def tw14056290742025491418 := ()
def tw2795187167546897363 := ()
def tw3515101885417445613 := ()
def tw14992007139107690976 := ()
def tw4922903692373308990 := ()
def tw11353099034036079538 := ()
def tw12935441011919029475 := ()
def tw12672278150970866043 := ()
def tw16596291057762032386 := ()
def tw4090367787221826068 := ()
def tw5723524741275016155 := ()
def tw1025188567508942813 := ()
def tw13388024424759741526 := ()
def tw9576191695639266567 := ()
def tw1129384730836744758 := ()
def tw11682609977078714835 := ()
def tw6389114562289591266 := ()
def tw7206104608947969786 := ()
def tw6036920502780475831 := ()
def tw6327580377904807182 := ()
def tw6226514736495220193 := ()
def tw6717253302619862482 := ()
def tw1355358940176705214 := ()
def tw18369327941749288343 := ()
def tw17119603954859445145 := ()
def tw3286857184901835337 := ()
def tw1075395582488146399 := ()
def tw16076318658734840514 := ()
def tw4866695872305687214 := ()
def tw2688100753269611797 := ()
def tw17546500980974231337 := ()
def tw12194378588753878107 := ()
def tw13709093700379151328 := ()
def tw16789559347632494340 := ()
def tw5737837278298799148 := ()
def tw4002798697508276950 := ()
def tw14000514042456170743 := ()
def tw535160859153521647 := ()
def tw18289494851812341625 := ()
def tw235183004437945519 := ()
def tw13718603551625272691 := ()
def tw240365532894694341 := ()
def tw3101129735023589172 := ()
def tw13014911295902615915 := ()
def tw10070512141412972513 := ()
def tw13641231859968420266 := ()
def tw12791686340948777289 := ()
def tw7969108555531178644 := ()
def tw16724302319473261270 := ()
def tw247405084439841896 := ()
def tw10821800580146504652 := ()
def tw834635185762634381 := ()
def tw1399277936361453924 := ()
def tw1283966162713271570 := ()
def tw6511887964906174247 := ()
def tw2176380073608721286 := ()
def tw7001755380215417586 := ()
def tw2900167372223763237 := ()
def tw10836793396963152451 := ()
def tw15178579669647138000 := ()
def tw4600720824216409040 := ()
def tw11708426172730474454 := ()
def tw12430386551586008431 := ()
def tw15469485834926341222 := ()
def tw14441350240231765074 := ()
def tw14655822748632772171 := ()
def tw16740204710453985921 := ()
def tw14489031553128550606 := ()
def tw9887473496003117798 := ()
def tw13954281424077479636 := ()
def tw14319363269648139476 := ()
def tw12956775491878029910 := ()
def tw12016287079076447556 := ()
def tw13443340428667636053 := ()
def tw952902980914972410 := ()
def tw13304372807064785401 := ()
def tw10430149073622928797 := ()
def tw6960277309797213721 := ()
def tw6255669325204778250 := ()
def tw2389636980051253229 := ()
def tw11212139478482620654 := ()
def tw15215267034644883013 := ()
def tw12771012902502303331 := ()
def tw15140241845305693338 := ()
def tw4356552766723203472 := ()
def tw6076789381818212403 := ()
def tw9224710072910721894 := ()
def tw6222798119982823850 := ()
def tw9836762894905899702 := ()
def tw14484020623426081117 := ()
def tw17743270413926887639 := ()
def tw15763505213881934826 := ()
def tw3669698567316599003 := ()
def tw1269049536604671249 := ()
def tw8878244045858799391 := ()
def tw17831341873745262454 := ()
def tw4262336822491163070 := ()
def tw4414208752962085800 := ()
def tw2682378273054714067 := ()
def tw11566705217518067642 := ()
def tw8996357440806202581 := ()
def tw11720977455186795350 := ()
def tw15860688415251573877 := ()
def tw5519410246527700674 := ()
def tw8806395312623131339 := ()
def tw10037387789838431013 := ()
def tw15746192870974400992 := ()
def tw16140464823172250973 := ()
def tw15145236941734123888 := ()
def tw13353330189482445116 := ()
def tw3134606213330066184 := ()
def tw10640833236711752657 := ()
def tw17803254837404816910 := ()
def tw16775215854522179868 := ()
def tw14806111721933657157 := ()
def tw5373131754403611160 := ()
def tw7815310305789767870 := ()
def tw8076406739366161205 := ()
def tw2534458812901881743 := ()
def tw2942049558789654288 := ()
def tw16416012467128950637 := ()
def tw9782837871613316747 := ()
def tw8828507293328076098 := ()
def tw13389129007802744110 := ()
def tw1381114775707139111 := ()
def tw6877455068849524318 := ()
def tw3409687983184379228 := ()
def tw15560669876461769 := ()
def tw470726688400916946 := ()
def tw214827668880934039 := ()
def tw5332309228203646697 := ()
def tw14953058734603474962 := ()
def tw12684565799560315384 := ()
def tw11825542626113686472 := ()
def tw13076865720759232070 := ()
def tw501607235849270453 := ()
def tw6347889062818294865 := ()
def tw9391863214306447924 := ()
def tw14969249809297179557 := ()
def tw8389726683971991045 := ()
def tw7757632574945128249 := ()
def tw16341502412336680915 := ()
def tw16177719082345529529 := ()
def tw11912569161149080723 := ()
def tw14976539784584212649 := ()
def tw11502569885421457732 := ()
def tw1913131776230695241 := ()
def tw12070743859643810778 := ()
def tw13529331666598420769 := ()
def tw9605460374703718024 := ()
def tw8061039450153298599 := ()
def tw8270130698753003342 := ()
def tw553340166116907233 := ()
def tw5402341664162001577 := ()
def tw14675227932018862876 := ()
def tw11585127910026005551 := ()
def tw8852346611841186678 := ()
def tw8326646320730803678 := ()
def tw11020870493403609817 := ()
def tw16690467510022080272 := ()
def tw10340419449239894510 := ()
def tw4212176822254069655 := ()
def tw3787800029715912277 := ()
def tw10354131374460248265 := ()
def tw15002984245022337379 := ()
def tw7815789207192199408 := ()
def tw14408676771188053599 := ()
def tw7626540386299485429 := ()
def tw5631049420289924498 := ()
def tw15991439257464968007 := ()
def tw2441553026936875621 := ()
def tw10010466598862258616 := ()
def tw11054201930439405006 := ()
def tw11131540836384883904 := ()
def tw4263425219084775349 := ()
def tw7674793647563131750 := ()
def tw5498665871661282426 := ()
def tw7264936554646335410 := ()
def tw12010798498568429382 := ()
def tw4268112816985136019 := ()
def tw5608398741227822159 := ()
def tw476664129559322275 := ()
def tw3537234209000531843 := ()
def tw11554788772926050452 := ()
def tw12907608071702800997 := ()
def tw14643557489110805450 := ()
def tw6735647678651917534 := ()
def tw15329825448228306058 := ()
def tw3832635415293254352 := ()
def tw1329987691100555042 := ()
def tw17708969362558134851 := ()
def tw11507020343970055179 := ()
def tw13989461065452827796 := ()
def tw13943918878875771865 := ()
def tw5576320962160172839 := ()
def tw16882169832143446298 := ()
def tw2572789954196869763 := ()
def tw14169793032744319612 := ()
def tw13743542771537713529 := ()
def tw18417364536312880989 := ()
def tw9088394897183901103 := ()
def tw1350370538034900599 := ()
def tw4534321099018791763 := ()
def tw15425971976740805541 := ()
def tw16430539032550244689 := ()
def tw4132520192842160883 := ()
def tw18109309885061951640 := ()
def tw12067506281440180840 := ()
def tw8861163588880838354 := ()
def tw9299855325144798292 := ()
def tw17985775013204634765 := ()
def tw3357763465289103110 := ()
def tw2522587940611796391 := ()
def tw9311184904911969354 := ()
def tw14450328403239775045 := ()
def tw6114437974624148677 := ()
def tw17370102244388946513 := ()
def tw12686203325842348528 := ()
def tw4409005899436423585 := ()
def tw598797738805530058 := ()
def tw7430933149667009638 := ()
def tw8911785041506487316 := ()
def tw2400478751210380093 := ()
def tw14008799614543964925 := ()
def tw2857973494210110247 := ()
def tw17835169161893648820 := ()
def tw7386259573939704174 := ()
def tw5382740838066857754 := ()
def tw15226085356840764056 := ()
def tw13424593158322865133 := ()
def tw241478630819789133 := ()
def tw2195861178978179399 := ()
def tw3287568457407434924 := ()
def tw16498587347761168557 := ()
def tw14251847915178567251 := ()
def tw3359234799687558753 := ()
def tw6748920956787782632 := ()
def tw16250998756571662079 := ()
def tw8226025946830526697 := ()
def tw6598978567206461223 := ()
def tw10102993932670635985 := ()
def tw15595172250940818430 := ()
def tw10206242515703498508 := ()
def tw13547685716471383998 := ()
def tw10981982045863393677 := ()
def tw17340035651311461291 := ()
def tw1292995472425567086 := ()
def tw3550305276914104972 := ()
def tw16945883931868248545 := ()
def tw16517013909652361657 := ()
def tw16588063367701521120 := ()
def tw11777017718128857262 := ()
def tw3966021510984310961 := ()
def tw5955291327532593505 := ()
def tw6382179656038759446 := ()
def tw12845622081181251380 := ()
def tw6313114611861766886 := ()
def tw8713542069008593870 := ()
def tw9236675691277640748 := ()
def tw5314116614299366133 := ()
def tw8079117727320468657 := ()
def tw18151593947044301742 := ()
def tw3698432483110012453 := ()
def tw3859508214225810061 := ()
def tw1536824782315581634 := ()
def tw13622861438077774468 := ()
def tw5718831956561560884 := ()
def tw17585419735677483844 := ()
def tw4080889622255016102 := ()
def tw3006544035074047161 := ()
def tw15889551246362739812 := ()
def tw8278127957866442834 := ()
def tw8638079975564276998 := ()
def tw9309774220378433581 := ()
def tw16714808896016318644 := ()
def tw8374678582790187978 := ()
def tw7139749631193056559 := ()
def tw4939207818709888013 := ()
def tw912572818046480620 := ()
def tw9349633648326641349 := ()
def tw16474552784313902070 := ()
def tw3275344684409752565 := ()
def tw3024084875953248198 := ()
def tw16031275667557264745 := ()
def tw16517107627538721868 := ()
def tw16746485077307936527 := ()
def tw6773694048350501917 := ()
def tw3595794255484912357 := ()
def tw1001686318563872688 := ()
def tw8052785182141038996 := ()
def tw16790078788584444882 := ()
def tw11394540752887611470 := ()
def tw13091925077555068894 := ()
def tw14645724272354353055 := ()
def tw3989772134609937433 := ()
def tw2991199278013833644 := ()
def tw4869469668144661606 := ()
def tw13003922741510417398 := ()
def tw16310070893539512177 := ()
def tw13123607189693870180 := ()
def tw12910140644437054606 := ()
def tw11793197507285039234 := ()
def tw5472854910973210446 := ()
def tw7247157018932436856 := ()
def tw12950860391797527143 := ()
def tw17142512714675038336 := ()
def tw18132511280006626698 := ()
def tw1325793571604936611 := ()
def tw16444166449643152296 := ()
def tw6525609210925139686 := ()
def tw11249902527165709404 := ()
def tw6564579174268703062 := ()
def tw2615701978262789816 := ()
def tw7461434749362572943 := ()
def tw15972648254537546904 := ()
def tw2956324761100165615 := ()
def tw8532571483442986714 := ()
def tw12992604562585399295 := ()
def tw10638006196543597224 := ()
def tw1022581838729999251 := ()
def tw13378170583817477849 := ()
def tw5927719016075494671 := ()
def tw5633052946718917127 := ()
def tw2719229964266570895 := ()
def tw11666419741581454308 := ()
def tw14990314701019379350 := ()
def tw12232764254497359980 := ()
def tw16222182741458345829 := ()
def tw13870198184976131022 := ()
def tw11853464806024408707 := ()
def tw15049438689467210475 := ()
def tw6034152488804537253 := ()
def tw5057132060346623602 := ()
def tw13952647016043054225 := ()
def tw4222228463751746010 := ()
def tw14864640995818161049 := ()
def tw13868322154573208395 := ()
def tw17369817804000133750 := ()
def tw3340329465294726566 := ()
def tw5212246237359451901 := ()
def tw12561396198707390384 := ()
def tw247868447028173470 := ()
def tw14365037022702905074 := ()
def tw14023866708827591841 := ()
def tw10156922481793520554 := ()
def tw6098238581048109107 := ()
def tw13882886536442582684 := ()
def tw16273705538750698919 := ()
def tw17771091616647555176 := ()
def tw6504510023767745543 := ()
def tw10021671222648242367 := ()
def tw17804706908533270479 := ()
def tw11487233615745954684 := ()
def tw6781385182691079702 := ()
def tw4651672785639426360 := ()
def tw487454911847034443 := ()
def tw9630201181689252229 := ()
def tw1671717191258359688 := ()
def tw10892733795235520045 := ()
def tw11073862491102096532 := ()
def tw1943565259478834359 := ()
def tw18306396828256459891 := ()
def tw5199095362797411862 := ()
def tw11112165376138349050 := ()
def tw11560487784257396061 := ()
def tw8391314388737920880 := ()
def tw17982068300498332978 := ()
def tw412378053240380507 := ()
def tw1186855602500322997 := ()
def tw11561110503487894832 := ()
def tw960088917637312277 := ()
def tw9264661696287426480 := ()
def tw4202445004391406451 := ()
def tw12664019827789594816 := ()
def tw16699717532426280315 := ()
def tw14966542409235643560 := ()
def tw3980864781148222910 := ()
def tw17636135200638415007 := ()
def tw13245994655685429166 := ()
def tw15219342874508051013 := ()
def tw6004720767255613226 := ()
def tw2622736793711699689 := ()
def tw2555095661843321852 := ()
def tw1226998564105920589 := ()
def tw596169940437448095 := ()
def tw4087863892996640472 := ()
def tw9922559653506211588 := ()
def tw14074347181071374319 := ()
def tw10496283509001686352 := ()
def tw4908654860815026946 := ()
def tw3773230977508121960 := ()
def tw6615678701444066743 := ()
def tw16640171011198533587 := ()
def tw4110385462519548488 := ()
def tw18233248681921789387 := ()
def tw4878235762664791525 := ()
def tw17326998146768748887 := ()
def tw5354087749479574540 := ()
def tw16153684535609748498 := ()
def tw12001498195728424146 := ()
def tw16006868783050834156 := ()
def tw9924763693058516787 := ()
def tw1334124943080453218 := ()
def tw8721102676579057022 := ()
def tw816236894942598777 := ()
def tw442789853383868379 := ()
def tw11582114702436568009 := ()
def tw10505475832932973115 := ()
def tw14653292579836622072 := ()
def tw11835045845503400387 := ()
def tw13390033419593273908 := ()
def tw16297160218707942203 := ()
def tw17205236538125510463 := ()
def tw2012962420737548470 := ()
def tw6119604682438664855 := ()
def tw1877303919335050780 := ()
def tw10893188374698685084 := ()
def tw63210838559179136 := ()
def tw5765489101611209540 := ()
def tw12482450092312341820 := ()
def tw17010901822127425784 := ()
def tw2364703637282434537 := ()
def tw11595933528088617510 := ()
def tw14473426251967640449 := ()
def tw1788311721107234642 := ()
def tw10296851965144806533 := ()
def tw15285840104488702916 := ()
def tw4735521274452445895 := ()
def tw15833647476029170953 := ()
def tw11591499442149889139 := ()
def tw5811812775434173069 := ()
def tw8981197567084957216 := ()
def tw241488336152043609 := ()
def tw625304462445317598 := ()
def tw9846327803449637741 := ()
def tw8086464053776358226 := ()
def tw6862813501654042632 := ()
def tw3795616822906714117 := ()
def tw15765986036452012632 := ()
def tw17000211111666703534 := ()
def tw17432145596870688069 := ()
def tw12205257543368161527 := ()
def tw15018327385388152351 := ()
def tw11192666078634713054 := ()
def tw10459604531968907868 := ()
def tw5813714783581533088 := ()
def tw10898229854485849337 := ()
def tw17330592606292020011 := ()
def tw8377769149030694811 := ()
def tw10725280527293011377 := ()
def tw16585091936165827568 := ()
def tw8605226307976126434 := ()
def tw4768375862251654807 := ()
def tw3401119316759266792 := ()
def tw12366346108017764702 := ()
def tw17816761194301930228 := ()
def tw2903772747782979027 := ()
def tw636359019247004421 := ()
def tw11258986292520305758 := ()
def tw6342605798432316993 := ()
def tw13067385695991091420 := ()
def tw7143773354556678350 := ()
def tw10915318961331448019 := ()
def tw16397011329031800301 := ()
def tw8289746137996228596 := ()
def tw6943061501463259801 := ()
def tw5410861071245317416 := ()
def tw16263220739451733808 := ()
def tw1973053411870532510 := ()
def tw17467932332234971649 := ()
def tw15256017873266035521 := ()
def tw11037977260654678563 := ()
def tw15076140031227969913 := ()
def tw12566061257080554264 := ()
def tw1519081303808224542 := ()
def tw115747848993578604 := ()
def tw1203022203433316232 := ()
def tw11460897495557197945 := ()
def tw3621430955581579989 := ()
def tw13871685933645771108 := ()
def tw7630308817715661803 := ()
def tw2354327021978415457 := ()
def tw1357014771530113990 := ()
def tw14978390465502935911 := ()
def tw6321315793959719070 := ()
def tw16466959021566938805 := ()
def tw16259851580994015761 := ()
def tw15024816364040724176 := ()
def tw10499447766992069746 := ()
def tw6520968924459800177 := ()
def tw17754064468032121315 := ()
def tw7004845762924380118 := ()
def tw922793328089168601 := ()
def tw12359823618232631017 := ()
def tw4631732398508372245 := ()
def tw12102974804035058066 := ()
def tw33545322752863435 := ()
def tw9690281013697191277 := ()
def tw8972148850684732920 := ()
def tw13703977245233960257 := ()
def tw168831535958946896 := ()
def tw3695118487149186152 := ()
def tw3175987687306875406 := ()
def tw16086768411461867848 := ()
def tw7461721396322131133 := ()
def tw15975341289772750430 := ()
def tw11068731093024411096 := ()
def tw15370223857855770615 := ()
def tw7411851462598342595 := ()
def tw15401649126058024464 := ()
def tw12587487706921380962 := ()
def tw17142144206735657525 := ()
def tw11883391531333883307 := ()
def tw8716219703418638104 := ()
def tw10175382311197635989 := ()
def tw5536001349621427344 := ()
def tw17900162924241615171 := ()
def tw16885209342936506855 := ()
def tw10310498379142166775 := ()
def tw337945491460917432 := ()
def tw12510355309427705802 := ()
def tw17811079277906298925 := ()
def tw16268278327533874154 := ()
def tw16381163212158060562 := ()
def tw2684825937878368533 := ()
def tw2087145930890454157 := ()
def tw17199778615825796029 := ()
def tw14754212967271844401 := ()
def tw4510387758449493149 := ()
def tw925549121769502096 := ()
def tw7346153712344839680 := ()
def tw14662860621622545053 := ()
def tw4056788020509041240 := ()
def tw9415045270684359831 := ()
def tw16817602868889247107 := ()
def tw17469475942124369320 := ()
def tw2724950294502605548 := ()
def tw960419727705777715 := ()
def tw11115231629820578920 := ()
def tw332660672133165325 := ()
def tw18330289114453858369 := ()
def tw7114428319198190798 := ()
def tw14825394924046295923 := ()
def tw17462093080544341420 := ()
def tw5170309721352268735 := ()
def tw12633271150128376000 := ()
def tw12189506804428127574 := ()
def tw83687180409277084 := ()
def tw5992368434605851634 := ()
def tw12325311040781256807 := ()
def tw3950682731385079022 := ()
def tw4303383565265730475 := ()
def tw821653076779232710 := ()
def tw9424266294924514698 := ()
def tw4154516368191137598 := ()
def tw15401114686630345780 := ()
def tw6619737618527692565 := ()
def tw18276442323931484070 := ()
def tw106010652369129380 := ()
def tw15198973109214373927 := ()
def tw2315631364780451051 := ()
def tw11590007939366266951 := ()
def tw13599064295757604180 := ()
def tw16655988074250616772 := ()
def tw15629460198535884689 := ()
def tw12680204572520412271 := ()
def tw11645202326526064004 := ()
def tw6786127485992088801 := ()
def tw9815983137964704334 := ()
def tw8367746616975136794 := ()
def tw16954528424508417091 := ()
def tw8743230805686586819 := ()
def tw13480377869165993558 := ()
def tw9338217634662801637 := ()
def tw4191664183104690602 := ()
def tw14519387469716726222 := ()
def tw471913126147702621 := ()
def tw1466470760840207814 := ()
def tw9098548287678045901 := ()
def tw3034429429879821156 := ()
def tw5063810861586826312 := ()
def tw12855617798006990436 := ()
def tw8872243467654545850 := ()
def tw6037342934125782210 := ()
def tw1305306186034201507 := ()
def tw8461218815526157675 := ()
def tw7436691083394409187 := ()
def tw1606503741253834038 := ()
def tw14689101351831959561 := ()
def tw9295014416815546424 := ()
def tw12512389714477559781 := ()
def tw15294909360454231324 := ()
def tw4499821094599070498 := ()
def tw15168199751549292302 := ()
def tw12894386127421744263 := ()
def tw7745147097251583855 := ()
def tw2256494532466685206 := ()
def tw1904733174775398336 := ()
def tw8946494275627421166 := ()
def tw16515123339115085746 := ()
def tw16513142038723049791 := ()
def tw14461246890184252344 := ()
def tw15517403182858643039 := ()
def tw6846262773851577337 := ()
def tw2761130438600856975 := ()
def tw16075610352357163396 := ()
def tw1284068369003545482 := ()
def tw8538825024645296050 := ()
def tw5327867021461143669 := ()
def tw11943435394712988949 := ()
def tw11805635908586216867 := ()
def tw7775742585377704713 := ()
def tw1926342246759179658 := ()
def tw17287239061586886731 := ()
def tw5200814724759496938 := ()
def tw13877313074322850307 := ()
def tw3334696589000921076 := ()
def tw10530289235979058032 := ()
def tw1412293487899260816 := ()
def tw7683433848015195495 := ()
def tw7371551335890833425 := ()
def tw6601260833059139378 := ()
def tw3927942265738818114 := ()
def tw12390209913525902521 := ()
def tw17236238930434384497 := ()
def tw11075887476917949857 := ()
def tw15323519274929639975 := ()
def tw1261420773927574512 := ()
def tw13199534725429161343 := ()
def tw10805466577682645947 := ()
def tw11078296045996338193 := ()
def tw15970354989227826011 := ()
def tw11778664315697894851 := ()
def tw5781369661056670349 := ()
def tw5058055858577118288 := ()
def tw11631331384512432190 := ()
def tw17603911104643233188 := ()
def tw6187904046409121520 := ()
def tw3800502767614691959 := ()
def tw3614227562962378563 := ()
def tw13488694013049949392 := ()
def tw2360489610037243643 := ()
def tw7506697866062746767 := ()
def tw8796202908557015967 := ()
def tw8147845597038038896 := ()
def tw14150520194227016939 := ()
def tw4802121471560128018 := ()
def tw1984075774765126879 := ()
def tw4384680209719466737 := ()
def tw18332992742288737977 := ()
def tw4513991344929011301 := ()
def tw695138569666351599 := ()
def tw14242289414048331425 := ()
def tw9097920715771542578 := ()
def tw17200357116726765665 := ()
def tw15143608627307177570 := ()
def tw7520276854350837584 := ()
def tw15411945866305539514 := ()
def tw8382830771338668222 := ()
def tw14264386133388993793 := ()
def tw6826534402802770869 := ()
def tw13625269085628853252 := ()
def tw10830432924255953438 := ()
def tw3025495180828022729 := ()
def tw17543749666864384446 := ()
def tw1380707361482046402 := ()
def tw4557156257355078212 := ()
def tw3101314775515302105 := ()
def tw3009147125037725605 := ()
def tw7047365367498692499 := ()
def tw13256669842090345052 := ()
def tw9814781627539252294 := ()
def tw1749482922048628609 := ()
def tw275969832962710928 := ()
def tw1060367489374195098 := ()
def tw3456873872527838374 := ()
def tw14462702825533819943 := ()
def tw1627362432581139695 := ()
def tw2072218093287347561 := ()
def tw587498260874163327 := ()
def tw2434467884008656234 := ()
def tw2273368046393864533 := ()
def tw2423118195773778052 := ()
def tw7371586398696614027 := ()
def tw10408312188385651 := ()
def tw16198064653652694109 := ()
def tw16522567506434279953 := ()
def tw12959222005156695000 := ()
def tw7465471034057604592 := ()
def tw9449232059447298800 := ()
def tw1423667555875341578 := ()
def tw4486582277721409798 := ()
def tw18111773875022288454 := ()
def tw1477615831727534480 := ()
def tw606564239104293532 := ()
def tw2075063269403002038 := ()
def tw5163024609113658949 := ()
def tw13892668115245085283 := ()
def tw9685216944040397969 := ()
def tw16255352539673429433 := ()
def tw14801563838820941657 := ()
def tw5952954063299556446 := ()
def tw18134297303745641321 := ()
def tw1149618781606982046 := ()
def tw10637435075481968890 := ()
def tw6456894446196592425 := ()
def tw16863056967554332519 := ()
def tw17188202387806823336 := ()
def tw15061214633925886171 := ()
def tw922050058054663541 := ()
def tw13419755850090764676 := ()
def tw4754025813611339714 := ()
def tw18057623766679685881 := ()
def tw12797525050901007363 := ()
def tw1461624031183152004 := ()
def tw1500598119795854306 := ()
def tw15858118135921745660 := ()
def tw16861969718276798661 := ()
def tw9384794403989019909 := ()
def tw1761736623883056288 := ()
def tw2667888431064436369 := ()
def tw9705802558539896722 := ()
def tw18405672370039871731 := ()
def tw3046620681317261342 := ()
def tw11888416136560397953 := ()
def tw13263194978831285449 := ()
def tw12381994492583352324 := ()
def tw6425086827869817522 := ()
def tw10001206883257641801 := ()
def tw6758136439528588297 := ()
def tw13190902028271141598 := ()
def tw16297020020093932683 := ()
def tw4628489782857238186 := ()
def tw1317040828819532738 := ()
def tw13823718161422773400 := ()
def tw10501636586555240448 := ()
def tw6676683573001264577 := ()
def tw5491476228542714576 := ()
def tw14785468617600195995 := ()
def tw16729813262557021321 := ()
def tw5569677191409993844 := ()
def tw2963786406843094790 := ()
def tw8182929771044156665 := ()
def tw9221191804535206733 := ()
def tw15331120109592580475 := ()
def tw9548366801540199022 := ()
def tw14844281251141537120 := ()
def tw5855257875171426339 := ()
def tw12536802967442806376 := ()
def tw7435321059134483878 := ()
def tw8222949930215332433 := ()
def tw6842618730859020561 := ()
def tw8223985137590348600 := ()
def tw4504165638230094681 := ()
def tw2806992585333093471 := ()
def tw13289936158092335524 := ()
def tw1230156399973454738 := ()
def tw13394294617515829567 := ()
def tw2310733156069073073 := ()
def tw16789752211542989180 := ()
def tw12323367238104267098 := ()
def tw10308014732938279686 := ()
def tw3421003294479407597 := ()
def tw14515663798253011069 := ()
def tw11243336902498504448 := ()
def tw739604914645730068 := ()
def tw9237405625177666428 := ()
def tw15272259796136577390 := ()
def tw10564287542488004995 := ()
def tw3575863279602145502 := ()
def tw1224726479270581437 := ()
def tw5029498415472760268 := ()
def tw1098850852248274303 := ()
def tw7483700908785568249 := ()
def tw4110813475111135236 := ()
def tw2987461860787773430 := ()
def tw6672539032290290718 := ()
def tw10935168562363452652 := ()
def tw1622684067471504041 := ()
def tw2644434995824461253 := ()
def tw3815109740562212807 := ()
def tw10663723474335786039 := ()
def tw55398253488489682 := ()
def tw9243380326370077384 := ()
def tw2826391314607372974 := ()
def tw12611961013326574052 := ()
def tw1595171675447629093 := ()
def tw13681729457453975432 := ()
def tw5923311312037540784 := ()
def tw13702550679251061215 := ()
def tw12203801001199226499 := ()
def tw992249642109335082 := ()
def tw147968026015153911 := ()
def tw3783718015199895880 := ()
def tw6263607536449526374 := ()
def tw12855465974716671920 := ()
def tw13797779686720337864 := ()
def tw2297343876876218661 := ()
def tw4780360182315773537 := ()
def tw7081155540578331885 := ()
def tw3180406125290969456 := ()
def tw1617565844983845448 := ()
def tw6757688037547223800 := ()
def tw15665404783239573344 := ()
def tw12922291333277053927 := ()
def tw9822638071316845179 := ()
def tw9639774934574925744 := ()
def tw10733532679273071629 := ()
def tw1724668966946612226 := ()
def tw17260001124059690501 := ()
def tw5463668182646748573 := ()
def tw12540296340893777527 := ()
def tw17630998045566161559 := ()
def tw10185482481759434135 := ()
def tw8030738907153410334 := ()
def tw11262868182231306992 := ()
def tw7647566733309745652 := ()
def tw11604659262182697516 := ()
def tw10727437676020125552 := ()
def tw5206885188097102732 := ()
def tw3385779231476085202 := ()
def tw13351229712828368037 := ()
def tw17492932398556098235 := ()
def tw15052319205655835195 := ()
def tw2843307803523718471 := ()
def tw541271986089704105 := ()
def tw3640282946189768073 := ()
def tw11508848204317185015 := ()
def tw18198062977406010414 := ()
def tw17862679296469289056 := ()
def tw1534618591389109495 := ()
def tw9014844114914188499 := ()
def tw4815838746725091903 := ()
def tw10330706932982253859 := ()
def tw17925296530215486340 := ()
def tw353318126242616805 := ()
def tw4495037594008445047 := ()
def tw18439627348193744480 := ()
def tw3062954544189743073 := ()
def tw5536478213477013452 := ()
def tw1468512507352602246 := ()
def tw13298529568507275869 := ()
def tw10082281234790039392 := ()
def tw16742367496202060067 := ()
def tw7032588461025639310 := ()
def tw9011903675334779659 := ()
def tw8916342200091720950 := ()
def tw6548401082417000922 := ()
def tw7523534157387666101 := ()
def tw2122326515723606837 := ()
def tw6668152210105845781 := ()
def tw15387308316436859805 := ()
def tw14498533132403534717 := ()
def tw8016376838938763008 := ()
def tw6625084132489086609 := ()
def tw8909642741930852122 := ()
def tw2233087789251777648 := ()
def tw15814563877979718264 := ()
def tw15544427522950014355 := ()
def tw796837804347628044 := ()
def tw14724778988547487222 := ()
def tw12734207584830773855 := ()
def tw12257237036117141 := ()
def tw1134236371177197567 := ()
def tw762978767063256912 := ()
def tw5180620139860043318 := ()
def tw7409246128000920051 := ()
def tw9069462385105339889 := ()
def tw4255537512657001496 := ()
def tw4438774144035864386 := ()
def tw16972237881093118629 := ()
def tw16379641003331467433 := ()
def tw2685901487142874917 := ()
def tw6078614184722374325 := ()
def tw546720000835405031 := ()
def tw17871192299791387323 := ()
def tw12067688847936571073 := ()
def tw826343274522523751 := ()
def tw16564723511512663157 := ()
def tw15161627105435177656 := ()
def tw2489946861460619045 := ()
def tw2561636355757083425 := ()
def tw2456141304060621498 := ()
def tw2158134480310425491 := ()
def tw2791621402746598912 := ()
def tw16769460748943575173 := ()
def tw11862116355963759304 := ()
def tw7092578609503628841 := ()
def tw2135115075643025913 := ()
def tw12669583200383231899 := ()
def tw9017064263986392819 := ()
def tw2077021669929272604 := ()
def tw4769498012985858309 := ()
def tw9251717847383159801 := ()
def tw9098738017746629206 := ()
def tw13281523492829366766 := ()
def tw1014098217857993700 := ()
def tw16732362094277289096 := ()
def tw9008583179714165901 := ()
def tw7167493705528629336 := ()
def tw9024390740761831667 := ()
def tw2097170540258196367 := ()
def tw8290521892049845543 := ()
def tw4214756093171733734 := ()
def tw17828545581377979209 := ()
def tw616793773286139807 := ()
def tw351395951224969532 := ()
def tw6172369370028645782 := ()
def tw12990690087124466023 := ()
def tw3573079359238012910 := ()
def tw1957149769351995884 := ()
def tw6886680620569658430 := ()
def tw5457547621592553272 := ()
def tw14504037870411777597 := ()
def tw14641169792702465476 := ()
def tw10670196960759198824 := ()
def tw9830729696014057778 := ()
def tw15474563527915023961 := ()
def tw15788872705609735566 := ()
def tw2199684819517978807 := ()
def tw7342785401831605486 := ()
def tw945646033179673082 := ()
def tw18195985807270326596 := ()
def tw7766407455184908187 := ()
def tw12592137374523613855 := ()
def tw4758624438197362770 := ()
def tw15794349208874798580 := ()
def tw10967366141389552952 := ()
def tw17409099141411586168 := ()
def tw17493151527363918547 := ()
def tw2924209891196840121 := ()
def tw5921190209886780621 := ()
def tw7132621550362099547 := ()
def tw861873883758462597 := ()
def tw10001993084109020891 := ()
def tw7082059666371096975 := ()
def tw6866800395521472488 := ()
def tw6239357764819977649 := ()
def tw9402874995123556788 := ()
def tw7587981994090507657 := ()
def tw6160669824253502943 := ()
def tw16755158413955371154 := ()
def tw5817984003172737814 := ()
def tw14986860469200769843 := ()
def tw9614579357419956241 := ()
def tw16256451284632998348 := ()
def tw1861010109941737082 := ()
def tw13115502511062145224 := ()
def tw13089144746930854364 := ()
def tw6131812815494729367 := ()
def tw5353351377643715085 := ()
def tw14926001285495540027 := ()
def tw10872472415054643479 := ()
def tw18363141968840632772 := ()
def tw532522940393769014 := ()
def tw9697404891604982043 := ()
def tw128565105724310106 := ()
def tw6605922052133026901 := ()
def tw15839774760196119314 := ()
def tw13498320286150049838 := ()
def tw7588569972691865771 := ()
def tw16564164213596577319 := ()
def tw3493187742357909391 := ()
def tw4965702727726535053 := ()
def tw11503887883250287436 := ()
def tw6709004673087264994 := ()
def tw8356967533989899168 := ()
def tw1747287417139336050 := ()
def tw11368534105753827539 := ()
def tw5215044794136211213 := ()
def tw14597073570789844581 := ()
def tw15373770026962425625 := ()
def tw9232920683016573727 := ()
def tw11810291069071210071 := ()
def tw7896787220213719759 := ()
def tw2413453698627141334 := ()
def tw11496526174872411002 := ()
def tw6560768883265387951 := ()
def tw15750430713764065382 := ()
def tw8164459686709414960 := ()
def tw1564846548349791814 := ()
def tw13994940364917206612 := ()
def tw1162395348415327276 := ()
def tw6446701755631836920 := ()
def tw6160183968752105523 := ()
def tw11696816662083707411 := ()
def tw78133751441482204 := ()
def tw13371167276850854252 := ()
def tw5894208738492271938 := ()
def tw9958775743157153834 := ()
def tw17961893306265716031 := ()
def tw12231979149426125977 := ()
def tw14321353951189563870 := ()
def tw5840215336414398921 := ()
def tw16175241241345168250 := ()
def tw770270757285374286 := ()
def tw18408552079177845923 := ()
def tw3153823345642825335 := ()
def tw6139791009159791995 := ()
def tw12730162031496509701 := ()
def tw9100553646220294562 := ()
def tw10096691621270561493 := ()
def tw17263989438424975800 := ()
def tw9069946166193302228 := ()
def tw17294979809677986119 := ()
def tw3409238673232625119 := ()
def tw11389206032757200485 := ()
def tw2697592694265931101 := ()
def tw14681095426954048296 := ()
def tw675380494177123965 := ()
def tw7818276884756060853 := ()
def tw6625141020013814252 := ()
def tw2879174722130838515 := ()
def tw11830919283255494775 := ()
def tw15607693192536558073 := ()
def tw11964233407556154021 := ()
def tw9935658837424964590 := ()
def tw8065446638660902148 := ()
def tw2072274985899584947 := ()
def tw1609847181391754640 := ()
def tw14110715287290105357 := ()
def tw13729978743730647666 := ()
def tw4326045134196478430 := ()
def tw16893197682802394075 := ()
def tw12260980411502357574 := ()
def tw11431454109454288142 := ()
def tw16097686450211551804 := ()
def tw15855618449415045605 := ()
def tw14947348539704024775 := ()
def tw14384945446976987926 := ()
def tw10479478754594517578 := ()
def tw13649201932053738396 := ()
def tw17813791938165996033 := ()
def tw1854905576458717840 := ()
def tw6681512303650741269 := ()
def tw2886278931120219413 := ()
def tw15764301957968166516 := ()
def tw8462100046243182399 := ()
def tw13597679984387596971 := ()
def tw2272841044465999199 := ()
def tw4505508825589939371 := ()
def tw1135409808006709399 := ()
def tw12940510449047920631 := ()
def tw2347693218465970898 := ()
def tw15672500408745200074 := ()
def tw6969885011466084936 := ()
def tw3459402208437882459 := ()
def tw10933550620981564847 := ()
def tw14405487371903540953 := ()
def tw6224643985488959594 := ()
def tw12911226110716783415 := ()
def tw18118768828322451443 := ()
def tw5133292842743121260 := ()
def tw17421966934419863210 := ()
def tw10309018483381338556 := ()
def tw5170638180378375345 := ()
def tw18240049722463997044 := ()
def tw2037126632544264372 := ()
def tw10081705455569449660 := ()
def tw652071838801644206 := ()
def tw8685744104413174099 := ()
def tw17168031725031829079 := ()
def tw14034397290862785124 := ()
def tw5094003016906522622 := ()
def tw10885978044461598421 := ()
def tw16699652886683195100 := ()
def tw4090249293780105312 := ()
def tw12263883739413857333 := ()
def tw15619601111755481734 := ()
def tw2500391487565080509 := ()
def tw9894171154567809648 := ()
def tw14278547016766252839 := ()
def tw4511072350412315992 := ()
def tw16356265335569378627 := ()
def tw13626366337300391174 := ()
def tw14851738146083478556 := ()
def tw13122787840082203835 := ()
def tw14583791128232410396 := ()
def tw9057463505744323180 := ()
def tw13291905975027718560 := ()
def tw10983726462951039713 := ()
def tw392280366577573269 := ()
def tw1716024876959539305 := ()
def tw11742547987032623059 := ()
def tw8610883163883537913 := ()
def tw6494405128437519488 := ()
def tw2039585045985538049 := ()
def tw14282236321945147770 := ()
def tw12754102577621944221 := ()
def tw8853212766213465447 := ()
def tw13269869354456616359 := ()
def tw2098442655499447285 := ()
def tw3336726238417468653 := ()
def tw59140081587698331 := ()
def tw15703622381729642823 := ()
def tw9182286824382642786 := ()
def tw14175743732376924217 := ()
def tw5087145928644748424 := ()
def tw8326860296791553992 := ()
def tw14234786466854889825 := ()
def tw238493099259771246 := ()
def tw18180582847813594321 := ()
def tw2157635041440740975 := ()
def tw15094393214245696482 := ()
def tw9632485704648005946 := ()
def tw11501318351276799391 := ()
def tw13521161174160275542 := ()
def tw3171154973237141338 := ()
def tw6105431718495360147 := ()
def tw3754602899318823856 := ()
def tw12208778750890745984 := ()
def tw4976424363974643312 := ()
def tw1922351332413633079 := ()
def tw14395357986530681060 := ()
def tw16543860545730440589 := ()
def tw9670480742436814409 := ()
def tw14892581308568980146 := ()
def tw17718725043847435752 := ()
def tw13063243830142248218 := ()
def tw14414580727439678787 := ()
def tw5227970203932277761 := ()
def tw12970206091274685303 := ()
def tw17201239913350247100 := ()
def tw5127306908842675706 := ()
def tw17250051786714011285 := ()
def tw5487274992673753072 := ()
def tw9173717907143368946 := ()
def tw4736016953779722176 := ()
def tw15604484453802341122 := ()
def tw3646302109560425567 := ()
def tw16302189301954040421 := ()
def tw8938160679600590063 := ()
def tw16811606223449035162 := ()
def tw15171970436186994042 := ()
def tw1612914023140315642 := ()
def tw4556441652005220359 := ()
def tw2841622880520374104 := ()
def tw7258841710649251955 := ()
def tw700300144395634171 := ()
def tw868803184486959705 := ()
def tw544795763121942883 := ()
def tw6781821638505180181 := ()
def tw16277004720526568702 := ()
def tw11188444592739620634 := ()
def tw6106400932838734726 := ()
def tw4272220372989186891 := ()
def tw7971145435843639832 := ()
def tw13427482980661386542 := ()
def tw7415701461507582791 := ()
def tw3937844545569876494 := ()
def tw8612622022561811609 := ()
def tw7523596926559922047 := ()
def tw12592962136343659810 := ()
def tw5119151765126386857 := ()
def tw16785096236594237361 := ()
def tw496333161864034107 := ()
def tw1015491575605924822 := ()
def tw4969477708315818258 := ()
def tw2082184151727957270 := ()
def tw9717631720713196614 := ()
def tw10686626531956019803 := ()
def tw8836831000724085616 := ()
def tw2880870661975499282 := ()
def tw371383806240498494 := ()
def tw10276023249805825681 := ()
def tw17109913680145667497 := ()
def tw14904818628672728046 := ()
def tw8299343012565828220 := ()
def tw14670635398705309649 := ()
def tw7536976899095357015 := ()
def tw8424620148543284900 := ()
def tw15627912412664498437 := ()
def tw9098753307731517021 := ()
def tw14346475306042053344 := ()
def tw8583366418363382213 := ()
def tw11440398137526194774 := ()
def tw4818741377653865751 := ()
def tw11435841654924788763 := ()
def tw2153901074818185132 := ()
def tw13415777037250265282 := ()
def tw1884219110383238476 := ()
def tw11759171673493000190 := ()
def tw16047327845390460575 := ()
def tw15508992164879968252 := ()
def tw15955634643499050655 := ()
def tw14982530054002252272 := ()
def tw2304724061394456518 := ()
def tw11588845339257625299 := ()
def tw630354568726767082 := ()
def tw15107197909879790729 := ()
def tw5429668523838369388 := ()
def tw10099153765263899442 := ()
def tw3230180662343889215 := ()
def tw18152698455337762945 := ()
def tw5082988221599897002 := ()
def tw6352764358163082992 := ()
def tw7176227866776807749 := ()
def tw3070889827412280366 := ()
def tw5008787305938653627 := ()
def tw17574291581903022794 := ()
def tw14711292402614813390 := ()
def tw6731186664022699686 := ()
def tw2188890280499966039 := ()
def tw5464183249539385479 := ()
def tw2395290648901845394 := ()
def tw17289062609337551194 := ()
def tw16988638968360150460 := ()
def tw15889520987839596762 := ()
def tw9278228540568510477 := ()
def tw14259322348932360224 := ()
def tw12225458165626121786 := ()
def tw125147062155321132 := ()
def tw4123465794733833607 := ()
def tw9764662379794396624 := ()
def tw1402563937551546869 := ()
def tw5148126847711466132 := ()
def tw515051316334825185 := ()
def tw12867518747375932944 := ()
def tw8498441758991874838 := ()
def tw4701592614012177654 := ()
def tw18370157058518102560 := ()
def tw6985405342419056131 := ()
def tw6269209297704734244 := ()
def tw3616592700992324026 := ()
def tw4939757796630221302 := ()
def tw7956996808520182364 := ()
def tw2094710886718268596 := ()
def tw14711767136726491531 := ()
def tw14231541511736536959 := ()
def tw17869450029000689765 := ()
def tw15922248019900609669 := ()
def tw14863669983506680933 := ()
def tw1463644035154674566 := ()
def tw10461103241519924423 := ()
def tw17557213126254125518 := ()
def tw10059899293541334291 := ()
def tw17610324369929524206 := ()
def tw6400975060910780310 := ()
def tw5210169822573665168 := ()
def tw2530444049668066438 := ()
def tw3979937979453768068 := ()
def tw8635092750409556489 := ()
def tw8947097924278403912 := ()
def tw15292841853279376856 := ()
def tw15836663256086118626 := ()
def tw15007648710222508633 := ()
def tw13012219681338146318 := ()
def tw4863535530477191952 := ()
def tw17336906577894979245 := ()
def tw16927809890891443919 := ()
def tw5278187377821723394 := ()
def tw1684780542764270108 := ()
def tw16181344975599501961 := ()
def tw10932802323854701849 := ()
def tw13636297760938802666 := ()
def tw3997086430301093300 := ()
def tw2897377196105834160 := ()
def tw9241949146153012645 := ()
def tw1162448746376755134 := ()
def tw3432376450285947543 := ()
def tw716693803991298832 := ()
def tw8624163796609414571 := ()
def tw15379158073874044262 := ()
def tw16987173461387058788 := ()
def tw17005553902664916264 := ()
def tw6322563312208743929 := ()
def tw12580056750862177043 := ()
def tw14634035975887037277 := ()
def tw9168867557395813504 := ()
def tw4042878258888851757 := ()
def tw14618938437717207411 := ()
def tw4577035825023314695 := ()
def tw7767760796541204405 := ()
def tw14547929766592073871 := ()
def tw9465281784054179775 := ()
def tw2192074209704036253 := ()
def tw1799257631277868530 := ()
def tw3223905224332096752 := ()
def tw16617548594762516315 := ()
def tw1552172687113569174 := ()
def tw1921142539546987383 := ()
def tw15773864141485546995 := ()
def tw11912091199637847743 := ()
def tw4773865804602425458 := ()
def tw18039935054154536478 := ()
def tw1269276700416918786 := ()
def tw5846784792972923456 := ()
def tw109418412781109882 := ()
def tw2137492781528561073 := ()
def tw7560998853365163736 := ()
def tw1394031696123469999 := ()
def tw16926480856703553717 := ()
def tw17991681496102353510 := ()
def tw13671358887530207074 := ()
def tw74000763496727098 := ()
def tw17488226954480718938 := ()
def tw7365058646110521234 := ()
def tw16237607253458747728 := ()
def tw18188805946484726021 := ()
def tw8849334157437744519 := ()
def tw15136160552651415094 := ()
def tw5664209260812958857 := ()
def tw2618557465059580976 := ()
def tw11935296307069302663 := ()
def tw9310879786654977827 := ()
def tw13101992341292242862 := ()
def tw4602166624115904113 := ()
def tw13717862499051971471 := ()
def tw2634780361002692068 := ()
def tw9990686329582183568 := ()
def tw17220661500792924481 := ()
def tw7972598530212837409 := ()
def tw7815006867565442117 := ()
def tw12764086573056114089 := ()
def tw2361022664248612888 := ()
def tw1735737351875627940 := ()
def tw18287895534779492483 := ()
def tw16746132488484077934 := ()
def tw3521066262243875326 := ()
def tw11290382532136239185 := ()
def tw7331393325104855503 := ()
def tw16815207335888187859 := ()
def tw5726491598565066601 := ()
def tw8021906697684223260 := ()
def tw5604800728366015175 := ()
def tw8719705884075529197 := ()
def tw1329756498706025751 := ()
def tw3808225321172875541 := ()
def tw5829991075512016457 := ()
def tw16521234511006404499 := ()
def tw1551156494836662838 := ()
def tw7286865198366395819 := ()
def tw12648503808070662808 := ()
def tw1304633547265259102 := ()
def tw3834843879660457487 := ()
def tw17924924924393150926 := ()
def tw73020533133143079 := ()
def tw2505716476238214725 := ()
def tw4207250376142321517 := ()
def tw17221503106101569885 := ()
def tw16453284989438976250 := ()
def tw16550248584950151716 := ()
def tw7954309381168513231 := ()
def tw14309796002135916169 := ()
def tw7071077222471429906 := ()
def tw18162011759659245080 := ()
def tw10052804926521993500 := ()
def tw7890245372601718432 := ()
def tw15126351634861857431 := ()
def tw15031436284651458339 := ()
def tw12127633731856825378 := ()
def tw14151175605337539878 := ()
def tw545117301511051834 := ()
def tw5691735453917676953 := ()
def tw7568046405386558948 := ()
def tw11700379618093339459 := ()
def tw17873671686622876426 := ()
def tw12085149384897133253 := ()
def tw12684013207697671944 := ()
def tw1229913004796562139 := ()
def tw3547955799296498917 := ()
def tw11294682863823991895 := ()
def tw2185718537082248804 := ()
def tw2026122627064004778 := ()
def tw13996382494797118766 := ()
def tw5674443802740327891 := ()
def tw3441170152783924115 := ()
def tw7485840067560047943 := ()
def tw16470678061561514406 := ()
def tw13232559691899980379 := ()
def tw6038061187345223346 := ()
def tw5699039108568757840 := ()
def tw11194949930767654822 := ()
def tw16415150875222818543 := ()
def tw7872442128611694394 := ()
def tw12949918497139771680 := ()
def tw787020869884184754 := ()
def tw12392748557834212092 := ()
def tw15632948576808852982 := ()
def tw8313941135143668762 := ()
end PySem.W.Fast
set_option maxRecDepth 100000 in
set_option maxHeartbeats 0 in
theorem PySem.Challenge.cw_nearerwork_k13_first_rooms_and_stops_holds : PySem.Challenge.rw_nearerwork_k13_first_rooms_and_stops.Holds := by
  w_on; o_law; k_head; (case hw => w_witness2)
  k_fill
  refine Nw.walk (l := PySem.Challenge.rw_nearerwork_k13_first_rooms_and_stops) rfl rfl (fun w h Y => PySem.W.kIn_of Y) ?F
  case F =>
    intro w mg fa h KX G hmg
    refine' Nw.all_mk KX G hmg ?aN ?pgN ?hdN ?poN ?saN ?mkN ?kcN ?nN_number ?aM ?pgM ?hdM ?poM ?saM ?mkM ?kcM ?nM_name ?aP ?pgP ?hdP ?poP ?saP ?mkP ?kcP ?nP_one ?nP_other ?aI ?pgI ?hdI ?poI ?saI ?mkI ?kcI ?nI_one ?nI_other ?aX ?pgX ?hdX ?poX ?saX ?mkX ?kcX ?nX_one ?nX_other ?aC ?pgC ?hdC ?poC ?saC ?mkC ?kcC ?nC_name ?aU ?pgU ?hdU ?poU ?saU ?mkU ?kcU ?nU_name ?nU_one ?aA ?pgA ?hdA ?poA ?saA ?mkA ?kcA ?nA_name ?nA_one ?nA_other ?aY ?pgY ?hdY ?poY ?saY ?mkY ?kcY ?inY ?aQ ?pgQ ?hdQ ?poQ ?saQ ?mkQ ?kcQ ?nQ_one ?nQ_other ?aW ?pgW ?hdW ?poW ?saW ?mkW ?kcW ?nW_one ?nW_other ?aE ?pgE ?hdE ?poE ?saE ?mkE ?kcE ?nE_one ?nE_other ?aV ?pgV ?hdV ?poV ?saV ?mkV ?kcV ?nV_one ?nV_other ?aB ?pgB ?hdB ?poB ?saB ?mkB ?kcB ?nB_one ?nB_other ?aO ?pgO ?hdO ?poO ?saO ?mkO ?kcO ?nO_one ?nO_other ?aT ?pgT ?hdT ?poT ?saT ?mkT ?kcT ?nT_one ?aD ?pgD ?hdD ?poD ?saD ?mkD ?kcD ?nD_called ?nD_when ?nD_changes ?aZ ?pgZ ?hdZ ?poZ ?saZ ?mkZ ?kcZ ?nZ_places ?nZ_keeps ?nZ_deeds ?aNI ?iNI ?lNI ?cNI ?kNI ?aMI ?iMI ?lMI ?cMI ?kMI ?aTI ?aTII ?aTIX ?iTI ?lTI ?cTI ?kTI ?aPI ?aPIW ?aPIE ?aPIV ?aPIB ?aPIO ?iPI ?lPI ?cPI ?kPI ?aOI ?iOI ?lOI ?cOI ?kOI ?aCI ?iCI ?lCI ?cCI ?kCI ?aUI ?iUI ?lUI ?cUI ?kUI ?aAI ?iAI ?lAI ?cAI ?kAI ?aDI ?iDI ?lDI ?cDI ?kDI ?aZI ?iZI ?lZI ?cZI ?kZI ?aNW ?iNW ?lNW ?cNW ?kNW ?aMW ?iMW ?lMW ?cMW ?kMW ?aPW ?iPW ?lPW ?cPW ?kPW ?aIW ?iIW ?lIW ?cIW ?kIW ?aXW ?iXW ?lXW ?cXW ?kXW ?aCC ?iCC ?lCC ?cCC ?kCC ?aUC ?iUC ?lUC ?cUC ?kUC ?aAC ?iAC ?lAC ?cAC ?kAC ?aYH ?iYH ?lYH ?cYH ?kYH ?aLH ?iLH ?lLH ?cLH ?kLH ?aAH ?iAH ?lAH ?cAH ?kAH ?aEH ?iEH ?lEH ?cEH ?kEH ?aUH ?iUH ?lUH ?cUH ?kUH ?aBH ?iBH ?lBH ?cBH ?kBH ?aOH ?iOH ?lOH ?cOH ?kOH ?aTH ?iTH ?lTH ?cTH ?kTH ?aZV ?iZV ?lZV ?cZV ?kZV ?aZD ?iZD ?lZD ?cZD ?kZD ?aZF ?iZF ?lZF ?cZF ?kZF ?aZS ?iZS ?lZS ?cZS ?kZS ?aAt ?lAt ?cAt ?kAt ?aBe ?lBe ?cBe ?kBe ?aDr ?lDr ?cDr ?kDr ?aNa ?lNa ?cNa ?kNa ?aSu ?lSu ?cSu ?kSu ?aWo ?lWo ?cWo ?kWo ?aHa ?lHa ?cHa ?kHa ?aWh ?lWh ?cWh ?kWh ?aSg ?lSg ?cSg ?kSg ?aHo ?lHo ?cHo ?kHo ?aTo ?lTo ?cTo ?kTo ?aPl ?lPl ?cPl ?kPl ?aCg ?lCg ?cCg ?kCg ?aDe ?lDe ?cDe ?kDe ?aMa ?lMa ?cMa ?kMa ?aCo ?lCo ?cCo ?kCo ?aDo ?lDo ?cDo ?kDo ?aOp ?lOp ?cOp ?kOp ?aLb ?lLb ?cLb ?kLb ?aRm ?lRm ?cRm ?kRm ?aXo ?lXo ?cXo ?kXo ?aXr ?lXr ?cXr ?kXr ?aLv ?lLv ?cLv ?kLv ?aL ?lL ?cL ?kL ?z_len ?z_range ?z_isinstance ?z_int ?z_bool ?z_list ?z_tuple ?z_dict ?z_max ?z_min ?z_zip ?z_all ?cmg ?cmr ?cmf
    (case aN => k_is)
    (case pgN => k_is)
    (case hdN => k_is)
    (case poN => k_is)
    (case saN => k_is)
    (case mkN => k_is)
    (case kcN => k_is)
    (case nN_number => k_is)
    (case aM => k_is)
    (case pgM => k_is)
    (case hdM => k_is)
    (case poM => k_is)
    (case saM => k_is)
    (case mkM => k_is)
    (case kcM => k_is)
    (case nM_name => k_is)
    (case aP => k_is)
    (case pgP => k_is)
    (case hdP => k_is)
    (case poP => k_is)
    (case saP => k_is)
    (case mkP => k_is)
    (case kcP => k_is)
    (case nP_one => k_is)
    (case nP_other => k_is)
    (case aI => k_is)
    (case pgI => k_is)
    (case hdI => k_is)
    (case poI => k_is)
    (case saI => k_is)
    (case mkI => k_is)
    (case kcI => k_is)
    (case nI_one => k_is)
    (case nI_other => k_is)
    (case aX => k_is)
    (case pgX => k_is)
    (case hdX => k_is)
    (case poX => k_is)
    (case saX => k_is)
    (case mkX => k_is)
    (case kcX => k_is)
    (case nX_one => k_is)
    (case nX_other => k_is)
    (case aC => k_is)
    (case pgC => k_is)
    (case hdC => k_is)
    (case poC => k_is)
    (case saC => k_is)
    (case mkC => k_is)
    (case kcC => k_is)
    (case nC_name => k_is)
    (case aU => k_is)
    (case pgU => k_is)
    (case hdU => k_is)
    (case poU => k_is)
    (case saU => k_is)
    (case mkU => k_is)
    (case kcU => k_is)
    (case nU_name => k_is)
    (case nU_one => k_is)
    (case aA => k_is)
    (case pgA => k_is)
    (case hdA => k_is)
    (case poA => k_is)
    (case saA => k_is)
    (case mkA => k_is)
    (case kcA => k_is)
    (case nA_name => k_is)
    (case nA_one => k_is)
    (case nA_other => k_is)
    (case aY => k_is)
    (case pgY => k_is)
    (case hdY => k_is)
    (case poY => k_is)
    (case saY => k_is)
    (case mkY => k_is)
    (case kcY => k_is)
    (case inY => k_is)
    (case aQ => k_is)
    (case pgQ => k_is)
    (case hdQ => k_is)
    (case poQ => k_is)
    (case saQ => k_is)
    (case mkQ => k_is)
    (case kcQ => k_is)
    (case nQ_one => k_is)
    (case nQ_other => k_is)
    (case aW => k_is)
    (case pgW => k_is)
    (case hdW => k_is)
    (case poW => k_is)
    (case saW => k_is)
    (case mkW => k_is)
    (case kcW => k_is)
    (case nW_one => k_is)
    (case nW_other => k_is)
    (case aE => k_is)
    (case pgE => k_is)
    (case hdE => k_is)
    (case poE => k_is)
    (case saE => k_is)
    (case mkE => k_is)
    (case kcE => k_is)
    (case nE_one => k_is)
    (case nE_other => k_is)
    (case aV => k_is)
    (case pgV => k_is)
    (case hdV => k_is)
    (case poV => k_is)
    (case saV => k_is)
    (case mkV => k_is)
    (case kcV => k_is)
    (case nV_one => k_is)
    (case nV_other => k_is)
    (case aB => k_is)
    (case pgB => k_is)
    (case hdB => k_is)
    (case poB => k_is)
    (case saB => k_is)
    (case mkB => k_is)
    (case kcB => k_is)
    (case nB_one => k_is)
    (case nB_other => k_is)
    (case aO => k_is)
    (case pgO => k_is)
    (case hdO => k_is)
    (case poO => k_is)
    (case saO => k_is)
    (case mkO => k_is)
    (case kcO => k_is)
    (case nO_one => k_is)
    (case nO_other => k_is)
    (case aT => k_is)
    (case pgT => k_is)
    (case hdT => k_is)
    (case poT => k_is)
    (case saT => k_is)
    (case mkT => k_is)
    (case kcT => k_is)
    (case nT_one => k_is)
    (case aD => k_is)
    (case pgD => k_is)
    (case hdD => k_is)
    (case poD => k_is)
    (case saD => k_is)
    (case mkD => k_is)
    (case kcD => k_is)
    (case nD_called => k_is)
    (case nD_when => k_is)
    (case nD_changes => k_is)
    (case aZ => k_is)
    (case pgZ => k_is)
    (case hdZ => k_is)
    (case poZ => k_is)
    (case saZ => k_is)
    (case mkZ => k_is)
    (case kcZ => k_is)
    (case nZ_places => k_is)
    (case nZ_keeps => k_is)
    (case nZ_deeds => k_is)
    (case aNI => k_is)
    (case iNI => k_is)
    (case lNI => k_is)
    (case cNI => k_is)
    (case kNI => k_is)
    (case aMI => k_is)
    (case iMI => k_is)
    (case lMI => k_is)
    (case cMI => k_is)
    (case kMI => k_is)
    (case aTI => k_is)
    (case aTII => k_is)
    (case aTIX => k_is)
    (case iTI => k_is)
    (case lTI => k_is)
    (case cTI => k_is)
    (case kTI => k_is)
    (case aPI => k_is)
    (case aPIW => k_is)
    (case aPIE => k_is)
    (case aPIV => k_is)
    (case aPIB => k_is)
    (case aPIO => k_is)
    (case iPI => k_is)
    (case lPI => k_is)
    (case cPI => k_is)
    (case kPI => k_is)
    (case aOI => k_is)
    (case iOI => k_is)
    (case lOI => k_is)
    (case cOI => k_is)
    (case kOI => k_is)
    (case aCI => k_is)
    (case iCI => k_is)
    (case lCI => k_is)
    (case cCI => k_is)
    (case kCI => k_is)
    (case aUI => k_is)
    (case iUI => k_is)
    (case lUI => k_is)
    (case cUI => k_is)
    (case kUI => k_is)
    (case aAI => k_is)
    (case iAI => k_is)
    (case lAI => k_is)
    (case cAI => k_is)
    (case kAI => k_is)
    (case aDI => k_is)
    (case iDI => k_is)
    (case lDI => k_is)
    (case cDI => k_is)
    (case kDI => k_is)
    (case aZI => k_is)
    (case iZI => k_is)
    (case lZI => k_is)
    (case cZI => k_is)
    (case kZI => k_is)
    (case aNW => k_is)
    (case iNW => k_is)
    (case lNW => k_is)
    (case cNW => k_is)
    (case kNW => k_is)
    (case aMW => k_is)
    (case iMW => k_is)
    (case lMW => k_is)
    (case cMW => k_is)
    (case kMW => k_is)
    (case aPW => k_is)
    (case iPW => k_is)
    (case lPW => k_is)
    (case cPW => k_is)
    (case kPW => k_is)
    (case aIW => k_is)
    (case iIW => k_is)
    (case lIW => k_is)
    (case cIW => k_is)
    (case kIW => k_is)
    (case aXW => k_is)
    (case iXW => k_is)
    (case lXW => k_is)
    (case cXW => k_is)
    (case kXW => k_is)
    (case aCC => k_is)
    (case iCC => k_is)
    (case lCC => k_is)
    (case cCC => k_is)
    (case kCC => k_is)
    (case aUC => k_is)
    (case iUC => k_is)
    (case lUC => k_is)
    (case cUC => k_is)
    (case kUC => k_is)
    (case aAC => k_is)
    (case iAC => k_is)
    (case lAC => k_is)
    (case cAC => k_is)
    (case kAC => k_is)
    (case aYH => k_is)
    (case iYH => k_is)
    (case lYH => k_is)
    (case cYH => k_is)
    (case kYH => k_is)
    (case aLH => k_is)
    (case iLH => k_is)
    (case lLH => k_is)
    (case cLH => k_is)
    (case kLH => k_is)
    (case aAH => k_is)
    (case iAH => k_is)
    (case lAH => k_is)
    (case cAH => k_is)
    (case kAH => k_is)
    (case aEH => k_is)
    (case iEH => k_is)
    (case lEH => k_is)
    (case cEH => k_is)
    (case kEH => k_is)
    (case aUH => k_is)
    (case iUH => k_is)
    (case lUH => k_is)
    (case cUH => k_is)
    (case kUH => k_is)
    (case aBH => k_is)
    (case iBH => k_is)
    (case lBH => k_is)
    (case cBH => k_is)
    (case kBH => k_is)
    (case aOH => k_is)
    (case iOH => k_is)
    (case lOH => k_is)
    (case cOH => k_is)
    (case kOH => k_is)
    (case aTH => k_is)
    (case iTH => k_is)
    (case lTH => k_is)
    (case cTH => k_is)
    (case kTH => k_is)
    (case aZV => k_is)
    (case iZV => k_is)
    (case lZV => k_is)
    (case cZV => k_is)
    (case kZV => k_is)
    (case aZD => k_is)
    (case iZD => k_is)
    (case lZD => k_is)
    (case cZD => k_is)
    (case kZD => k_is)
    (case aZF => k_is)
    (case iZF => k_is)
    (case lZF => k_is)
    (case cZF => k_is)
    (case kZF => k_is)
    (case aZS => k_is)
    (case iZS => k_is)
    (case lZS => k_is)
    (case cZS => k_is)
    (case kZS => k_is)
    (case aAt => k_is)
    (case lAt => k_is)
    (case cAt => k_is)
    (case kAt => k_is)
    (case aBe => k_is)
    (case lBe => k_is)
    (case cBe => k_is)
    (case kBe => k_is)
    (case aDr => k_is)
    (case lDr => k_is)
    (case cDr => k_is)
    (case kDr => k_is)
    (case aNa => k_is)
    (case lNa => k_is)
    (case cNa => k_is)
    (case kNa => k_is)
    (case aSu => k_is)
    (case lSu => k_is)
    (case cSu => k_is)
    (case kSu => k_is)
    (case aWo => k_is)
    (case lWo => k_is)
    (case cWo => k_is)
    (case kWo => k_is)
    (case aHa => k_is)
    (case lHa => k_is)
    (case cHa => k_is)
    (case kHa => k_is)
    (case aWh => k_is)
    (case lWh => k_is)
    (case cWh => k_is)
    (case kWh => k_is)
    (case aSg => k_is)
    (case lSg => k_is)
    (case cSg => k_is)
    (case kSg => k_is)
    (case aHo => k_is)
    (case lHo => k_is)
    (case cHo => k_is)
    (case kHo => k_is)
    (case aTo => k_is)
    (case lTo => k_is)
    (case cTo => k_is)
    (case kTo => k_is)
    (case aPl => k_is)
    (case lPl => k_is)
    (case cPl => k_is)
    (case kPl => k_is)
    (case aCg => k_is)
    (case lCg => k_is)
    (case cCg => k_is)
    (case kCg => k_is)
    (case aDe => k_is)
    (case lDe => k_is)
    (case cDe => k_is)
    (case kDe => k_is)
    (case aMa => k_is)
    (case lMa => k_is)
    (case cMa => k_is)
    (case kMa => k_is)
    (case aCo => k_is)
    (case lCo => k_is)
    (case cCo => k_is)
    (case kCo => k_is)
    (case aDo => k_is)
    (case lDo => k_is)
    (case cDo => k_is)
    (case kDo => k_is)
    (case aOp => k_is)
    (case lOp => k_is)
    (case cOp => k_is)
    (case kOp => k_is)
    (case aLb => k_is)
    (case lLb => k_is)
    (case cLb => k_is)
    (case kLb => k_is)
    (case aRm => k_is)
    (case lRm => k_is)
    (case cRm => k_is)
    (case kRm => k_is)
    (case aXo => k_is)
    (case lXo => k_is)
    (case cXo => k_is)
    (case kXo => k_is)
    (case aXr => k_is)
    (case lXr => k_is)
    (case cXr => k_is)
    (case kXr => k_is)
    (case aLv => k_is)
    (case lLv => k_is)
    (case cLv => k_is)
    (case kLv => k_is)
    (case aL => k_is)
    (case lL => k_is)
    (case cL => k_is)
    (case kL => k_is)
    (case z_len => k_is)
    (case z_range => k_is)
    (case z_isinstance => k_is)
    (case z_int => k_is)
    (case z_bool => k_is)
    (case z_list => k_is)
    (case z_tuple => k_is)
    (case z_dict => k_is)
    (case z_max => k_is)
    (case z_min => k_is)
    (case z_zip => k_is)
    (case z_all => k_is)
    (case cmg => k_is)
    (case cmr => k_is)
    (case cmf => k_is)
