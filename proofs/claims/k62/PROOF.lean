import PyProof.Rows.All
import Wide.All
import OpenK.AllK
import Wide.FinOn
import Lean
import PyProof.EqAt
import PyProof.EqKinds
import PyProof.TupleCall
import PyProof.NeKinds
import KE.IntBitsLaws
import PyProof.ZipIter
import PyProof.StrCalls2
import PyProof.Rows.Range3
import PyProof.ListRange
import PyProof.LongRange
import KE.LcSums
import PyProof.DictItems
import PyProof.Rows.FStr
import PySem.Challenge.RW_nearerwork_k62_own_ties
set_option Elab.async false
set_option linter.all false
set_option maxRecDepth 100000
/-! THE HAND LAYER, for ints, bools, texts, own classes, LISTS and tuples (index, slices, in, append, pop ..), calls, loops. Paste it whole ahead of your own text; what your proof does not reach may be deleted. -/
namespace L2
open PySem PySem.Spec PyProof.Rows

/-- a key: an int or a str -/
abbrev Key := Sum Int Str
def keyIs : Key → Value → Bool
  | .inl k, v => Value.isInt k v
  | .inr x, v => Value.isStrOf x v
def keyH (w : World) : Key → Int
  | .inl k => hashInt k
  | .inr x => hashStr w x
theorem keyIs_shape : ∀ {k : Key} {v : Value}, keyIs k v = true → (∃ i t, k = Sum.inl i ∧ v = Value.int i t) ∨ (∃ x t, k = Sum.inr x ∧ v = Value.str x t)
  | .inl i, v, h => by
    obtain ⟨t, e⟩ := Value.isInt_shape (k := i) (v := v) h
    exact .inl ⟨i, t, rfl, e⟩
  | .inr x, v, h => by
    obtain ⟨t, e⟩ := Value.isStrOf_shape (x := x) (v := v) h
    exact .inr ⟨x, t, rfl, e⟩
theorem keyIs_int (i : Int) (t : Tok) : keyIs (.inl i) (.int i t) = true := by simp [keyIs, Value.isInt]
theorem keyIs_str (x : Str) (t : Tok) : keyIs (.inr x) (.str x t) = true := by simp [keyIs, Value.isStrOf]
theorem key_ll (a b : Int) : decide ((Sum.inl a : Key) = Sum.inl b) = (a == b) := by
  by_cases e : a = b
  · subst e; simp
  · have h : ¬ (Sum.inl a : Key) = Sum.inl b := fun q => e (Sum.inl.inj q)
    rw [decide_eq_false h]
    exact (beq_eq_false_iff_ne.mpr e).symm
theorem key_rr (a b : Str) : decide ((Sum.inr a : Key) = Sum.inr b) = decide (a = b) := by
  by_cases e : a = b
  · subst e; simp
  · have h : ¬ (Sum.inr a : Key) = Sum.inr b := fun q => e (Sum.inr.inj q)
    rw [decide_eq_false h, decide_eq_false e]
theorem key_lr (a : Int) (b : Str) : decide ((Sum.inl a : Key) = Sum.inr b) = false := decide_eq_false (fun q => nomatch q)
theorem key_rl (a : Str) (b : Int) : decide ((Sum.inr a : Key) = Sum.inl b) = false := decide_eq_false (fun q => nomatch q)

def mixKind (prog : Program) (w : World) : PySem.KeyKind prog w Key where
  is := keyIs
  hash := keyH w
  inj := fun v a b ha hb => by
    rcases keyIs_shape ha with ⟨i, t, rfl, rfl⟩ | ⟨x, t, rfl, rfl⟩
    · rcases keyIs_shape hb with ⟨j, u, rfl, e⟩ | ⟨y, u, rfl, e⟩
      · injection e with e1 _; rw [e1]
      · exact nomatch e
    · rcases keyIs_shape hb with ⟨j, u, rfl, e⟩ | ⟨y, u, rfl, e⟩
      · exact nomatch e
      · injection e with e1 _; rw [e1]
  byValue := fun k v h => by
    rcases keyIs_shape h with ⟨i, t, rfl, rfl⟩ | ⟨x, t, rfl, rfl⟩ <;> rfl
  pyHash := fun hv h => by
    rcases keyIs_shape hv with ⟨i, t, rfl, rfl⟩ | ⟨x, t, rfl, rfl⟩
    · exact wpAny_pyHash_int h
    · exact wpAny_pyHash_str h
  eqBool := fun hu hv h => by
    rcases keyIs_shape hu with ⟨i, t, rfl, rfl⟩ | ⟨x, t, rfl, rfl⟩
    · rcases keyIs_shape hv with ⟨j, u, rfl, rfl⟩ | ⟨y, u, rfl, rfl⟩
      · rw [key_ll] at h; exact wpAny_eqBool_int h
      · rw [key_lr] at h; exact SeqAt.EqAt.int_str i t y u _ _ _ _ h
    · rcases keyIs_shape hv with ⟨j, u, rfl, rfl⟩ | ⟨y, u, rfl, rfl⟩
      · rw [key_rl] at h; exact SeqAt.EqAt.str_int x t j u _ _ _ _ h
      · rw [key_rr] at h; exact wpAny_eqBool_str h
  «strs» := fun k x t v h => by
    rcases keyIs_shape h with ⟨i, u, rfl, e⟩ | ⟨y, u, rfl, e⟩
    · exact nomatch e
    · injection e with e1 _
      subst e1
      cases v <;> rfl

theorem mixKind_int (prog : Program) (w : World) (i : Int) (t : Tok) : (mixKind prog w).is (.inl i) (.int i t) = true := keyIs_int i t
theorem mixKind_str (prog : Program) (w : World) (x : Str) (t : Tok) : (mixKind prog w).is (.inr x) (.str x t) = true := keyIs_str x t
end L2

namespace L2
open PySem PySem.Spec PyProof.Rows

/-- a value, without the heap -/
inductive V where
  | non | bl (b : Bool) | int (i : Int) | str (x : Str) | byt (b : Array UInt8) | flt (b : UInt64) | ref (a : Addr) | ty (n : String)
  deriving DecidableEq

def RelV : V → Value → Prop
  | .non, u => u = Value.none
  | .bl b, u => u = Value.bool b
  | .int i, u => ∃ t, u = Value.int i t
  | .str x, u => ∃ t, u = Value.str x t
  | .byt b, u => ∃ t, u = Value.bytes b t
  | .flt b, u => ∃ t, u = Value.float b t
  | .ref a, u => u = Value.ref a
  | .ty n, u => u = Value.type n

abbrev Vals : List V → List Value → Prop := Paired RelV
theorem Vals.length {xs : List V} {us : List Value} (r : Vals xs us) : xs.length = us.length := Paired.length r
theorem Vals.get : ∀ {xs : List V} {us : List Value} {i : Nat} {x : V}, Vals xs us → xs[i]? = some x → ∃ u, us[i]? = some u ∧ RelV x u
  | _, _, _, _, .nil, e => by simp at e
  | _, _, 0, _, .cons r _, e => by simp at e; subst e; exact ⟨_, rfl, r⟩
  | _, _, i + 1, x, .cons _ t, e => by
    obtain ⟨u, h1, h2⟩ := Vals.get (i := i) (x := x) t (by simpa using e)
    exact ⟨u, by simpa using h1, h2⟩
theorem Vals.set {x : V} {u : Value} (r : RelV x u) : ∀ {xs : List V} {us : List Value} (i : Nat), Vals xs us → Vals (xs.set i x) (us.set i u)
  | _, _, _, .nil => .nil
  | _, _, 0, .cons _ t => .cons r t
  | _, _, i + 1, .cons q t => .cons q (Vals.set r i t)
theorem Vals.append : ∀ {xs ys : List V} {us ws : List Value}, Vals xs us → Vals ys ws → Vals (xs ++ ys) (us ++ ws)
  | _, _, _, _, .nil, s => s
  | _, _, _, _, .cons r t, s => .cons r (Vals.append t s)
theorem Vals.take : ∀ {xs : List V} {us : List Value} (n : Nat), Vals xs us → Vals (xs.take n) (us.take n)
  | _, _, 0, _ => .nil
  | _, _, _ + 1, .nil => .nil
  | _, _, n + 1, .cons r t => .cons r (Vals.take n t)
theorem Vals.drop : ∀ {xs : List V} {us : List Value} (n : Nat), Vals xs us → Vals (xs.drop n) (us.drop n)
  | _, _, 0, r => r
  | _, _, _ + 1, .nil => .nil
  | _, _, n + 1, .cons _ t => Vals.drop n t
def RelO : Option V → Option Value → Prop
  | some v, some u => RelV v u
  | none, none => True
  | _, _ => False
def KV {κ : Type} : List (κ × V) → List (κ × Value) → Prop := Paired fun (p : κ × V) (q : κ × Value) => p.1 = q.1 ∧ RelV p.2 q.2

/-- a key of a dict (00_mix): an int or a text -/
def kV : Key → V
  | .inl i => .int i
  | .inr x => .str x

/-- what stands at a tracked address -/
inductive HO where
  /-- a list -/
  | lst (xs : List V)
  /-- a tuple (never changes) -/
  | tup (xs : List V)
  /-- a dict whose keys are ints and texts; one whose keys are tuples of ints and texts (the empty one is both) -/
  | dK (kvs : List (Key × V)) | dT (kvs : List (List Key × V))
  /-- a set of ints: its members, its size -/
  | set (S : Int → Bool) (n : Nat)
  /-- an instance of the class at C, its dict at dx, its attributes -/
  | ins (C dx : Addr) (fs : List (Str × V))
  /-- the dict of the instance at x -/
  | own (x : Addr)
  /-- the dict of an exception -/
  | xd (fs : List (Str × V))
  /-- a bound method, f of x -/
  | met (f x : Addr)
  /-- a range object lo, lo + 1, .. below hi -/
  | rng (lo hi : Int)
  /-- a thing that is known to the object (the script; a dict while a loop walks it): read, never written while it is so -/
  | frz (o : Obj) (u : HO)
  /-- a code object's table -/
  | tbl (ps : Array Value)
  /-- any other thing, by what is true of its one object (a def of one's own: SetO a S n := HO.ext fun h => ..) -/
  | ext (φ : Heap → Prop)

abbrev Hp := Addr → Option HO
def upd (H : Hp) (a : Addr) (o : HO) : Hp := fun b => if b = a then some o else H b
theorem upd_same {H : Hp} {a : Addr} {o : HO} : upd H a o a = some o := by unfold upd; rw [if_pos rfl]
theorem upd_ne {H : Hp} {a b : Addr} {o : HO} (h : b ≠ a) : upd H a o b = H b := by unfold upd; rw [if_neg h]
theorem upd_upd {H : Hp} {a : Addr} {o u : HO} : upd (upd H a o) a u = upd H a u := by
  funext b; unfold upd; split <;> rfl
/-- two objects of different content stand apart -/
theorem ne_of {H : Hp} {a b : Addr} {o u : HO} (h : H a = some o) (h' : H b = some u) (d : o ≠ u) : a ≠ b := by
  intro e; subst e; rw [h] at h'; exact d (Option.some.inj h')
theorem ne_of_none {H : Hp} {a b : Addr} {o : HO} (h : H a = some o) (h' : H b = none) : a ≠ b := by
  intro e; subst e; rw [h] at h'; cases h'

section
variable (P : Program) (w : World)
def ObjOk (H : Hp) (h : Heap) (a : Addr) : HO → Prop
  | .lst xs => xs.length ≤ sizeLine ∧ ∃ (its : List Value) (n : Nat), Vals xs its ∧ h.get? a = some { cls := .type "list", data := .seq its.toArray n }
  | .tup xs => xs.length ≤ sizeLine ∧ ∃ its : List Value, Vals xs its ∧ IsTup h a its.toArray
  | .dK kvs => kvs.length ≤ sizeLine ∧ (a == sysModules) = false ∧ ∃ vs, KV kvs vs ∧ h.DictOf (mixKind P w) a vs
  | .dT kvs => kvs.length ≤ sizeLine ∧ (a == sysModules) = false ∧ ∃ xs : List (List Key × Addr × Value),
      Paired (fun (p : List Key × V) (q : List Key × Addr × Value) => p.1 = q.1 ∧ H q.2.1 = some (.tup (p.1.map kV)) ∧ RelV p.2 q.2.2) kvs xs ∧
      ∃ o es ep, h.get? a = some o ∧ o.ExactDict ∧ o.data = .dict es ep ∧ es.toList = xs.map (entryOfKey (tupleKind (mixKind P w))) ∧ (xs.map (·.1)).Nodup
  | .set S n => h.SetOf (intKind P w) a S n
  | .ins C dx fs => H dx = some (.own a) ∧ fs.length ≤ 1000 ∧ dx ≠ a ∧ h.get? a = some (PySem.W.instObj C dx) ∧
      ∃ mA, h.Ns1 dx mA ∧ (∀ f, RelO (fs.lookup f) (mA f)) ∧ PySem.Within mA (fs.map (·.1))
  | .own _ => ∃ o, h.get? a = some o
  | .xd fs => ∃ mA, h.Ns1 a mA ∧ ∀ f, RelO (fs.lookup f) (mA f)
  | .rng lo hi => ∃ t u v, h.get? a = some { cls := .type "range", data := .fields #[.int lo t, .int hi u, .int 1 v] }
  | .frz o u => h.get? a = some o ∧ ObjOk H h a u
  | .tbl ps => h.get? a = some { cls := .none, data := .fields ps }
  | .met f x => h.get? a = some (PySem.W.methodObj (.ref f) (.ref x))
  | .ext φ => φ h ∧ (∃ o, h.get? a = some o) ∧ ∀ h1 h2 : Heap, φ h1 → (∀ o, h1.get? a = some o → h2.get? a = some o) → φ h2
/-- the abstract heap is held -/
def HOk (H : Hp) (h : Heap) : Prop := ∀ a o, H a = some o → ObjOk P w H h a o
end

section
variable {P : Program} {w : World} {H H' : Hp} {h h' : Heap} {a : Addr} {o : HO}
theorem ObjOk.lt (x : ObjOk P w H h a o) : a < h.objs.size := by
  cases o with
  | lst xs => obtain ⟨_, _, _, _, e⟩ := x; exact Heap.lt_size e
  | tup xs => obtain ⟨_, _, _, p⟩ := x; exact p.lt
  | dK kvs => obtain ⟨_, _, _, _, o, _, _, e, _⟩ := x; exact Heap.lt_size e
  | dT kvs => obtain ⟨_, _, _, _, o, _, _, e, _⟩ := x; exact Heap.lt_size e
  | set S n => obtain ⟨o, _, _, _, e, _⟩ := x; exact Heap.lt_size e
  | ins C dx fs => obtain ⟨_, _, _, e, _⟩ := x; exact Heap.lt_size e
  | own y => obtain ⟨_, e⟩ := x; exact Heap.lt_size e
  | xd fs => obtain ⟨_, ⟨_, _, _, e, _⟩, _⟩ := x; exact Heap.lt_size e
  | rng lo hi => obtain ⟨_, _, _, e⟩ := x; exact Heap.lt_size e
  | frz ob u => obtain ⟨e, _⟩ := x; exact Heap.lt_size e
  | tbl ps => exact Heap.lt_size (show h.get? a = some _ from x)
  | met f y => exact Heap.lt_size (show h.get? a = some _ from x)
  | ext φ => obtain ⟨_, ⟨_, e⟩, _⟩ := x; exact Heap.lt_size e
theorem Paired.mapP {α β : Type} {F G : α → β → Prop} : ∀ {l₁ : List α} {l₂ : List β}, Paired F l₁ l₂ → (∀ a b, F a b → G a b) → Paired G l₁ l₂
  | _, _, .nil, _ => .nil
  | _, _, .cons r t, f => .cons (f _ _ r) (Paired.mapP t f)
/-- what an object's description leans on: its own object, its own dict, the tuples -/
theorem ObjOk.stay (x : ObjOk P w H h a o) (k : ∀ b u, (b = a ∨ H b = some (.own a)) → h.get? b = some u → h'.get? b = some u)
    (ho : ∀ b, H b = some (.own a) → H' b = some (.own a)) (ht : ∀ b xs, H b = some (.tup xs) → H' b = some (.tup xs)) : ObjOk P w H' h' a o := by
  induction o with
  | lst xs => obtain ⟨z, its, n, r, e⟩ := x; exact ⟨z, its, n, r, k _ _ (.inl rfl) e⟩
  | tup xs => obtain ⟨z, its, r, ob, e, c⟩ := x; exact ⟨z, its, r, ob, k _ _ (.inl rfl) e, c⟩
  | dK kvs => obtain ⟨z, y, vs, r, ob, es, ep, e, c⟩ := x; exact ⟨z, y, vs, r, ob, es, ep, k _ _ (.inl rfl) e, c⟩
  | dT kvs =>
    obtain ⟨z, y, xs, r, ob, es, ep, e, c⟩ := x
    exact ⟨z, y, xs, Paired.mapP r fun p q z => ⟨z.1, ht _ _ z.2.1, z.2.2⟩, ob, es, ep, k _ _ (.inl rfl) e, c⟩
  | set S n => obtain ⟨ob, es, ep, t, e, c⟩ := x; exact ⟨ob, es, ep, t, k _ _ (.inl rfl) e, c⟩
  | ins C dx fs =>
    obtain ⟨d, z, ne, e, mA, ⟨od, es, ep, e2, c⟩, r⟩ := x
    exact ⟨ho _ d, z, ne, k _ _ (.inl rfl) e, mA, ⟨od, es, ep, k _ _ (.inr d) e2, c⟩, r⟩
  | own y => obtain ⟨ob, e⟩ := x; exact ⟨ob, k _ _ (.inl rfl) e⟩
  | xd fs => obtain ⟨mA, ⟨od, es, ep, e, c⟩, r⟩ := x; exact ⟨mA, ⟨od, es, ep, k _ _ (.inl rfl) e, c⟩, r⟩
  | rng lo hi => obtain ⟨t, u, v, e⟩ := x; exact ⟨t, u, v, k _ _ (.inl rfl) e⟩
  | frz ob u ih => obtain ⟨e, q⟩ := x; exact ⟨k _ _ (.inl rfl) e, ih q⟩
  | tbl ps =>
    have e : h.get? a = some { cls := .none, data := .fields ps } := x
    show h'.get? a = some { cls := .none, data := .fields ps }
    exact k a _ (.inl rfl) e
  | met f y =>
    have e : h.get? a = some (PySem.W.methodObj (.ref f) (.ref y)) := x
    show h'.get? a = some (PySem.W.methodObj (.ref f) (.ref y))
    exact k a _ (.inl rfl) e
  | ext φ => obtain ⟨p, ⟨o, e⟩, st⟩ := x; exact ⟨st _ _ p fun o q => k _ _ (.inl rfl) q, ⟨o, k _ _ (.inl rfl) e⟩, st⟩
theorem HOk.lt (x : HOk P w H h) (e : H a = some o) : a < h.objs.size := (x a o e).lt
theorem HOk.fresh (x : HOk P w H h) (e : h.objs.size ≤ a) : H a = none := by
  cases q : H a with
  | none => rfl
  | some u => exact absurd (Nat.lt_of_lt_of_le (x.lt q) e) (Nat.lt_irrefl _)
/-- every object of the heap is kept -/
theorem HOk.kept (x : HOk P w H h) (k : ∀ b u, h.get? b = some u → h'.get? b = some u) : HOk P w H h' := fun a o e =>
  (x a o e).stay (fun b u _ q => k b u q) (fun _ q => q) fun _ _ q => q
/-- a new object is laid and tracked -/
theorem HOk.laid (x : HOk P w H h) (k : ∀ b u, h.get? b = some u → h'.get? b = some u) (hp : h.objs.size ≤ a) (new : ObjOk P w (upd H a o) h' a o) : HOk P w (upd H a o) h' := fun b u e => by
  have hn := x.fresh hp
  by_cases hb : b = a
  · subst hb; rw [upd_same] at e; cases e; exact new
  · rw [upd_ne hb] at e
    exact (x b u e).stay (fun c v _ q => k c v q) (fun c q => by rw [upd_ne (ne_of_none q hn)]; exact q) fun c xs q => by rw [upd_ne (ne_of_none q hn)]; exact q
end

/-- what may be read as u: it is u, or a known u -/
def Rd (H : Hp) (a : Addr) (u : HO) : Prop := H a = some u ∨ ∃ o, H a = some (.frz o u)
theorem Rd.ok {P : Program} {w : World} {H : Hp} {h : Heap} {a : Addr} {u : HO} (r : Rd H a u) (x : HOk P w H h) : ObjOk P w H h a u := by
  rcases r with r | ⟨o, r⟩
  · exact x a u r
  · obtain ⟨_, q⟩ := x a _ r
    exact q
/-- what may be written -/
def Mut : Option HO → Prop
  | some (.lst _) => True
  | some (.dK _) => True
  | some (.dT _) => True
  | some (.set _ _) => True
  | some (.ins _ _ _) => True
  | some (.ext _) => True
  | _ => False
section
variable {P : Program} {w : World} {H : Hp} {h h' : Heap} {x e : Addr} {o' : HO}
/-- the object at e is changed: x itself, or the dict of the instance x -/
theorem HOk.write (ok : HOk P w H h) (mu : Mut (H x)) (he : e = x ∨ H e = some (.own x)) (k : ∀ b u, b ≠ e → h.get? b = some u → h'.get? b = some u) (heo : ∃ u, h'.get? e = some u)
    (new : ObjOk P w (upd H x o') h' x o') : HOk P w (upd H x o') h' := fun b u q => by
  have nown : ∀ c y, H c = some (.own y) → c ≠ x := fun c y r z => by subst z; rw [r] at mu; exact mu
  have ntup : ∀ c xs, H c = some (.tup xs) → c ≠ x := fun c xs r z => by subst z; rw [r] at mu; exact mu
  by_cases hb : b = x
  · subst hb; rw [upd_same] at q; cases q; exact new
  · rw [upd_ne hb] at q
    by_cases hbe : b = e
    · have q' : H b = some (.own x) := by
        rcases he with z | z
        · exact absurd (hbe.trans z) hb
        · rw [hbe]; exact z
      rw [q] at q'; cases q'
      obtain ⟨v, hv⟩ := heo
      exact ⟨v, by rw [hbe]; exact hv⟩
    · refine (ok b u q).stay (fun c v hc r => k c v ?_ r) (fun c r => by rw [upd_ne (nown c b r)]; exact r) fun c xs r => by rw [upd_ne (ntup c xs r)]; exact r
      rcases hc with rfl | hc
      · exact hbe
      · rintro rfl
        rcases he with z | z
        · exact nown c b hc z
        · rw [hc] at z; cases z; exact hb rfl
end

/-! ### kept unless tracked; of the frames at fs (the callers') the slots may change (an exception that passes writes there); of the records at ex (iterators) nothing is said -/
structure Un (fs ex : List Addr) (H H' : Hp) (h h' : Heap) : Prop where
  keep : ∀ b o, h.get? b = some o → H b = none → b ∉ fs → b ∉ ex → h'.get? b = some o
  slot : ∀ b o, h.get? b = some o → H b = none → b ∈ fs → b ∉ ex → ∃ sl, h'.get? b = some { o with slots := sl }
  free : ∀ b o, h.get? b = some o → H b = none → b ∉ ex → H' b = none
  there : ∀ b o, h.get? b = some o → b ∉ ex → ∃ o', h'.get? b = some o'
  tups : ∀ b xs, H b = some (.tup xs) → H' b = some (.tup xs)
  frzs : ∀ b o u, H b = some (.frz o u) → H' b = some (.frz o u)
  tbls : ∀ b ps, H b = some (.tbl ps) → ∃ more, H' b = some (.tbl (ps ++ more))
section
variable {fs fs' ex ex' : List Addr} {H H1 H2 : Hp} {h h1 h2 h' : Heap} {a x e : Addr} {o : HO}
theorem Un.any (u : Un fs ex H H1 h h1) {b : Addr} {ob : Obj} (q : h.get? b = some ob) (n : H b = none) (hx : b ∉ ex) : ∃ sl, h1.get? b = some { ob with slots := sl } := by
  by_cases hb : b ∈ fs
  · exact u.slot b ob q n hb hx
  · exact ⟨ob.slots, u.keep b ob q n hb hx⟩
theorem Un.kept (k : ∀ b u, h.get? b = some u → h'.get? b = some u) : Un fs ex H H h h' :=
  ⟨fun b ob q _ _ _ => k b ob q, fun b ob q _ _ _ => ⟨ob.slots, k b ob q⟩, fun _ _ _ n _ => n, fun b ob q _ => ⟨ob, k b ob q⟩, fun _ _ q => q, fun _ _ _ q => q, fun _ ps q => ⟨#[], by rw [q]; simp⟩⟩
theorem Un.refl : Un fs ex H H h h := Un.kept fun _ _ q => q
theorem Un.laid (k : ∀ b u, h.get? b = some u → h'.get? b = some u) (hp : h.objs.size ≤ a) (hn : H a = none) : Un fs ex H (upd H a o) h h' where
  keep := fun b u q _ _ _ => k b u q
  slot := fun b u q _ _ _ => ⟨u.slots, k b u q⟩
  free := fun b u q n _ => by rw [upd_ne (Nat.ne_of_lt (Nat.lt_of_lt_of_le (Heap.lt_size q) hp))]; exact n
  there := fun b u q _ => ⟨u, k b u q⟩
  tups := fun b xs q => by rw [upd_ne (ne_of_none q hn)]; exact q
  frzs := fun b u xs q => by rw [upd_ne (ne_of_none q hn)]; exact q
  tbls := fun b ps q => ⟨#[], by rw [upd_ne (ne_of_none q hn), q]; simp⟩
theorem Un.write (mu : Mut (H x)) (he : e = x ∨ H e = some (.own x)) (k : ∀ b u, b ≠ e → h.get? b = some u → h'.get? b = some u) (heo : ∃ u, h'.get? e = some u) : Un fs ex H (upd H x o) h h' := by
  have hx : ∀ b, H b = none → b ≠ x := fun b n z => by subst z; rw [n] at mu; exact mu
  have hb : ∀ b, H b = none → b ≠ e := fun b n z => by
    subst z
    rcases he with r | r
    · exact hx b n r
    · rw [n] at r; cases r
  have hm : ∀ b u, H b = some u → ¬ Mut (some u) → b ≠ x := fun b u q nm z => by subst z; rw [q] at mu; exact nm mu
  refine ⟨fun b u q n _ _ => k b u (hb b n) q, fun b u q n _ _ => ⟨u.slots, k b u (hb b n) q⟩, fun b u q n _ => by rw [upd_ne (hx b n)]; exact n, fun b u q _ => ?_,
    fun b xs q => by rw [upd_ne (hm b _ q fun z => z)]; exact q, fun b u xs q => by rw [upd_ne (hm b _ q fun z => z)]; exact q, fun b ps q => ⟨#[], by rw [upd_ne (hm b _ q fun z => z), q]; simp⟩⟩
  by_cases hbe : b = e
  · subst hbe; exact heo
  · exact ⟨u, k b u hbe q⟩
end

/-! ### the heap without what is tracked -/
def trk (h : Heap) (H : Hp) : List Addr := (List.range h.objs.size).filter fun a => (H a).isSome
def hidT (h : Heap) (H : Hp) : Heap := PySem.W.hideAll h (trk h H)
theorem hidT_size (h : Heap) (H : Hp) : (hidT h H).objs.size = h.objs.size := PySem.W.hideAll_size _ _
theorem hidT_get {h : Heap} {H : Hp} {b : Addr} {o : Obj} (e : h.get? b = some o) (n : H b = none) : (hidT h H).get? b = some o :=
  PySem.W.hideAll_get _ e fun hm => by
    have q : (H b).isSome = true := (List.mem_filter.mp hm).2
    rw [n] at q; simp at q
theorem of_hidT {h : Heap} {H : Hp} {b : Addr} {o : Obj} (e : (hidT h H).get? b = some o) : h.get? b = some o ∧ H b = none := by
  have e' : h.get? b = some o := PySem.W.of_hideAll (trk h H) e
  refine ⟨e', ?_⟩
  cases q : H b with
  | none => rfl
  | some x =>
    have hm : b ∈ trk h H := List.mem_filter.mpr ⟨List.mem_range.mpr (Heap.lt_size e'), by simp [q]⟩
    have z : (hidT h H).get? b = none := PySem.W.hideAll_none (trk h H) hm
    rw [z] at e; cases e

/-! ### OpenK's ledger, filled with every new object but one -/
end L2

namespace L2
open PySem PySem.Spec PyProof.Rows

/-- the module's facts, over the base: the heap at the law's entry without what is tracked there -/
structure Mod (K : PySem.W.Frag) (mg : Str → Option Value) (base : Heap) : Prop where
  kin : K.In base
  glob : base.Ns mainGlobals mg
  blt : ∃ mb, base.Ns builtinsNs mb ∧ ∀ x : Str, x ≠ "__name__" → mb x = bootBuiltins x
  nolimit : base.NoLimit

/-- the context: a def's body (or a comprehension's block) running. base: fixed through the whole law; s₀, H₀: the entry; outer: the frames whose slots others may change (a def's callers); stack: all frames that run;
   ex: iterators that were made ahead of the entry and are walked here (a comprehension's); fn: the names whose cells were made at the entry (a def: all; a comprehension's block: its own); calm: not within an except suite; pn: pins that every state bears; xe: what is wanted of an exception that leaves the code -/
structure Cx where
  prog : Program
  w : World
  K : PySem.W.Frag
  mg : Str → Option Value
  base : Heap
  A : Around
  N : List Str
  s₀ : Shared
  H₀ : Hp
  env : Env
  outer : List Env
  stack : List Env
  ex : List Addr
  fn : Str → Bool
  calm : Bool
  pn : List (Addr × Obj)
  xe : Value → Shared → Prop
/-- the callers' frames -/
def frs (l : List Env) : List Addr := l.filterMap (·.frame)
abbrev Cx.fs (X : Cx) : List Addr := frs X.outer

def Vis (sc : Scope) (x : Str) : Prop := sc.names.lookup x = some .local ∨ sc.names.lookup x = some .cell ∨ sc.names.lookup x = some .free
def Loc (sc : Scope) (x : Str) : Prop := sc.names.lookup x = some .local ∨ sc.names.lookup x = some .cell
def Look (env : Env) (h : Heap) (m : Str → Option Value) (x : Str) (u : Value) : Prop :=
  (env.kindOf x = some .local ∧ m x = some u) ∨ ((env.kindOf x = some .cell ∨ env.kindOf x = some .free) ∧ ∃ c, env.cells.lookup x = some c ∧ h.IsCell c (some u))

structure Cx.Ok (X : Cx) : Prop where
  mod : Mod X.K X.mg X.base
  kind : X.env.scope.kind = .function
  glob : X.env.globals = mainGlobals
  blt : X.env.builtins = builtinsNs
  above : X.s₀.heap.objs.size ≤ X.env.locals
  inj : ∀ x y c, X.env.cells.lookup x = some c → X.env.cells.lookup y = some c → x = y
  has : ∀ x, (X.env.kindOf x = some .cell ∨ X.env.kindOf x = some .free) → ∃ c, X.env.cells.lookup x = some c
  cab : ∀ x c, X.fn x = true → X.env.cells.lookup x = some c → X.s₀.heap.objs.size ≤ c
  hd : X.calm = true → X.A.handled = none
  frames : X.A.frames = some X.stack
  stk : X.stack = X.outer ∨ (X.stack = X.env :: X.outer ∧ X.env.frame = some X.env.locals)
  exf : ∀ b ∈ X.ex, b ≠ X.env.locals ∧ ∀ x c, X.env.cells.lookup x = some c → c ≠ b
  bs : ∀ b o, X.base.get? b = some o → X.s₀.heap.get? b = some o ∧ X.H₀ b = none
  bsz : X.base.objs.size ≤ X.s₀.heap.objs.size
  noex : ∀ b o, X.base.get? b = some o → b ∉ X.ex
  exfs : ∀ b ∈ X.ex, b ∉ X.fs
  funs : X.s₀.heap.FunFrames X.base X.outer
  frf : ∀ b ∈ X.fs, X.H₀ b = none

structure Inv (X : Cx) (pins : List (Addr × Obj)) (σ : List (Option V)) (H : Hp) (s : Shared) : Prop where
  ok : X.Ok
  os : s.os = X.s₀.os
  bare : AllBare s.gens
  base : Un X.fs X.ex X.H₀ H X.s₀.heap s.heap
  loc : ∃ m, s.heap.Ns X.env.locals m ∧ ∀ (i : Nat) (x : Str) (v : V), X.N[i]? = some x → σ[i]? = some (some v) → Vis X.env.scope x → ∃ u, RelV v u ∧ Look X.env s.heap m x u
  cell : ∀ x c, X.env.cells.lookup x = some c → ∃ v, s.heap.IsCell c v
  free : H X.env.locals = none
  freeC : ∀ x c, X.env.cells.lookup x = some c → H c = none
  pin : ∀ p ∈ X.pn ++ pins, s.heap.get? p.1 = some p.2 ∧ H p.1 = none ∧ p.1 ≠ X.env.locals ∧ p.1 ∉ X.fs ∧ ∀ v, p.2.data ≠ .cell v
  hok : HOk X.prog X.w H s.heap
  len : σ.length = X.N.length

section
variable {X : Cx} {pins : List (Addr × Obj)} {σ : List (Option V)} {H H' : Hp} {s : Shared} {h' : Heap}

theorem Cx.Ok.nofr (ok : X.Ok) {b : Addr} {o : Obj} (e : X.base.get? b = some o) : b ∉ X.fs := fun hb => by
  have := (ok.funs.mem hb).1
  rw [e] at this; cases this
theorem Inv.bs (I : Inv X pins σ H s) : ∀ b o, X.base.get? b = some o → s.heap.get? b = some o ∧ H b = none := fun b o e =>
  ⟨I.base.keep b o (I.ok.bs b o e).1 (I.ok.bs b o e).2 (I.ok.nofr e) (I.ok.noex b o e), I.base.free b o (I.ok.bs b o e).1 (I.ok.bs b o e).2 (I.ok.noex b o e)⟩
theorem Inv.bk (I : Inv X pins σ H s) : ∀ b o, X.base.get? b = some o → s.heap.get? b = some o := fun b o e => (I.bs b o e).1
theorem Inv.mod (I : Inv X pins σ H s) : Mod X.K X.mg X.base := I.ok.mod
theorem Inv.kIn (I : Inv X pins σ H s) : X.K.In s.heap := I.ok.mod.kin.keeps I.bk
/-- the frame over the base: for OpenK's rules (K.In X.base is I.mod.kin) -/
theorem Inv.fr (I : Inv X pins σ H s) : ∃ m, Fr X.base X.env.locals s.heap m :=
  let ⟨m, hn, _⟩ := I.loc
  ⟨m, hn, I.bk, Nat.le_trans I.ok.bsz I.ok.above⟩
theorem Inv.lt (I : Inv X pins σ H s) : X.env.locals < s.heap.objs.size := let ⟨_, hn, _⟩ := I.loc; hn.lt
theorem Inv.sz (I : Inv X pins σ H s) : X.s₀.heap.objs.size ≤ s.heap.objs.size := Nat.le_trans I.ok.above (Nat.le_of_lt I.lt)
theorem Inv.nofs (I : Inv X pins σ H s) {a : Addr} (h : s.heap.objs.size ≤ a) : a ∉ X.fs := fun hb => by
  obtain ⟨_, o, ho, _⟩ := I.ok.funs.mem hb
  exact absurd (Nat.lt_of_lt_of_le (Heap.lt_size ho) (Nat.le_trans I.sz h)) (Nat.lt_irrefl _)
theorem Inv.cne (I : Inv X pins σ H s) : ∀ x c, X.env.cells.lookup x = some c → c ≠ X.env.locals := fun x c e z => by
  obtain ⟨v, o, ho, hd⟩ := I.cell x c e
  obtain ⟨m, ⟨o', es, ep, ho', hd', _⟩, _⟩ := I.loc
  rw [z, ho'] at ho; cases ho; rw [hd'] at hd; cases hd
theorem Inv.funs (I : Inv X pins σ H s) : s.heap.FunFrames X.base X.outer := by
  have all : ∀ (l : List Env), (∀ b ∈ frs l, b ∈ X.fs) → X.s₀.heap.FunFrames X.base l → s.heap.FunFrames X.base l := by
    intro l
    induction l with
    | nil => intro _ _; trivial
    | cons env r ih =>
      intro hs hl
      obtain ⟨hk, ⟨L, o, hf, hn, ho, hd⟩, hr⟩ := hl
      have hL : L ∈ X.fs := hs L (by unfold frs; rw [List.filterMap_cons, hf]; exact List.mem_cons_self)
      obtain ⟨sl, e⟩ := I.base.slot L o ho (I.ok.frf L hL) hL fun z => I.ok.exfs L z hL
      exact ⟨hk, ⟨L, _, hf, hn, e, hd⟩, ih (fun b hb => hs b (by unfold frs; rw [List.filterMap_cons, hf]; exact List.mem_cons_of_mem _ hb)) hr⟩
  exact all X.outer (fun _ hb => hb) I.ok.funs

/-- the frames that run, for a call -/
theorem Inv.stack (I : Inv X pins σ H s) : s.heap.FunFrames X.base X.stack := by
  rcases I.ok.stk with e | ⟨e, hf⟩
  · rw [e]; exact I.funs
  · rw [e]
    obtain ⟨m, hn, _⟩ := I.loc
    refine .cons (by rw [I.ok.kind]; decide) hf hn ?_ I.funs
    exact Heap.get?_none_of_le (Nat.le_trans I.ok.bsz I.ok.above)
theorem Inv.stkSub (I : Inv X pins σ H s) : ∀ b ∈ frs X.stack, b ∈ X.env.locals :: X.fs := fun b hb => by
  rcases I.ok.stk with e | ⟨e, hf⟩
  · rw [e] at hb; exact List.mem_cons_of_mem _ hb
  · rw [e] at hb
    unfold frs at hb
    rw [List.filterMap_cons, hf] at hb
    exact hb
theorem Inv.stkFree (I : Inv X pins σ H s) : ∀ b ∈ frs X.stack, H b = none := fun b hb => by
  rcases List.mem_cons.mp (I.stkSub b hb) with e | hb
  · rw [e]; exact I.free
  · obtain ⟨_, o, ho, _⟩ := I.ok.funs.mem hb
    exact I.base.free b o ho (I.ok.frf b hb) fun z => I.ok.exfs b z hb

/-- THE STEP: the untracked objects but the frame and the records at ch are kept (the callers' frames up to slots), the frame's map is kept, the new abstract heap is held -/
theorem Inv.step {g' : Array GenState} {t' : Nat} {d' : Drawn} {ch : List Addr} (I : Inv X pins σ H s)
    (hch : ∀ b ∈ ch, (b ∈ X.ex ∨ X.s₀.heap.objs.size ≤ b) ∧ b ≠ X.env.locals ∧ (∀ x c, X.env.cells.lookup x = some c → c ≠ b) ∧ ∀ p ∈ X.pn ++ pins, p.1 ≠ b)
    (keep : ∀ b o, b ≠ X.env.locals → b ∉ X.fs → b ∉ ch → s.heap.get? b = some o → H b = none → h'.get? b = some o)
    (slot : ∀ b o, b ≠ X.env.locals → b ∈ X.fs → b ∉ ch → s.heap.get? b = some o → H b = none → ∃ sl, h'.get? b = some { o with slots := sl }) (free : ∀ b o, b ∉ ch → s.heap.get? b = some o → H b = none → H' b = none)
    (there : ∀ b o, b ∉ ch → s.heap.get? b = some o → ∃ o', h'.get? b = some o')
    (tups : ∀ b xs, H b = some (.tup xs) → H' b = some (.tup xs)) (frzs : ∀ b o u, H b = some (.frz o u) → H' b = some (.frz o u)) (tbls : ∀ b ps, H b = some (.tbl ps) → ∃ more, H' b = some (.tbl (ps ++ more)))
    (ns : ∀ m, s.heap.Ns X.env.locals m → h'.Ns X.env.locals m) (hok : HOk X.prog X.w H' h') (hg : AllBare g') :
    Inv X pins σ H' { s with heap := h', gens := g', drawn := d', toks := t' } := by
  have neL : ∀ b o, X.s₀.heap.get? b = some o → b ≠ X.env.locals := fun b o e => Nat.ne_of_lt (Nat.lt_of_lt_of_le (Heap.lt_size e) I.ok.above)
  have neC : ∀ b o, X.s₀.heap.get? b = some o → b ∉ X.ex → b ∉ ch := fun b o e hx hb => by
    rcases (hch b hb).1 with z | z
    · exact hx z
    · exact absurd (Nat.lt_of_lt_of_le (Heap.lt_size e) z) (Nat.lt_irrefl _)
  have cellK : ∀ x c, X.env.cells.lookup x = some c → ∀ v, s.heap.IsCell c v → h'.IsCell c v := fun x c e v ⟨o, ho, hd⟩ => by
    have nch : c ∉ ch := fun z => (hch c z).2.2.1 x c e rfl
    by_cases hc : c ∈ X.fs
    · obtain ⟨sl, q⟩ := slot c o (I.cne x c e) hc nch ho (I.freeC x c e)
      exact ⟨_, q, hd⟩
    · exact ⟨o, keep c o (I.cne x c e) hc nch ho (I.freeC x c e), hd⟩
  refine ⟨I.ok, I.os, hg, ⟨fun b o e n hb hx => ?_, fun b o e n hb hx => ?_, fun b o e n hx => ?_, fun b o e hx => ?_, fun b xs e => tups b xs (I.base.tups b xs e), fun b o xs e => frzs b o xs (I.base.frzs b o xs e), fun b ps e => ?_⟩, ?_, fun x c e => ?_, ?_, fun x c e => ?_, fun p hp => ?_, hok, I.len⟩
  · exact keep b o (neL b o e) hb (neC b o e hx) (I.base.keep b o e n hb hx) (I.base.free b o e n hx)
  · obtain ⟨sl, e1⟩ := I.base.slot b o e n hb hx
    obtain ⟨sl', e2⟩ := slot b _ (neL b o e) hb (neC b o e hx) e1 (I.base.free b o e n hx)
    exact ⟨sl', e2⟩
  · obtain ⟨o', e1⟩ := I.base.there b o e hx
    exact free b o' (neC b o e hx) e1 (I.base.free b o e n hx)
  · obtain ⟨o', e1⟩ := I.base.there b o e hx
    exact there b o' (neC b o e hx) e1
  · obtain ⟨m1, e1⟩ := I.base.tbls b ps e
    obtain ⟨m2, e2⟩ := tbls b _ e1
    exact ⟨m1 ++ m2, by rw [e2, Array.append_assoc]⟩
  · obtain ⟨m, hn, hl⟩ := I.loc
    refine ⟨m, ns m hn, fun i x v e1 e2 e3 => ?_⟩
    obtain ⟨u, r, l⟩ := hl i x v e1 e2 e3
    refine ⟨u, r, ?_⟩
    rcases l with l | ⟨k, c, e, z⟩
    · exact .inl l
    · exact .inr ⟨k, c, e, cellK x c e _ z⟩
  · obtain ⟨v, z⟩ := I.cell x c e
    exact ⟨v, cellK x c e v z⟩
  · obtain ⟨m, ⟨o, _, _, ho, _⟩, _⟩ := I.loc
    exact free _ o (fun z => (hch _ z).2.1 rfl) ho I.free
  · obtain ⟨v, o, ho, hd⟩ := I.cell x c e
    exact free c o (fun z => (hch c z).2.2.1 x c e rfl) ho (I.freeC x c e)
  · obtain ⟨e, n, ne, nf, d⟩ := I.pin p hp
    have nch : p.1 ∉ ch := fun z => (hch p.1 z).2.2.2 p hp rfl
    exact ⟨keep p.1 p.2 ne nf nch e n, free p.1 p.2 nch e n, ne, nf, d⟩
/-- .. where the frame's own object is kept too -/
theorem Inv.un {t' : Nat} (I : Inv X pins σ H s) (u : Un X.fs [] H H' s.heap h') (hok : HOk X.prog X.w H' h') : Inv X pins σ H' { s with heap := h', toks := t' } := by
  obtain ⟨m, ⟨o, es, ep, ho, r⟩, _⟩ := id I.loc
  obtain ⟨sl, hL⟩ := u.any ho I.free (by simp)
  exact I.step (g' := s.gens) (d' := s.drawn) (ch := []) (fun _ z => nomatch z) (fun b o _ hb _ e n => u.keep b o e n hb (by simp)) (fun b o _ hb _ e n => u.slot b o e n hb (by simp)) (fun b o _ e n => u.free b o e n (by simp)) (fun b o _ e => u.there b o e (by simp)) u.tups u.frzs u.tbls (fun m' hm => by
    obtain ⟨o', es', ep', ho', r'⟩ := hm
    rw [ho] at ho'; cases ho'
    exact ⟨_, es', ep', hL, r'⟩) hok I.bare
/-- behind a call (or a comprehension's block): the slots of this frame may have changed too, the records at ch may have turned -/
theorem Inv.call {g' : Array GenState} {t' : Nat} {d' : Drawn} {ch : List Addr} (I : Inv X pins σ H s) (u : Un (frs X.stack) ch H H' s.heap h') (hok : HOk X.prog X.w H' h') (hg : AllBare g')
    (hch : ∀ b ∈ ch, (b ∈ X.ex ∨ X.s₀.heap.objs.size ≤ b) ∧ b ≠ X.env.locals ∧ (∀ x c, X.env.cells.lookup x = some c → c ≠ b) ∧ ∀ p ∈ X.pn ++ pins, p.1 ≠ b) :
    Inv X pins σ H' { s with heap := h', gens := g', drawn := d', toks := t' } := by
  obtain ⟨m, ⟨o, es, ep, ho, r⟩, _⟩ := id I.loc
  obtain ⟨sl, hL⟩ := u.any ho I.free fun z => (hch _ z).2.1 rfl
  exact I.step (ch := ch) hch (fun b o hL hb hc e n => u.keep b o e n (fun z => (List.mem_cons.mp (I.stkSub b z)).elim hL hb) hc) (fun b o _ _ hc e n => u.any e n hc) (fun b o hc e n => u.free b o e n hc) (fun b o hc e => u.there b o e hc) u.tups u.frzs u.tbls (fun m' hm => by
    obtain ⟨o', es', ep', ho', r'⟩ := hm
    rw [ho] at ho'; cases ho'
    exact ⟨_, es', ep', hL, r'⟩) hok hg
/-- an untracked record of ours (an iterator) has turned -/
theorem Inv.turned {t' : Nat} {it : Addr} (I : Inv X pins σ H s) (k : ∀ b o, b ≠ it → s.heap.get? b = some o → h'.get? b = some o) (hn : H it = none) (hL : it ≠ X.env.locals)
    (h1 : it ∈ X.ex ∨ X.s₀.heap.objs.size ≤ it) (h2 : ∀ x c, X.env.cells.lookup x = some c → c ≠ it) (h3 : ∀ p ∈ X.pn ++ pins, p.1 ≠ it) : Inv X pins σ H { s with heap := h', toks := t' } := by
  have nit : ∀ b u, H b = some u → b ≠ it := fun b u e z => by rw [z, hn] at e; cases e
  refine I.step (g' := s.gens) (d' := s.drawn) (ch := [it]) (fun b hb => ?_) (fun b o _ _ hc e _ => k b o (fun z => hc (by simp [z])) e) (fun b o _ _ hc e _ => ⟨o.slots, k b o (fun z => hc (by simp [z])) e⟩) (fun _ _ _ _ n => n)
    (fun b o hc e => ⟨o, k b o (fun z => hc (by simp [z])) e⟩) (fun _ _ e => e) (fun _ _ _ e => e) (fun b ps e => ⟨#[], by rw [e]; simp⟩) (fun m hm => ?_) (fun b u e => ?_) I.bare
  · have e : b = it := by simpa using hb
    subst e
    exact ⟨h1, hL, h2, h3⟩
  · obtain ⟨o, es, ep, ho, r⟩ := hm
    exact ⟨o, es, ep, k _ o (Ne.symm hL) ho, r⟩
  · refine (I.hok b u e).stay (fun c v hc q => k c v ?_ q) (fun _ q => q) fun _ _ q => q
    rcases hc with z | z
    · rw [z]; exact nit b u e
    · exact nit c _ z
theorem Inv.tok (I : Inv X pins σ H s) (t : Nat) : Inv X pins σ H { s with toks := t } := I.un (h' := s.heap) (t' := t) Un.refl I.hok
/-- all objects kept -/
theorem Inv.kept {t' : Nat} (I : Inv X pins σ H s) (k : ∀ b u, s.heap.get? b = some u → h'.get? b = some u) : Inv X pins σ H { s with heap := h', toks := t' } := I.un (Un.kept k) (I.hok.kept k)
/-- a new object laid and tracked -/
theorem Inv.laid {a : Addr} {o : HO} {t' : Nat} (I : Inv X pins σ H s) (k : ∀ b u, s.heap.get? b = some u → h'.get? b = some u) (hp : s.heap.objs.size ≤ a) (new : ObjOk X.prog X.w (upd H a o) h' a o) :
    Inv X pins σ (upd H a o) { s with heap := h', toks := t' } := I.un (Un.laid k hp (I.hok.fresh hp)) (I.hok.laid k hp new)
/-- an object written -/
theorem Inv.write {x e : Addr} {o : HO} {t' : Nat} (I : Inv X pins σ H s) (mu : Mut (H x)) (he : e = x ∨ H e = some (.own x)) (k : ∀ b u, b ≠ e → s.heap.get? b = some u → h'.get? b = some u) (heo : ∃ u, h'.get? e = some u)
    (new : ObjOk X.prog X.w (upd H x o) h' x o) : Inv X pins σ (upd H x o) { s with heap := h', toks := t' } := I.un (Un.write mu he k heo) (I.hok.write mu he k heo new)
/-- forgetting slots, pins -/
theorem Inv.weak {σ' : List (Option V)} (I : Inv X pins σ H s) (hl : σ'.length = σ.length) (w : ∀ (i : Nat) v, σ'[i]? = some (some v) → σ[i]? = some (some v)) : Inv X pins σ' H s :=
  ⟨I.ok, I.os, I.bare, I.base, let ⟨m, hn, hl'⟩ := I.loc; ⟨m, hn, fun i x v e1 e2 e3 => hl' i x v e1 (w i v e2) e3⟩, I.cell, I.free, I.freeC, I.pin, I.hok, hl.trans I.len⟩
theorem Inv.pins_of {pins' : List (Addr × Obj)} (I : Inv X pins σ H s) (h : ∀ p ∈ pins', s.heap.get? p.1 = some p.2 ∧ H p.1 = none ∧ p.1 ≠ X.env.locals ∧ p.1 ∉ X.fs ∧ ∀ v, p.2.data ≠ .cell v) : Inv X pins' σ H s :=
  ⟨I.ok, I.os, I.bare, I.base, I.loc, I.cell, I.free, I.freeC, fun p hp => (List.mem_append.mp hp).elim (fun z => I.pin p (List.mem_append_left _ z)) (h p), I.hok, I.len⟩

theorem nodup_ix {N : List Str} (hN : N.Nodup) {i j : Nat} {x : Str} (a : N[i]? = some x) (b : N[j]? = some x) : i = j := by
  obtain ⟨h1, e1⟩ := List.getElem?_eq_some_iff.mp a
  obtain ⟨h2, e2⟩ := List.getElem?_eq_some_iff.mp b
  exact (List.getElem_inj hN).mp (e1.trans e2.symm)

/-- a name is stored; what changed -/
theorem store_ok2 {M : Model} {A : Around} {E : Value → Shared → Prop} {i : Nat} {x : Str} {v : V} {u : Value} {Q : Unit → Shared → Prop} (I : Inv X pins σ H s) (hN : X.N.Nodup) (hi : X.N[i]? = some x) (hx : Loc X.env.scope x) (r : RelV v u)
    (h : ∀ s', Inv X pins (σ.set i (some v)) H s' → (∃ a, Heap.SameBut a s.heap s'.heap ∧ (a = X.env.locals ∨ X.env.cells.lookup x = some a)) → Q () s') (hf : X.fn x = true ∨ X.env.scope.names.lookup x = some .local := by first | exact .inl rfl | exact .inr rfl | assumption) : wpAny M A (storeName X.env x u) Q E s := by
  obtain ⟨m, hn, hl⟩ := id I.loc
  have hcls : (X.env.scope.kind == .class || (X.env.scope.kind == .module && X.env.locals != X.env.globals)) = false := by rw [I.ok.kind]; rfl
  have hiσ : i < σ.length := by rw [I.len]; exact (List.getElem?_eq_some_iff.mp hi).1
  have cne := I.cne
  have tracked : ∀ {a : Addr} {h' : Heap}, (∃ o, s.heap.get? a = some o ∧ H a = none) → Heap.SameBut a s.heap h' → HOk X.prog X.w H h' := fun {a h'} ha hs b ob e => by
    obtain ⟨_, _, hfree⟩ := ha
    refine (I.hok b ob e).stay (fun c w' hc q => (hs.2 c ?_).trans q) (fun _ q => q) fun _ _ q => q
    rintro rfl
    rcases hc with rfl | hc
    · rw [hfree] at e; cases e
    · rw [hfree] at hc; cases hc
  rcases hx with hk | hk
  · refine wpAny_storeName_local hk hn (fun h' hn' hs => ?_) hcls
    obtain ⟨oL, _, _, hoL, _⟩ := id hn
    refine h _ ⟨I.ok, I.os, I.bare, ⟨fun b o e n hb hx => ?_, fun b o e n hb hx => ?_, I.base.free, fun b o e hx => ?_, I.base.tups, I.base.frzs, I.base.tbls⟩, ⟨_, hn', fun j y v' e1 e2 e3 => ?_⟩, fun y c e => ?_, I.free, I.freeC, fun p hp => ?_, tracked ⟨oL, hoL, I.free⟩ hs, by simpa using I.len⟩ ⟨_, hs, .inl rfl⟩
    · exact (hs.2 b (Nat.ne_of_lt (Nat.lt_of_lt_of_le (Heap.lt_size e) I.ok.above))).trans (I.base.keep b o e n hb hx)
    · obtain ⟨sl, e1⟩ := I.base.slot b o e n hb hx
      exact ⟨sl, (hs.2 b (Nat.ne_of_lt (Nat.lt_of_lt_of_le (Heap.lt_size e) I.ok.above))).trans e1⟩
    · obtain ⟨o', e1⟩ := I.base.there b o e hx
      exact ⟨o', (hs.2 b (Nat.ne_of_lt (Nat.lt_of_lt_of_le (Heap.lt_size e) I.ok.above))).trans e1⟩
    · by_cases hj : j = i
      · subst hj
        rw [hi] at e1; cases e1
        rw [List.getElem?_set_self hiσ] at e2
        cases e2
        exact ⟨u, r, .inl ⟨hk, by simp⟩⟩
      · rw [List.getElem?_set_ne (Ne.symm hj)] at e2
        obtain ⟨u', r', q⟩ := hl j y v' e1 e2 e3
        refine ⟨u', r', ?_⟩
        rcases q with ⟨k, e⟩ | ⟨k, c, e, z⟩
        · refine .inl ⟨k, ?_⟩
          have : y ≠ x := fun e => hj (nodup_ix hN e1 (e ▸ hi))
          simp [this, e]
        · exact .inr ⟨k, c, e, z.sameBut hs (cne y c e)⟩
    · obtain ⟨w', z⟩ := I.cell y c e
      exact ⟨w', z.sameBut hs (cne y c e)⟩
    · obtain ⟨e, n, ne, nf, d⟩ := I.pin p hp
      exact ⟨(hs.2 p.1 ne).trans e, n, ne, nf, d⟩
  · have hfn : X.fn x = true := by
      rcases hf with z | z
      · exact z
      · rw [z] at hk; cases hk
    obtain ⟨c, hc⟩ := I.ok.has x (.inl hk)
    obtain ⟨w', z⟩ := I.cell x c hc
    refine wpAny_storeName_cell I.ok.kind hk hc z (fun h' hc' hs => ?_)
    obtain ⟨oc, hoc, hocd⟩ := id z
    refine h { s with heap := h' } ⟨I.ok, I.os, I.bare, ⟨fun b o e n hb hx => ?_, fun b o e n hb hx => ?_, I.base.free, fun b o e hx => ?_, I.base.tups, I.base.frzs, I.base.tbls⟩, ⟨m, hn.sameBut hs (Ne.symm (cne x c hc)), fun j y v' e1 e2 e3 => ?_⟩, fun y c' e => ?_, I.free, I.freeC, fun p hp => ?_, tracked ⟨oc, hoc, I.freeC x c hc⟩ hs, by simpa using I.len⟩ ⟨c, hs, .inr hc⟩
    · exact (hs.2 b (Nat.ne_of_lt (Nat.lt_of_lt_of_le (Heap.lt_size e) (I.ok.cab x c hfn hc)))).trans (I.base.keep b o e n hb hx)
    · obtain ⟨sl, e1⟩ := I.base.slot b o e n hb hx
      exact ⟨sl, (hs.2 b (Nat.ne_of_lt (Nat.lt_of_lt_of_le (Heap.lt_size e) (I.ok.cab x c hfn hc)))).trans e1⟩
    · obtain ⟨o', e1⟩ := I.base.there b o e hx
      exact ⟨o', (hs.2 b (Nat.ne_of_lt (Nat.lt_of_lt_of_le (Heap.lt_size e) (I.ok.cab x c hfn hc)))).trans e1⟩
    · by_cases hj : j = i
      · subst hj
        rw [hi] at e1; cases e1
        rw [List.getElem?_set_self hiσ] at e2
        cases e2
        exact ⟨u, r, .inr ⟨.inl hk, c, hc, hc'⟩⟩
      · rw [List.getElem?_set_ne (Ne.symm hj)] at e2
        obtain ⟨u', r', q⟩ := hl j y v' e1 e2 e3
        refine ⟨u', r', ?_⟩
        rcases q with q | ⟨k, c', e, z'⟩
        · exact .inl q
        · refine .inr ⟨k, c', e, z'.sameBut hs ?_⟩
          rintro rfl
          exact hj (nodup_ix hN e1 (I.ok.inj _ _ _ e hc ▸ hi))
    · by_cases hcc : c' = c
      · subst hcc; exact ⟨_, hc'⟩
      · obtain ⟨w2, z2⟩ := I.cell y c' e
        exact ⟨w2, z2.sameBut hs hcc⟩
    · obtain ⟨e, n, ne, nf, d⟩ := I.pin p hp
      refine ⟨(hs.2 p.1 ?_).trans e, n, ne, nf, d⟩
      intro q
      rw [q, hoc] at e
      have q' : oc = p.2 := Option.some.inj e
      exact d w' (by rw [← q']; exact hocd)
theorem store_ok {M : Model} {A : Around} {E : Value → Shared → Prop} {i : Nat} {x : Str} {v : V} {u : Value} {Q : Unit → Shared → Prop} (I : Inv X pins σ H s) (hN : X.N.Nodup) (hi : X.N[i]? = some x) (hx : Loc X.env.scope x) (r : RelV v u)
    (h : ∀ s', Inv X pins (σ.set i (some v)) H s' → Q () s') (hf : X.fn x = true ∨ X.env.scope.names.lookup x = some .local := by first | exact .inl rfl | exact .inr rfl | assumption) : wpAny M A (storeName X.env x u) Q E s :=
  store_ok2 I hN hi hx r (fun s' I' _ => h s' I') hf
/-- behind a call or a block, the state as it is -/
theorem Inv.call' {s' : Shared} {ch : List Addr} (I : Inv X pins σ H s) (ho : s'.os = s.os) (u : Un (frs X.stack) ch H H' s.heap s'.heap) (hok : HOk X.prog X.w H' s'.heap) (hg : AllBare s'.gens)
    (hch : ∀ b ∈ ch, (b ∈ X.ex ∨ X.s₀.heap.objs.size ≤ b) ∧ b ≠ X.env.locals ∧ (∀ x c, X.env.cells.lookup x = some c → c ≠ b) ∧ ∀ p ∈ X.pn ++ pins, p.1 ≠ b) : Inv X pins σ H' s' := by
  obtain ⟨h', g', d', t', o'⟩ := s'
  have e : o' = s.os := ho
  subst e
  exact I.call (g' := g') (t' := t') (d' := d') u hok hg hch
end

/-! ### the judgements -/
/-- an exception: its class, its own dict's address (where it has one), the abstract heap behind it -/
abbrev XK := Value → Option Addr → Hp → Prop
abbrev St := List (Option V)
abbrev VK := V → Hp → Prop
/-- an expression's reading; a test's; an argument list's -/
abbrev TE := St → Hp → VK → Prop
abbrev TT := St → Hp → (Bool → Hp → Prop) → Prop
abbrev TA := St → Hp → (List V → Hp → Prop) → Prop
/-- what is wanted behind a statement -/
structure Ends where
  nx : St → Hp → Prop
  rt : VK
  bk : St → Hp → Prop := fun _ _ => False
  ct : St → Hp → Prop := fun _ _ => False
abbrev TS := Ends → St → Hp → Prop

def EP (X : Cx) (pins : List (Addr × Obj)) (σ : St) (Q : VK) (u : Value) (s' : Shared) : Prop := ∃ v H', Inv X pins σ H' s' ∧ RelV v u ∧ Q v H'
def TP (X : Cx) (pins : List (Addr × Obj)) (σ : St) (Q : Bool → Hp → Prop) (b : Bool) (s' : Shared) : Prop := ∃ H', Inv X pins σ H' s' ∧ Q b H'
def AP (X : Cx) (pins : List (Addr × Obj)) (σ : St) (Q : List V → Hp → Prop) (us : List Value) (s' : Shared) : Prop := ∃ vs H', Inv X pins σ H' s' ∧ Vals vs us ∧ Q vs H'
def SP (X : Cx) (pins : List (Addr × Obj)) (D : Ends) (f : Flow) (s' : Shared) : Prop :=
  match f with
  | .next => ∃ σ' H', Inv X pins σ' H' s' ∧ D.nx σ' H'
  | .brk => ∃ σ' H', Inv X pins σ' H' s' ∧ D.bk σ' H'
  | .cont => ∃ σ' H', Inv X pins σ' H' s' ∧ D.ct σ' H'
  | .ret u => ∃ v σ' H', Inv X pins σ' H' s' ∧ RelV v u ∧ D.rt v H'

def PE (X : Cx) (e : Expr) (t : TE) : Prop :=
  ∀ (pins : List (Addr × Obj)) (s : Shared) (σ : St) (H : Hp) (Q : VK), Inv X pins σ H s → t σ H Q → wpAny (model X.prog X.w) X.A (eval e X.env) (EP X pins σ Q) X.xe s
def PT (X : Cx) (e : Expr) (t : TT) : Prop :=
  ∀ (pins : List (Addr × Obj)) (s : Shared) (σ : St) (H : Hp) (Q : Bool → Hp → Prop), Inv X pins σ H s → t σ H Q → wpAny (model X.prog X.w) X.A (isTrue e X.env (eval e X.env)) (TP X pins σ Q) X.xe s
/-- a test whatever its 'whole' is (and, or) -/
def PW (X : Cx) (e : Expr) (t : TT) : Prop :=
  ∀ (whole : Sem Value) (pins : List (Addr × Obj)) (s : Shared) (σ : St) (H : Hp) (Q : Bool → Hp → Prop), Inv X pins σ H s → t σ H Q → wpAny (model X.prog X.w) X.A (isTrue e X.env whole) (TP X pins σ Q) X.xe s
theorem PW.pt {X : Cx} {e : Expr} {t : TT} (h : PW X e t) : PT X e t := h _
/-- an argument list (no star), from the left -/
def PA (X : Cx) (es : List Expr) (t : TA) : Prop :=
  ∀ (pos : Pos) (pins : List (Addr × Obj)) (s : Shared) (σ : St) (H : Hp) (Q : List V → Hp → Prop), Inv X pins σ H s → t σ H Q → wpAny (model X.prog X.w) X.A (spliced (backTo pos (starEach es X.env))) (AP X pins σ Q) X.xe s
def PS (X : Cx) (st : Stmt) (t : TS) : Prop :=
  ∀ (pins : List (Addr × Obj)) (s : Shared) (σ : St) (H : Hp) (D : Ends), Inv X pins σ H s → t D σ H → wpAny (model X.prog X.w) X.A (exec st X.env) (SP X pins D) X.xe s
def PSs (X : Cx) (st : List Stmt) (t : TS) : Prop :=
  ∀ (pins : List (Addr × Obj)) (s : Shared) (σ : St) (H : Hp) (D : Ends), Inv X pins σ H s → t D σ H → wpAny (model X.prog X.w) X.A (execs st X.env) (SP X pins D) X.xe s
/-- weaken the end -/
theorem thn {α : Type} {t : Sem α} {Q Q' : α → Shared → Prop} {M : Model} {A : Around} {E : Value → Shared → Prop} {s : Shared} (h : wpAny M A t Q E s) (hQ : ∀ a s, Q a s → Q' a s) : wpAny M A t Q' E s := wpAny_mono h hQ fun _ _ x => x
end L2

namespace L2
open PySem PySem.Spec PyProof.Rows
section
variable {X : Cx}

/-- two expressions in a row -/
theorem bin {a b : Expr} {ta tb : TE} (ha : PE X a ta) (hb : PE X b tb) {pins : List (Addr × Obj)} {s : Shared} {σ : St} {H : Hp} {R : V → V → Hp → Prop} (I : Inv X pins σ H s) (h : ta σ H fun x H1 => tb σ H1 fun y H2 => R x y H2)
    {α : Type} {Q : α → Shared → Prop} {f : Value → Value → Sem α}
    (hf : ∀ v u s2 x y H2, Inv X pins σ H2 s2 → RelV x v → RelV y u → R x y H2 → wpAny (model X.prog X.w) X.A (f v u) Q X.xe s2) :
    wpAny (model X.prog X.w) X.A (eval a X.env) (fun v s₁ => wpAny (model X.prog X.w) X.A (eval b X.env) (fun u s₂ => wpAny (model X.prog X.w) X.A (f v u) Q X.xe s₂) X.xe s₁) X.xe s := by
  refine thn (ha pins s σ H _ I h) fun v s1 ⟨x, H1, I1, r1, q1⟩ => ?_
  refine thn (hb pins s1 σ H1 _ I1 q1) fun u s2 ⟨y, H2, I2, r2, q2⟩ => ?_
  exact hf v u s2 x y H2 I2 r1 r2 q2

/-! ### names and constants -/
def tVar (i : Nat) : TE := fun σ H Q => ∃ v, σ[i]? = some (some v) ∧ Q v H
def tC (v : V) : TE := fun _ H Q => Q v H
theorem pe_var {i : Nat} {x : Str} {pos : Pos} (hN : X.N[i]? = some x) (hv : Vis X.env.scope x) (hd : (x == ("__debug__" : Str)) = false := by decide) (hcd : (x == ("__classdict__" : Str)) = false := by decide) : PE X (.Name x pos) (tVar i) := by
  intro pins s σ H Q I h
  obtain ⟨v, e, h⟩ := h
  obtain ⟨m, hn, hl⟩ := I.loc
  obtain ⟨u, r, l⟩ := hl i x v hN e hv
  have fin : EP X pins σ Q u s := ⟨v, H, I, r, h⟩
  rcases l with ⟨hk, hm⟩ | ⟨hk, c, hc, hcell⟩
  · exact wpAny_Name (wpAny_loadName_local I.ok.kind hk hn hm fin) hd
  · rcases hk with hk | hk
    · exact wpAny_Name (wpAny_loadName_cell I.ok.kind hk hc hcell fin) hd
    · exact wpAny_Name (wpAny_loadName_free I.ok.kind hk hc hcell fin hcd) hd
theorem pe_int {i j pos} : PE X (.Constant (.int i) j pos) (tC (.int i)) := fun _ _ _ H _ I h => wpAny_Constant_int ⟨.int i, H, I.tok _, ⟨_, rfl⟩, h⟩
theorem pe_bl {b j pos} : PE X (.Constant (.bool b) j pos) (tC (.bl b)) := fun _ _ _ H _ I h => Constant_bool ⟨.bl b, H, I, rfl, h⟩
theorem pe_str {x j pos} : PE X (.Constant (.str x) j pos) (tC (.str x)) := fun _ _ _ H _ I h => Calls.Constant_str ⟨.str x, H, I.tok _, ⟨_, rfl⟩, h⟩

/-- a global name of the def -/
def Gl (X : Cx) (x : Str) : Prop := X.env.kindOf x = some .globalImplicit
theorem ld_glob {E : Value → Shared → Prop} {pins : List (Addr × Obj)} {s : Shared} {σ : St} {H : Hp} {x : Str} {u : Value} {pos : Pos} {Q : Value → Shared → Prop} (I : Inv X pins σ H s) (hg : Gl X x) (hm : X.mg x = some u) (h : Q u s)
    (hd : (x == ("__debug__" : Str)) = false := by decide) : wpAny (model X.prog X.w) X.A (eval (.Name x pos) X.env) Q E s :=
  Calls.Name_function_global I.ok.kind hg (Calls.loadGlobal_global (by rw [I.ok.glob]; exact I.mod.glob.keeps I.bk) hm h) hd
theorem ld_blt {E : Value → Shared → Prop} {pins : List (Addr × Obj)} {s : Shared} {σ : St} {H : Hp} {x : Str} {u : Value} {pos : Pos} {Q : Value → Shared → Prop} (I : Inv X pins σ H s) (hg : Gl X x) (hm : X.mg x = none) (hv : bootBuiltins x = some u) (h : Q u s)
    (hn : x ≠ "__name__" := by decide) (hd : (x == ("__debug__" : Str)) = false := by decide) : wpAny (model X.prog X.w) X.A (eval (.Name x pos) X.env) Q E s := by
  obtain ⟨mb, h1, h2⟩ := I.mod.blt
  exact Calls.Name_function_global I.ok.kind hg (Calls.loadGlobal_builtin (by rw [I.ok.glob]; exact I.mod.glob.keeps I.bk) hm (by rw [I.ok.blt]; exact h1.keeps I.bk) ((h2 x hn).trans hv) h) hd
/-- a module's constant, a class, a function, as a value -/
theorem pe_glob {x : Str} {v : V} {u : Value} {pos : Pos} (hg : Gl X x) (hm : X.mg x = some u) (r : RelV v u) (hd : (x == ("__debug__" : Str)) = false := by decide) : PE X (.Name x pos) (tC v) :=
  fun _ _ _ H _ I h => ld_glob I hg hm ⟨v, H, I, r, h⟩ hd
theorem pe_bltn {x : Str} {v : V} {u : Value} {pos : Pos} (hg : Gl X x) (hm : X.mg x = none) (hv : bootBuiltins x = some u) (r : RelV v u) (hn : x ≠ "__name__" := by decide) (hd : (x == ("__debug__" : Str)) = false := by decide) : PE X (.Name x pos) (tC v) :=
  fun _ _ _ H _ I h => ld_blt I hg hm hv ⟨v, H, I, r, h⟩ hn hd

/-! ### arithmetic -/
variable {a b : Expr} {ta tb : TE} {pos : Pos}
/-! ### comparisons -/
def PC (X : Cx) (op : CmpOp) (a b : Expr) (t : TE) : Prop :=
  ∀ (pins : List (Addr × Obj)) (s : Shared) (σ : St) (H : Hp) (Q : VK), Inv X pins σ H s → t σ H Q →
    wpAny (model X.prog X.w) X.A (eval a X.env) (fun v s₁ => wpAny (model X.prog X.w) X.A (eval b X.env) (fun u s₂ => wpAny (model X.prog X.w) X.A (compareOp op v u) (EP X pins σ Q) X.xe s₂) X.xe s₁) X.xe s
/-- a comparison as a value, as a test -/
def tB (t : TE) : TT := fun σ H Q => t σ H fun x H1 => ∃ c, x = .bl c ∧ Q c H1
theorem pt_cmp {op : CmpOp} {t : TE} (h : PC X op a b t) (h1 : behindInMarks op b = false := by first | exact nobehind _ (by decide) (by decide) | rfl) : PT X (.Compare a [op] [b] pos) (tB t) := by
  intro pins s σ H Q I hw
  refine wpAny_isTrue_Compare1 (thn (h pins s σ H _ I hw) fun v s1 h1 => thn h1 fun u s2 h2 => thn h2 fun c s3 ⟨x, H1, I1, r1, q1⟩ => ?_) h1
  obtain ⟨d, rfl, q⟩ := q1
  cases r1
  exact wpAny_truthy_bool ⟨H1, I1, q⟩
/-- an expression whose value is a bool, as a test -/
theorem pt_val {e : Expr} {t : TE} (h : PE X e t) (he : ∀ whole, isTrue e X.env whole = (do let v ← whole; standAt e.pos; holding [v] (truthy v)) := by intro _; rfl) : PT X e (tB t) := by
  intro pins s σ H Q I hw
  refine isTrue_plain (thn (h pins s σ H _ I hw) fun v s1 ⟨x, H1, I1, r1, q1⟩ => ?_) (he _)
  obtain ⟨d, rfl, q⟩ := q1
  cases r1
  exact wpAny_truthy_bool ⟨H1, I1, q⟩

/-! ### and, or, not -/
variable {tA tB' : TT} {rest : List Expr}
def tAnd (t u : TT) : TT := fun σ H Q => t σ H fun c H1 => if c = true then u σ H1 Q else Q false H1
def tOr (t u : TT) : TT := fun σ H Q => t σ H fun c H1 => if c = true then Q true H1 else u σ H1 Q
def tNot (t : TT) : TT := fun σ H Q => t σ H fun c H1 => Q (!c) H1
theorem pw_and1 (ha : PT X a tA) : PW X (.BoolOp .And [a] pos) tA := by
  intro wh pins s σ H Q I h
  refine isTrue_and (thn (ha pins s σ H Q I h) fun c s1 e => ?_)
  cases c with
  | true => exact isTrue_and_nil e
  | false => exact e
theorem pw_or1 (ha : PT X a tA) : PW X (.BoolOp .Or [a] pos) tA := by
  intro wh pins s σ H Q I h
  refine isTrue_or (thn (ha pins s σ H Q I h) fun c s1 e => ?_)
  cases c with
  | false => exact isTrue_or_nil e
  | true => exact e
theorem pw_and (ha : PT X a tA) (hb : PW X (.BoolOp .And (b :: rest) pos) tB') : PW X (.BoolOp .And (a :: b :: rest) pos) (tAnd tA tB') := by
  intro wh pins s σ H Q I h
  refine isTrue_and (thn (ha pins s σ H _ I h) fun c s1 ⟨H1, I1, q1⟩ => ?_)
  cases c with
  | true => exact hb wh pins s1 σ H1 Q I1 q1
  | false => exact ⟨H1, I1, q1⟩
theorem pw_or (ha : PT X a tA) (hb : PW X (.BoolOp .Or (b :: rest) pos) tB') : PW X (.BoolOp .Or (a :: b :: rest) pos) (tOr tA tB') := by
  intro wh pins s σ H Q I h
  refine isTrue_or (thn (ha pins s σ H _ I h) fun c s1 ⟨H1, I1, q1⟩ => ?_)
  cases c with
  | true => exact ⟨H1, I1, q1⟩
  | false => exact hb wh pins s1 σ H1 Q I1 q1
theorem pt_not (ha : PT X a tA) : PT X (.UnaryOp .Not a pos) (tNot tA) := by
  intro pins s σ H Q I h
  exact isTrue_not (ha pins s σ H (fun c H1 => Q (!c) H1) I h)
/-- .. as values (bools) -/
def tAndV (ta tb : TE) : TE := fun σ H Q => ta σ H fun x H1 => ∃ c, x = .bl c ∧ if c = true then tb σ H1 Q else Q (.bl false) H1
def tOrV (ta tb : TE) : TE := fun σ H Q => ta σ H fun x H1 => ∃ c, x = .bl c ∧ if c = true then Q (.bl true) H1 else tb σ H1 Q
def tNotV (ta : TE) : TE := fun σ H Q => ta σ H fun x H1 => ∃ c, x = .bl c ∧ Q (.bl (!c)) H1
theorem pe_one {op} {t : TE} (h : PE X a t) : PE X (.BoolOp op [a] pos) t := fun pins s σ H Q I hw => BoolOp_one (h pins s σ H Q I hw)
theorem pe_and (ha : PE X a ta) (hb : PE X (.BoolOp .And (b :: rest) pos) tb) : PE X (.BoolOp .And (a :: b :: rest) pos) (tAndV ta tb) := by
  intro pins s σ H Q I h
  refine BoolOp_and (thn (ha pins s σ H _ I h) fun v s1 ⟨x, H1, I1, r1, q1⟩ => ?_)
  obtain ⟨c, rfl, q1⟩ := q1
  cases r1
  refine wpAny_truthy_bool ?_
  cases c with
  | true => exact hb pins s1 σ H1 Q I1 q1
  | false => exact ⟨.bl false, H1, I1, rfl, q1⟩
theorem pe_or (ha : PE X a ta) (hb : PE X (.BoolOp .Or (b :: rest) pos) tb) : PE X (.BoolOp .Or (a :: b :: rest) pos) (tOrV ta tb) := by
  intro pins s σ H Q I h
  refine BoolOp_or (thn (ha pins s σ H _ I h) fun v s1 ⟨x, H1, I1, r1, q1⟩ => ?_)
  obtain ⟨c, rfl, q1⟩ := q1
  cases r1
  refine wpAny_truthy_bool ?_
  cases c with
  | false => exact hb pins s1 σ H1 Q I1 q1
  | true => exact ⟨.bl true, H1, I1, rfl, q1⟩
theorem pe_not (ha : PE X a ta) : PE X (.UnaryOp .Not a pos) (tNotV ta) := by
  intro pins s σ H Q I h
  refine UnaryOp_ (thn (ha pins s σ H _ I h) fun v s1 ⟨x, H1, I1, r1, q1⟩ => ?_)
  obtain ⟨c, rfl, q1⟩ := q1
  cases r1
  exact not_of (wpAny_truthy_bool ⟨.bl (!c), H1, I1, rfl, q1⟩)
end
end L2

namespace L2
open PySem PySem.Spec PyProof.Rows

/-! ### a list, a tuple that is read: tracked, frozen, or an object of the module -/
def SqL (K : PySem.W.Frag) (H : Hp) (a : Addr) (xs : List V) : Prop :=
  Rd H a (.lst xs) ∨
    ∃ (o : Obj) (its : Array Value) (n : Nat), K.lookup a = some o ∧ o.cls = .type "list" ∧ o.dict = none ∧ o.data = .seq its n ∧ its.size ≤ sizeLine ∧ Vals xs its.toList
def SqT (K : PySem.W.Frag) (H : Hp) (a : Addr) (xs : List V) : Prop :=
  Rd H a (.tup xs) ∨
    ∃ (o : Obj) (its : Array Value) (n : Nat), K.lookup a = some o ∧ o.cls = .type "tuple" ∧ o.data = .seq its n ∧ its.size ≤ sizeLine ∧ Vals xs its.toList
def absV : Value → Option V
  | .none => some .non
  | .bool b => some (.bl b)
  | .int i _ => some (.int i)
  | .str x _ => some (.str x)
  | .bytes b _ => some (.byt b)
  | .float b _ => some (.flt b)
  | .ref a => some (.ref a)
  | .type n => some (.ty n)
  | _ => none
theorem RelV.abs {x : V} {u : Value} (r : RelV x u) : absV u = some x := by
  cases x with
  | non => cases r; rfl
  | bl _ => cases r; rfl
  | int _ => obtain ⟨t, rfl⟩ := r; rfl
  | str _ => obtain ⟨t, rfl⟩ := r; rfl
  | byt _ => obtain ⟨t, rfl⟩ := r; rfl
  | flt _ => obtain ⟨t, rfl⟩ := r; rfl
  | ref _ => cases r; rfl
  | ty _ => cases r; rfl
theorem RelV.inj {x y : V} {u : Value} (r : RelV x u) (q : RelV y u) : x = y := Option.some.inj (r.abs.symm.trans q.abs)
theorem Vals.inj : ∀ {xs ys : List V} {us : List Value}, Vals xs us → Vals ys us → xs = ys
  | _, _, _, .nil, .nil => rfl
  | _, _, _, .cons r t, .cons r' t' => by rw [r.inj r', Vals.inj t t']
section
variable {X : Cx} {pins : List (Addr × Obj)} {σ : St} {H : Hp} {s : Shared} {a : Addr} {xs ys : List V}
theorem SqL.of {K : PySem.W.Frag} (h : H a = some (.lst xs)) : SqL K H a xs := .inl (.inl h)
theorem SqT.of {K : PySem.W.Frag} (h : H a = some (.tup xs)) : SqT K H a xs := .inl (.inl h)
theorem Inv.list (I : Inv X pins σ H s) (h : SqL X.K H a xs) : ∃ its : List Value, Vals xs its ∧ PlainL s.heap a its.toArray ∧ xs.length ≤ sizeLine := by
  rcases h with h | ⟨o, its, n, hk, hc, hd, hs, hz, r⟩
  · obtain ⟨z, its, n, r, e⟩ := h.ok I.hok
    exact ⟨its, r, ⟨_, n, e, rfl, rfl, rfl⟩, z⟩
  · refine ⟨its.toList, r, ⟨o, n, I.kIn a o hk, hc, hd, by simpa using hs⟩, ?_⟩
    have e := r.length
    simp only [Array.length_toList] at e
    omega
theorem Inv.tuple (I : Inv X pins σ H s) (h : SqT X.K H a xs) : ∃ its : List Value, Vals xs its ∧ IsTup s.heap a its.toArray ∧ xs.length ≤ sizeLine := by
  rcases h with h | ⟨o, its, n, hk, hc, hs, hz, r⟩
  · obtain ⟨z, its, r, p⟩ := h.ok I.hok
    exact ⟨its, r, p, z⟩
  · refine ⟨its.toList, r, ⟨o, I.kIn a o hk, hc, n, by simpa using hs⟩, ?_⟩
    have e := r.length
    simp only [Array.length_toList] at e
    omega
theorem Inv.list_inj (I : Inv X pins σ H s) (h : SqL X.K H a xs) (h' : SqL X.K H a ys) : xs = ys := by
  obtain ⟨its, r, ⟨o, n, e, _, _, d⟩, _⟩ := I.list h
  obtain ⟨its', r', ⟨o', n', e', _, _, d'⟩, _⟩ := I.list h'
  rw [e] at e'; cases e'
  rw [d] at d'
  injection d' with d1 _
  have : its = its' := by simpa using congrArg Array.toList d1
  subst this
  exact r.inj r'
theorem Inv.tuple_inj (I : Inv X pins σ H s) (h : SqT X.K H a xs) (h' : SqT X.K H a ys) : xs = ys := by
  obtain ⟨its, r, ⟨o, e, _, n, d⟩, _⟩ := I.tuple h
  obtain ⟨its', r', ⟨o', e', _, n', d'⟩, _⟩ := I.tuple h'
  rw [e] at e'; cases e'
  rw [d] at d'
  injection d' with d1 _
  have : its = its' := by simpa using congrArg Array.toList d1
  subst this
  exact r.inj r'
end

/-! ### another wish about exceptions -/
abbrev Cx.wish (X : Cx) (E : Value → Shared → Prop) : Cx := { X with xe := E }
/-- no exception leaves -/
abbrev Cx.nox (X : Cx) : Cx := X.wish fun _ _ => False
theorem Cx.Ok.wish {X : Cx} (ok : X.Ok) (E : Value → Shared → Prop) : (X.wish E).Ok :=
  ⟨ok.mod, ok.kind, ok.glob, ok.blt, ok.above, ok.inj, ok.has, ok.cab, ok.hd, ok.frames, ok.stk, ok.exf, ok.bs, ok.bsz, ok.noex, ok.exfs, ok.funs, ok.frf⟩
theorem Cx.Ok.unwish {X : Cx} {E : Value → Shared → Prop} (ok : (X.wish E).Ok) : X.Ok :=
  ⟨ok.mod, ok.kind, ok.glob, ok.blt, ok.above, ok.inj, ok.has, ok.cab, ok.hd, ok.frames, ok.stk, ok.exf, ok.bs, ok.bsz, ok.noex, ok.exfs, ok.funs, ok.frf⟩
section
variable {X : Cx} {pins : List (Addr × Obj)} {σ : St} {H : Hp} {s : Shared} {E : Value → Shared → Prop}
theorem Inv.wish (I : Inv X pins σ H s) (E : Value → Shared → Prop) : Inv (X.wish E) pins σ H s := ⟨I.ok.wish E, I.os, I.bare, I.base, I.loc, I.cell, I.free, I.freeC, I.pin, I.hok, I.len⟩
theorem Inv.unwish (I : Inv (X.wish E) pins σ H s) : Inv X pins σ H s := ⟨I.ok.unwish, I.os, I.bare, I.base, I.loc, I.cell, I.free, I.freeC, I.pin, I.hok, I.len⟩
theorem SP.unwish {D : Ends} {f : Flow} {s' : Shared} (h : SP (X.wish E) pins D f s') : SP X pins D f s' := by
  cases f with
  | next => obtain ⟨σ', H', I, q⟩ := h; exact ⟨σ', H', I.unwish, q⟩
  | brk => obtain ⟨σ', H', I, q⟩ := h; exact ⟨σ', H', I.unwish, q⟩
  | cont => obtain ⟨σ', H', I, q⟩ := h; exact ⟨σ', H', I.unwish, q⟩
  | ret u => obtain ⟨v, σ', H', I, r, q⟩ := h; exact ⟨v, σ', H', I.unwish, r, q⟩
theorem PSs.nox {st : List Stmt} {t : TS} (h : PSs X.nox st t) : PSs X st t := fun pins s σ H D I hw =>
  wpAny_mono (h pins s σ H D (I.wish _) hw) (fun _ _ q => q.unwish) fun _ _ z => False.elim z
end

/-! ### blocks and small statements -/
section
variable {X : Cx} {st : Stmt} {rest : List Stmt} {t u : TS} {e : Expr} {te : TE} {pos : Pos}
def tNext : TS := fun D σ H => D.nx σ H
def tSeq (t u : TS) : TS := fun D σ H => t { D with nx := u D } σ H
theorem pss_nil : PSs X [] tNext := fun _ _ σ H _ I h => wpAny_execs_nil ⟨σ, H, I, h⟩
theorem pss_cons (h1 : PS X st t) (h2 : PSs X rest u) : PSs X (st :: rest) (tSeq t u) := by
  intro pins s σ H D I h
  refine wpAny_execs_cons (thn (h1 pins s σ H { D with nx := u D } I h) fun f s1 q => ?_)
  cases f with
  | next =>
    obtain ⟨σ', H', I', q⟩ := q
    exact h2 pins s1 σ' H' D I' q
  | ret v => exact q
  | brk => exact q
  | cont => exact q
theorem pss_one (h1 : PS X st t) : PSs X [st] t := by
  intro pins s σ H D I h
  refine wpAny_execs_cons (thn (h1 pins s σ H D I h) fun f s1 q => ?_)
  cases f with
  | next => exact wpAny_execs_nil q
  | ret v => exact q
  | brk => exact q
  | cont => exact q
/-- in a def's body nothing is shown -/
theorem Inv.quiet {pins : List (Addr × Obj)} {σ : St} {H : Hp} {s : Shared} (I : Inv X pins σ H s) : interactive X.env = false := by simp [interactive, I.ok.kind]
/-- an expression whose value is dropped -/
def tDrop (te : TE) : TS := fun D σ H => te σ H fun _ H1 => D.nx σ H1
theorem ps_expr (he : PE X e te) (hs : swapsWith e none pos.line X.env = pure false := by rfl) : PS X (.Expr e pos) (tDrop te) := by
  intro pins s σ H D I h
  exact wpAny_Expr_any (thn (he pins s σ H _ I h) fun v s1 ⟨x, H1, I1, r1, q1⟩ => ⟨σ, H1, I1, q1⟩) I.quiet hs
def tRet (te : TE) : TS := fun D σ H => te σ H D.rt
theorem ps_ret (he : PE X e te) : PS X (.Return (some e) pos) (tRet te) := by
  intro pins s σ H D I h
  exact wpAny_Return_some (thn (he pins s σ H _ I h) fun v s1 ⟨x, H1, I1, r1, q1⟩ => ⟨x, σ, H1, I1, r1, q1⟩)
def tIfS (c : TT) (t u : TS) : TS := fun D σ H => c σ H fun b H1 => if b = true then t D σ H1 else u D σ H1
theorem ps_if {c : Expr} {a b : List Stmt} {tc : TT} (hc : PT X c tc) (ha : PSs X a t) (hb : PSs X b u) : PS X (.If c a b pos) (tIfS tc t u) := by
  intro pins s σ H D I h
  refine wpAny_If (thn (hc pins s σ H _ I h) fun d s1 ⟨H1, I1, q1⟩ => ?_)
  cases d with
  | true => exact ha pins s1 σ H1 D I1 q1
  | false => exact hb pins s1 σ H1 D I1 q1
end

/-! ### targets -/
abbrev TG := V → St → Hp → (St → Hp → Prop) → Prop
abbrev TGs := List V → St → Hp → (St → Hp → Prop) → Prop
def PG (X : Cx) (target : Expr) (t : TG) : Prop :=
  ∀ (pins : List (Addr × Obj)) (s : Shared) (σ : St) (H : Hp) (v : V) (u : Value) (Q : St → Hp → Prop), Inv X pins σ H s → RelV v u → t v σ H Q →
    wpAny (model X.prog X.w) X.A (assign target X.env u) (fun _ s' => ∃ σ' H', Inv X pins σ' H' s' ∧ Q σ' H') X.xe s
/-- several targets, one after another -/
def PGs (X : Cx) (ts : List Expr) (t : TGs) : Prop :=
  ∀ (pins : List (Addr × Obj)) (s : Shared) (σ : St) (H : Hp) (vs : List V) (us : List Value) (Q : St → Hp → Prop), Inv X pins σ H s → Vals vs us → t vs σ H Q →
    wpAny (model X.prog X.w) X.A (assignInOrder ((assignEach ts X.env).map (·.2)) us) (fun _ s' => ∃ σ' H', Inv X pins σ' H' s' ∧ Q σ' H') X.xe s
/-- o[i] = v, by values -/
abbrev TSet := V → V → V → Hp → (Hp → Prop) → Prop
def PSet (X : Cx) (t : TSet) : Prop :=
  ∀ (pins : List (Addr × Obj)) (s : Shared) (σ : St) (H : Hp) (o i v : V) (ov iv u : Value) (Q : Hp → Prop), Inv X pins σ H s → RelV o ov → RelV i iv → RelV v u → t o i v H Q →
    wpAny (model X.prog X.w) X.A (setItem ov iv u) (fun _ s' => ∃ H', Inv X pins σ H' s' ∧ Q H') X.xe s
section
variable {X : Cx} {pos : Pos}
def gName (i : Nat) : TG := fun v σ H Q => Q (σ.set i (some v)) H
theorem pg_name {i : Nat} {x : Str} (hN : X.N.Nodup) (hi : X.N[i]? = some x) (hx : Loc X.env.scope x) (hf : X.fn x = true ∨ X.env.scope.names.lookup x = some .local := by first | exact .inl rfl | exact .inr rfl | assumption) : PG X (.Name x pos) (gName i) := by
  intro pins s σ H v u Q I r h
  exact wpAny_assign_Name (store_ok I hN hi hx r (fun s' I' => ⟨_, H, I', h⟩) hf)
def gNil : TGs := fun vs σ H Q => vs = [] ∧ Q σ H
def gCons (t : TG) (u : TGs) : TGs := fun vs σ H Q => ∃ v r, vs = v :: r ∧ t v σ H fun σ' H' => u r σ' H' Q
theorem pgs_nil : PGs X [] gNil := by
  intro pins s σ H vs us Q I r h
  obtain ⟨e, h⟩ := h
  subst e
  cases r
  exact assignInOrder_nil ⟨σ, H, I, h⟩
theorem pgs_cons {e : Expr} {es : List Expr} {t : TG} {u : TGs} (h1 : PG X e t) (h2 : PGs X es u)
    (hs : (assignEach (e :: es) X.env).map (·.2) = assign e X.env :: (assignEach es X.env).map (·.2) := by rfl) : PGs X (e :: es) (gCons t u) := by
  intro pins s σ H vs us Q I r h
  obtain ⟨v, vr, e1, h⟩ := h
  subst e1
  cases r with
  | cons r rr =>
    rw [hs]
    refine assignInOrder_cons (thn (h1 pins s σ H _ _ _ I r h) fun _ s1 ⟨σ1, H1, I1, q1⟩ => ?_)
    exact h2 pins s1 σ1 H1 _ _ Q I1 rr q1
/-- (a, b, ..) = a tuple of that length -/
def gTup (K : PySem.W.Frag) (n : Nat) (t : TGs) : TG := fun v σ H Q => ∃ a xs, v = .ref a ∧ SqT K H a xs ∧ xs.length = n ∧ t xs σ H Q
theorem pg_tup {es : List Expr} {k : Nat} {t : TGs} {n : Nat} (hc : X.calm = true) (h : PGs X es t)
    (hn : (assignEach es X.env).length = n := by rfl) (hst : (assignEach es X.env).findIdx? (·.1) = none := by rfl) : PG X (.Tuple es k pos) (gTup X.K n t) := by
  intro pins s σ H v u Q I r hw
  obtain ⟨a, xs, e1, hq, hl, hw⟩ := hw
  subst e1
  cases r
  obtain ⟨its, rv, ht, hz⟩ := I.tuple hq
  refine assign_Tuple_tuple (I.ok.hd hc) ht (by simp [hn, ← hl, rv.length]) hst fun h' hx => ?_
  have I1 : Inv X pins σ H { s with heap := h' } := I.kept (t' := s.toks) fun b o e => hx b o (Nat.ne_of_lt (Heap.lt_size e)) e
  exact h pins _ σ H xs _ Q I1 (by simpa using rv) hw
/-- o[i] = .. -/
def gSub (to ti : TE) (t : TSet) : TG := fun v σ H Q => to σ H fun o H1 => ti σ H1 fun i H2 => t o i v H2 fun H3 => Q σ H3
theorem pg_sub {o i : Expr} {to ti : TE} {t : TSet} (ho : PE X o to) (hi : PE X i ti) (hs : PSet X t)
    (ha : ∀ v, assign (.Subscript o i pos) X.env v = (do
      let ov ← holding [v] (eval o X.env)
      let iv ← holding [v, ov] (eval i X.env)
      standAt pos
      holding [v, ov, iv] (setItem ov iv v)
      release [v, ov, iv] []) := by intro _; rfl) : PG X (.Subscript o i pos) (gSub to ti t) := by
  intro pins s σ H v u Q I r h
  rw [ha]
  refine wpAny_bind (wpAny_holding (thn (ho pins s σ H _ I h) fun ov s1 ⟨x, H1, I1, r1, q1⟩ => ?_))
  refine wpAny_bind (wpAny_holding (thn (hi pins s1 σ H1 _ I1 q1) fun iv s2 ⟨y, H2, I2, r2, q2⟩ => ?_))
  refine wpAny_bind (wpAny_standAt (wpAny_bind (wpAny_holding (thn (hs pins s2 σ H2 x y v ov iv u _ I2 r1 r2 r q2) fun _ s3 ⟨H3, I3, q3⟩ => ?_))))
  exact wpAny_release ⟨σ, H3, I3, q3⟩
/-- target = value -/
def tAsg (te : TE) (g : TG) : TS := fun D σ H => te σ H fun x H1 => g x σ H1 D.nx
theorem ps_asg {tg e : Expr} {te : TE} {g : TG} (he : PE X e te) (hg : PG X tg g) (hs : swapsWithSole [tg] e pos.line X.env = pure false := by rfl) (hw : swappedStores [tg] e X.env = pure none := by rfl)
    (h1 : (assignEach [tg] X.env).map (·.2) = [assign tg X.env] := by rfl) : PS X (.Assign [tg] e pos) (tAsg te g) := by
  intro pins s σ H D I h
  refine wpAny_Assign_stores (thn (he pins s σ H _ I h) fun v s1 ⟨x, H1, I1, r1, q1⟩ => ?_) hs hw
  rw [h1]
  exact thn (hg pins s1 σ H1 x v _ I1 r1 q1) fun _ s2 q => q
/-- name = value -/
theorem ps_set {i : Nat} {x : Str} {e : Expr} {te : TE} {pos' : Pos} (hN : X.N.Nodup) (hi : X.N[i]? = some x) (hx : Loc X.env.scope x) (he : PE X e te) (hs : swapsWith e (some (.Name x pos')) pos.line X.env = pure false := by rfl) (hf : X.fn x = true ∨ X.env.scope.names.lookup x = some .local := by first | exact .inl rfl | exact .inr rfl | assumption) :
    PS X (.Assign [.Name x pos'] e pos) (tAsg te (gName i)) := by
  intro pins s σ H D I h
  refine wpAny_Assign_Name (thn (he pins s σ H _ I h) fun v s1 ⟨y, H1, I1, r1, q1⟩ => ?_) hs
  exact store_ok I1 hN hi hx r1 (fun s2 I2 => ⟨_, H1, I2, q1⟩) hf
end

/-! ### while -/
section
variable {X : Cx} {pos : Pos}
end

/-! ### what a loop or a comprehension walks -/
/-- at turn i: it yields x (the heap may grow), or it stops -/
structure It where
  go : Nat → Hp → Prop
  yld : Nat → Hp → V → Hp → Prop
  stop : Nat → Hp → Prop
/-- the iterator's own objects may turn: they are not the frame's, not pinned, younger than the entry (or a comprehension's own) -/
def FpOk (X : Cx) (pins : List (Addr × Obj)) (H : Hp) (b : Addr) : Prop :=
  H b = none ∧ b ≠ X.env.locals ∧ b ∉ X.fs ∧ (b ∈ X.ex ∨ X.s₀.heap.objs.size ≤ b) ∧ (∀ x c, X.env.cells.lookup x = some c → c ≠ b) ∧ ∀ p ∈ X.pn ++ pins, p.1 ≠ b
theorem Inv.fpOk {X : Cx} {pins : List (Addr × Obj)} {σ : St} {H H' : Hp} {s : Shared} {b : Addr} (I : Inv X pins σ H s) (hb : s.heap.objs.size ≤ b) (hn : H' b = none) : FpOk X pins H' b := by
  refine ⟨hn, Nat.ne_of_gt (Nat.lt_of_lt_of_le I.lt hb), I.nofs hb, .inr (Nat.le_trans I.sz hb), fun x c e z => ?_, fun p hp z => ?_⟩
  · obtain ⟨v, q⟩ := I.cell x c e
    exact absurd (Nat.lt_of_lt_of_le q.lt (by rw [z]; exact hb)) (Nat.lt_irrefl _)
  · exact absurd (Nat.lt_of_lt_of_le (Heap.lt_size (I.pin p hp).1) (by rw [z]; exact hb)) (Nat.lt_irrefl _)
structure Turn (P : Program) (w : World) (K : PySem.W.Frag) (tg : Expr) (J : It) (fp : List Addr) (it : Addr) (tn : Nat → Heap → Prop) : Prop where
  mem : it ∈ fp
  obj : ∀ i h, tn i h → ∀ b ∈ fp, ∃ o, h.get? b = some o ∧ ∀ v, o.data ≠ .cell v
  keep : ∀ i h h', tn i h → (∀ b ∈ fp, ∀ o, h.get? b = some o → h'.get? b = some o) → tn i h'
  item : ∀ (X : Cx), X.prog = P → X.w = w → X.K = K → X.calm = true → ∀ (i : Nat) (pins : List (Addr × Obj)) (s : Shared) (σ : St) (H : Hp) (E : Value → Shared → Prop), Inv X pins σ H s → (∀ b ∈ fp, FpOk X pins H b) → tn i s.heap → J.go i H →
    wpAny (model P w) X.A (pyNext (.ref it)) (fun r s1 => ∃ u, r = some u ∧
      wpAny (model P w) X.A (letOwnedTupleGo tg (.ref it) u) (fun _ s2 => ∃ x H', Inv X pins σ H' s2 ∧ RelV x u ∧ J.yld i H x H' ∧ tn (i + 1) s2.heap ∧ ∀ b ∈ fp, H' b = none) E s1) E s
  done : ∀ (X : Cx), X.prog = P → X.w = w → X.K = K → X.calm = true → ∀ (i : Nat) (pins : List (Addr × Obj)) (s : Shared) (σ : St) (H : Hp) (E : Value → Shared → Prop), Inv X pins σ H s → (∀ b ∈ fp, FpOk X pins H b) → tn i s.heap → J.stop i H →
    wpAny (model P w) X.A (pyNext (.ref it)) (fun r s1 => r = none ∧ Inv X pins σ H s1) E s
  self : ∀ (A : Around) (i : Nat) (s : Shared) (Q : Value → Shared → Prop) (E : Value → Shared → Prop), tn i s.heap → Q (.ref it) s → wpAny (model P w) A (pyIter (.ref it)) Q E s
abbrev TI := St → Hp → (It → Hp → Prop) → Prop
/-- an iterator has come -/
def PIE (X : Cx) (pins : List (Addr × Obj)) (σ : St) (tg : Expr) (R : It → Hp → Prop) (itv : Value) (s2 : Shared) : Prop :=
  ∃ (it : Addr) (fp : List Addr) (tn : Nat → Heap → Prop) (J : It) (H' : Hp), itv = .ref it ∧ Inv X pins σ H' s2 ∧ Turn X.prog X.w X.K tg J fp it tn ∧ tn 0 s2.heap ∧ (∀ b ∈ fp, FpOk X pins H' b) ∧ R J H'
def PI (X : Cx) (tg iter : Expr) (wi : TI) : Prop :=
  ∀ (pins : List (Addr × Obj)) (s : Shared) (σ : St) (H : Hp) (R : It → Hp → Prop), Inv X pins σ H s → wi σ H R →
    wpAny (model X.prog X.w) X.A (eval iter X.env) (fun v s1 => wpAny (model X.prog X.w) X.A (pyIter v) (PIE X pins σ tg R) X.xe s1) X.xe s

/-- the step ahead of the store is nothing for an iterator that keeps no tuple -/
theorem go_of {M : Model} {A : Around} {E : Value → Shared → Prop} {s : Shared} {tg : Expr} {it : Addr} {u : Value} {o : Obj} {n : String} {vs : Array Value} {Q : Unit → Shared → Prop} (ho : s.heap.get? it = some o) (hc : o.cls = .type n) (hd : o.data = .fields vs)
    (hn : ["enumerate", "zip", "dict_itemiterator", "dict_reverseitemiterator", "odict_iterator", "itertools.zip_longest", "itertools.pairwise"].contains n = false) (hQ : Q () s) : wpAny M A (letOwnedTupleGo tg (.ref it) u) Q E s := by
  unfold letOwnedTupleGo
  cases tg <;> first
    | exact wpAny_pure hQ
    | (cases u <;> first
        | exact wpAny_pure hQ
        | (refine wpAny_bind (wpAny_load ho ?_)
           rw [hc, hd]
           show wpAny M A (if (["enumerate", "zip", "dict_itemiterator", "dict_reverseitemiterator", "odict_iterator", "itertools.zip_longest", "itertools.pairwise"].contains n && vs[0]? == some (rawInt _)) = true then _ else _) Q E s
           rw [if_neg (by intro h; rw [hn, Bool.false_and] at h; cases h)]
           exact wpAny_pure hQ))

/-- the list at a, as it stands at each turn (a loop may append to it) -/
def Itl (K : PySem.W.Frag) (a : Addr) : It :=
  ⟨fun i H => ∃ xs x, SqL K H a xs ∧ xs[i]? = some x, fun i H x H' => H' = H ∧ ∀ xs, SqL K H a xs → xs[i]? = some x, fun i H => ∃ xs, SqL K H a xs ∧ xs.length ≤ i⟩
def Itt (K : PySem.W.Frag) (a : Addr) : It :=
  ⟨fun i H => ∃ xs x, SqT K H a xs ∧ xs[i]? = some x, fun i H x H' => H' = H ∧ ∀ xs, SqT K H a xs → xs[i]? = some x, fun i H => ∃ xs, SqT K H a xs ∧ xs.length ≤ i⟩
/-- lo, lo + 1, .. (n of them) -/
def Itr (lo : Int) (n : Nat) : It := ⟨fun i _ => i < n, fun i H x H' => H' = H ∧ x = .int (lo + i), fun i _ => n ≤ i⟩
theorem turn_list {P : Program} {w : World} {K : PySem.W.Frag} {tg : Expr} (a it : Addr) : Turn P w K tg (Itl K a) [it] it (fun i h => h.IsListIter it a i) where
  mem := by simp
  obj := fun i h st b hb => by
    have e : b = it := by simpa using hb
    subst e
    obtain ⟨o, e, c, d⟩ := st
    exact ⟨o, e, fun v z => by rw [d] at z; cases z⟩
  keep := fun i h h' st k => st.at fun o e => k it (by simp) o e
  item := by
    intro X hP hw hK hc i pins s σ H E I hf st hg
    subst hP hw hK
    obtain ⟨xs, x, hq, hx⟩ := hg
    obtain ⟨its, rv, p, hz⟩ := I.list hq
    obtain ⟨u, hu, ru⟩ := rv.get hx
    obtain ⟨f0, f1, f2, f3, f4, f5⟩ := hf it (by simp)
    refine wpAny_pyNext_list_item st p.isList (x := u) (by simpa using hu) fun h' st' sb => ?_
    have I1 : Inv X pins σ H { s with heap := h' } := I.turned (t' := s.toks) (fun b o hb e => (sb.2 b hb).trans e) f0 f1 f3 f4 f5
    obtain ⟨o, e, c, d⟩ := id st'
    exact ⟨u, rfl, go_of (s := { s with heap := h' }) e c d (by decide) ⟨x, H, I1, ru, ⟨rfl, fun ys hy => by rw [I.list_inj hy hq]; exact hx⟩, st', fun b hb => (hf b hb).1⟩⟩
  done := by
    intro X hP hw hK hc i pins s σ H E I hf st hg
    subst hP hw hK
    obtain ⟨xs, hq, hx⟩ := hg
    obtain ⟨its, rv, p, hz⟩ := I.list hq
    obtain ⟨f0, f1, f2, f3, f4, f5⟩ := hf it (by simp)
    have hl := rv.length
    exact wpAny_pyNext_list_end (I.ok.hd hc) st p.isList (by simp; omega) fun h' eb => ⟨rfl, I.turned (t' := s.toks) (fun b o hb e => eb b o hb e) f0 f1 f3 f4 f5⟩
  self := fun _ _ _ _ _ st h => wpAny_pyIter_listiter st h
theorem turn_tuple {P : Program} {w : World} {K : PySem.W.Frag} {tg : Expr} (a it : Addr) : Turn P w K tg (Itt K a) [it] it (fun i h => h.IsTupleIter it a i) where
  mem := by simp
  obj := fun i h st b hb => by
    have e : b = it := by simpa using hb
    subst e
    obtain ⟨o, e, c, d⟩ := st
    exact ⟨o, e, fun v z => by rw [d] at z; cases z⟩
  keep := fun i h h' st k => st.at fun o e => k it (by simp) o e
  item := by
    intro X hP hw hK hc i pins s σ H E I hf st hg
    subst hP hw hK
    obtain ⟨xs, x, hq, hx⟩ := hg
    obtain ⟨its, rv, p, hz⟩ := I.tuple hq
    obtain ⟨u, hu, ru⟩ := rv.get hx
    obtain ⟨f0, f1, f2, f3, f4, f5⟩ := hf it (by simp)
    refine wpAny_pyNext_tuple_item st (show s.heap.IsTuple a its.toArray from p) (x := u) (by simpa using hu) fun h' st' sb => ?_
    have I1 : Inv X pins σ H { s with heap := h' } := I.turned (t' := s.toks) (fun b o hb e => (sb.2 b hb).trans e) f0 f1 f3 f4 f5
    obtain ⟨o, e, c, d⟩ := id st'
    exact ⟨u, rfl, go_of (s := { s with heap := h' }) e c d (by decide) ⟨x, H, I1, ru, ⟨rfl, fun ys hy => by rw [I.tuple_inj hy hq]; exact hx⟩, st', fun b hb => (hf b hb).1⟩⟩
  done := by
    intro X hP hw hK hc i pins s σ H E I hf st hg
    subst hP hw hK
    obtain ⟨xs, hq, hx⟩ := hg
    obtain ⟨its, rv, p, hz⟩ := I.tuple hq
    obtain ⟨f0, f1, f2, f3, f4, f5⟩ := hf it (by simp)
    have hl := rv.length
    exact wpAny_pyNext_tuple_end (I.ok.hd hc) st (show s.heap.IsTuple a its.toArray from p) (by simp; omega) fun h' eb => ⟨rfl, I.turned (t' := s.toks) (fun b o hb e => eb b o hb e) f0 f1 f3 f4 f5⟩
  self := fun _ _ _ _ _ st h => wpAny_pyIter_tupleiter st h
theorem turn_range {P : Program} {w : World} {K : PySem.W.Frag} {tg : Expr} (it : Addr) (lo : Int) (n : Nat) : Turn P w K tg (Itr lo n) [it] it (fun i h => IsRangeIter h it (lo + (i : Nat) * 1) ((n : Int) - (i : Nat)) 1) where
  mem := by simp
  obj := fun i h st b hb => by
    have e : b = it := by simpa using hb
    subst e
    exact ⟨_, st, fun v z => by
      have z' : Data.fields _ = Data.cell v := z
      cases z'⟩
  keep := fun i h h' st k => k it (by simp) _ st
  item := by
    intro X hP hw hK hc i pins s σ H E I hf st hg
    subst hP hw hK
    obtain ⟨f0, f1, f2, f3, f4, f5⟩ := hf it (by simp)
    have W := Walks.range (prog := X.prog) (w := X.w) (I.ok.hd hc) it lo 1 n
    refine W.item i s _ _ hg st fun v h' tk hv st' kk => ?_
    obtain ⟨t, rfl⟩ := hv
    have I1 : Inv X pins σ H { s with heap := h', toks := tk } := I.turned (fun b o hb e => kk b o (by simpa using hb) e) f0 f1 f3 f4 f5
    refine ⟨_, rfl, go_of (s := { s with heap := h', toks := tk }) (n := "range_iterator") st' rfl rfl (by decide) ⟨.int (lo + i), H, I1, ⟨t, ?_⟩, ⟨rfl, rfl⟩, st', fun b hb => (hf b hb).1⟩⟩
    rw [Int.mul_one]
  done := by
    intro X hP hw hK hc i pins s σ H E I hf st hg
    subst hP hw hK
    obtain ⟨f0, f1, f2, f3, f4, f5⟩ := hf it (by simp)
    exact wpAny_pyNext_range_end (I.ok.hd hc) st (by have : n ≤ i := hg; omega) fun h' eb => ⟨rfl, I.turned (t' := s.toks) (fun b o hb e => eb b o hb e) f0 f1 f3 f4 f5⟩
  self := fun _ _ _ _ _ st h => wpAny_pyIter_rangeiter st h
end L2

namespace L2
open PySem PySem.Spec PyProof.Rows
section
variable {X : Cx} {tg : Expr}
def iList (K : PySem.W.Frag) (tl : TE) : TI := fun σ H R => tl σ H fun x H1 => ∃ a, x = .ref a ∧ (∃ xs, SqL K H1 a xs) ∧ R (Itl K a) H1
def iTup (K : PySem.W.Frag) (tl : TE) : TI := fun σ H R => tl σ H fun x H1 => ∃ a, x = .ref a ∧ (∃ xs, SqT K H1 a xs) ∧ R (Itt K a) H1
theorem pi_list {l : Expr} {tl : TE} (hl : PE X l tl) : PI X tg l (iList X.K tl) := by
  intro pins s σ H R I h
  refine thn (hl pins s σ H _ I h) fun v s1 ⟨x, H1, I1, r1, q1⟩ => ?_
  obtain ⟨a, e, ⟨xs, hq⟩, q⟩ := q1
  subst e
  cases r1
  obtain ⟨its, rv, p, hz⟩ := I1.list hq
  refine wpAny_pyIter_list p.isList ?_
  refine ⟨s1.heap.objs.size, [s1.heap.objs.size], _, _, H1, rfl, I1.kept (t' := s1.toks) fun b o e => Heap.get?_push_of_some _ e, turn_list a _, ⟨_, Heap.get?_push_size _ rfl, rfl, rfl⟩, fun b hb => ?_, q⟩
  have e : b = s1.heap.objs.size := by simpa using hb
  subst e
  exact I1.fpOk (Nat.le_refl _) (I1.hok.fresh (Nat.le_refl _))
theorem pi_tup {l : Expr} {tl : TE} (hl : PE X l tl) : PI X tg l (iTup X.K tl) := by
  intro pins s σ H R I h
  refine thn (hl pins s σ H _ I h) fun v s1 ⟨x, H1, I1, r1, q1⟩ => ?_
  obtain ⟨a, e, ⟨xs, hq⟩, q⟩ := q1
  subst e
  cases r1
  obtain ⟨its, rv, p, hz⟩ := I1.tuple hq
  refine wpAny_pyIter_tuple (show s1.heap.IsTuple a its.toArray from p) ?_
  refine ⟨s1.heap.objs.size, [s1.heap.objs.size], _, _, H1, rfl, I1.kept (t' := s1.toks) fun b o e => Heap.get?_push_of_some _ e, turn_tuple a _, ⟨_, Heap.get?_push_size _ rfl, rfl, rfl⟩, fun b hb => ?_, q⟩
  have e : b = s1.heap.objs.size := by simpa using hb
  subst e
  exact I1.fpOk (Nat.le_refl _) (I1.hok.fresh (Nat.le_refl _))
/-- a range object just made, walked -/
theorem range_it {pins : List (Addr × Obj)} {σ : St} {H : Hp} {s : Shared} {R : It → Hp → Prop} {E : Value → Shared → Prop} {lo hi : Int} {t u v : Tok} {tk : Nat} (I : Inv X pins σ H s) (h1 : -(2 ^ 62) ≤ lo) (h2 : lo < 2 ^ 62) (h3 : -(2 ^ 62) ≤ hi) (h4 : hi < 2 ^ 62)
    (q : R (Itr lo (hi - lo).toNat) H) : wpAny (model X.prog X.w) X.A (pyIter (.ref s.heap.objs.size)) (PIE X pins σ tg R) E { s with heap := s.heap.push { cls := .type "range", data := .fields #[.int lo t, .int hi u, .int 1 v] }, toks := tk } := by
  refine wpAny_pyIter_range (IsRange.new ..) (small_one h1 h2 h3 h4) ?_
  have I1 : Inv X pins σ H { s with heap := s.heap.push { cls := .type "range", data := .fields #[.int lo t, .int hi u, .int 1 v] }, toks := tk } := I.kept fun b o e => Heap.get?_push_of_some _ e
  refine ⟨(s.heap.push { cls := .type "range", data := .fields #[.int lo t, .int hi u, .int 1 v] }).objs.size, [(s.heap.push { cls := .type "range", data := .fields #[.int lo t, .int hi u, .int 1 v] }).objs.size], _, _, H, rfl,
    I1.kept (t' := tk) fun b o e => Heap.get?_push_of_some _ e, turn_range _ lo (hi - lo).toNat, ?_, fun b hb => ?_, q⟩
  · have e1 : lo + ((0 : Nat) : Int) * 1 = lo := by simp
    have e2 : (((hi - lo).toNat : Nat) : Int) - ((0 : Nat) : Int) = Builtin.Range.rangeSize lo hi 1 := by rw [rangeSize_one]; split <;> omega
    show IsRangeIter _ _ (lo + ((0 : Nat) : Int) * 1) ((((hi - lo).toNat : Nat) : Int) - ((0 : Nat) : Int)) 1
    rw [e1, e2]
    exact Heap.get?_push_size _ rfl
  · have e : b = (s.heap.push { cls := .type "range", data := .fields #[.int lo t, .int hi u, .int 1 v] }).objs.size := by simpa using hb
    subst e
    exact I1.fpOk (Nat.le_refl _) (I1.hok.fresh (Nat.le_refl _))
def iRng1 (ta : TA) : TI := fun σ H R => ta σ H fun vs H1 => ∃ j : Int, vs = [.int j] ∧ -(2 ^ 62) ≤ j ∧ j < 2 ^ 62 ∧ R (Itr 0 j.toNat) H1
theorem pi_range1 {a : Expr} {ta : TA} {p pos : Pos} (hg : Gl X "range") (hm : X.mg "range" = none) (ha : PA X [a] ta) (hs : starEach [a] X.env = [(false, eval a X.env)] := by rfl) : PI X tg (.Call (.Name "range" p) [a] [] pos) (iRng1 ta) := by
  intro pins s σ H R I h
  refine Call_ (ld_blt I hg hm boot_range (PyProof.Rows.callWith_type1 (thn (ha pos pins s σ H _ I h) fun us s1 ⟨vs, H1, I1, r1, q1⟩ => ?_) hs rfl))
  obtain ⟨j, e, q1, q2, q⟩ := q1
  subst e
  cases r1 with
  | cons r rr =>
    cases rr
    obtain ⟨t, rfl⟩ := r
    exact call_range_1 (range_it I1 (by omega) (by omega) q1 q2 (by simpa using q))
/-! ### for -/
/-- W: the invariant by the turn and a measure; N: what the body is to reach -/
def tFor (wi : TI) (g : TG) (tb : TS) : TS := fun D σ H => wi σ H fun J H1 => ∃ W : Nat → Nat → St → Hp → Prop, (∃ m, W 0 m σ H1) ∧ ∀ i m σ H, W i m σ H →
  (J.stop i H ∧ D.nx σ H) ∨ (J.go i H ∧ ∃ N : St → Hp → Prop, (∀ σ' H', N σ' H' → ∃ m', m' < m ∧ W (i + 1) m' σ' H') ∧ ∀ x H', J.yld i H x H' → g x σ H' fun σ2 H2 => tb { D with nx := N, ct := N, bk := D.nx } σ2 H2)
/-- the records at fp as they stand -/
def pinsAt (fp : List Addr) (h : Heap) : List (Addr × Obj) := fp.filterMap fun b => (h.get? b).map fun o => (b, o)
theorem mem_pinsAt {fp : List Addr} {h : Heap} {b : Addr} {o : Obj} (hb : b ∈ fp) (e : h.get? b = some o) : (b, o) ∈ pinsAt fp h := List.mem_filterMap.mpr ⟨b, hb, by rw [e]; rfl⟩
theorem of_pinsAt {fp : List Addr} {h : Heap} {p : Addr × Obj} (hp : p ∈ pinsAt fp h) : p.1 ∈ fp ∧ h.get? p.1 = some p.2 := by
  obtain ⟨b, hb, e⟩ := List.mem_filterMap.mp hp
  cases q : h.get? b with
  | none => rw [q] at e; cases e
  | some o =>
    rw [q] at e
    have e' : (b, o) = p := Option.some.inj e
    subst e'
    exact ⟨hb, q⟩
theorem Inv.pinned {pins : List (Addr × Obj)} {σ : St} {H : Hp} {s : Shared} {fp : List Addr} (I : Inv X pins σ H s) (hf : ∀ b ∈ fp, FpOk X pins H b) (ho : ∀ b ∈ fp, ∃ o, s.heap.get? b = some o ∧ ∀ v, o.data ≠ .cell v) : Inv X (pins ++ pinsAt fp s.heap) σ H s :=
  I.pins_of fun p hp => (List.mem_append.mp hp).elim (fun z => I.pin p (List.mem_append_right _ z)) fun z => by
    obtain ⟨hb, e⟩ := of_pinsAt z
    obtain ⟨f0, f1, f2, _⟩ := hf p.1 hb
    obtain ⟨o, e', d⟩ := ho p.1 hb
    rw [e] at e'; cases e'
    exact ⟨e, f0, f1, f2, d⟩
theorem Inv.unpinned {pins pl : List (Addr × Obj)} {σ : St} {H : Hp} {s : Shared} (I : Inv X (pins ++ pl) σ H s) : Inv X pins σ H s := I.pins_of fun p hp => I.pin p (List.mem_append_right _ (List.mem_append_left _ hp))
theorem ps_for {iter : Expr} {body : List Stmt} {wi : TI} {g : TG} {tb : TS} {pos : Pos} (hp : PassesOwn (model X.prog X.w) X.A X.env X.xe) (hc : X.calm = true) (hi : PI X tg iter wi) (hg : PG X tg g) (hb : PSs X body tb)
    (hs : ∀ x, foldedSetIterable iter X.env x = pure x := by intro _; rfl) : PS X (.For tg iter body [] pos) (tFor wi g tb) := by
  intro pins s σ H D I h
  refine wpAny_For (thn (hi pins s σ H _ I h) fun v s1 h1 => thn h1 fun itv s2 h2 => ?_) hs
  obtain ⟨it, fp, tn, J, H2, e, I2, T, st2, f2, W, ⟨m0, w0⟩, turn⟩ := h2
  subst e
  -- what stays true of the iterator's objects through the loop
  have stat : ∀ {H' : Hp}, (∀ b ∈ fp, H' b = none) → ∀ b ∈ fp, FpOk X pins H' b := fun hn b hb => ⟨hn b hb, (f2 b hb).2⟩
  refine codeAny_forLoop_any (fun n s' => ∃ i σ' H', Inv X pins σ' H' s' ∧ tn i s'.heap ∧ (∀ b ∈ fp, H' b = none) ∧ W i n σ' H') ?_ m0 ⟨0, σ, H2, I2, st2, fun b hb => (f2 b hb).1, w0⟩
  rintro n s3 ⟨i, σ3, H3, I3, st3, fr3, w3⟩
  rcases turn i n σ3 H3 w3 with ⟨stop, qn⟩ | ⟨go, N, hN, step⟩
  · refine wpAny_passesOwn hp (thn (T.done X rfl rfl rfl hc i pins s3 σ3 H3 X.xe I3 (stat fr3) st3 stop) fun r s4 ⟨hr, I4⟩ => ?_)
    subst hr
    exact wpAny_execs_nil ⟨σ3, H3, I4, qn⟩
  · refine wpAny_passesOwn hp (thn (T.item X rfl rfl rfl hc i pins s3 σ3 H3 X.xe I3 (stat fr3) st3 go) fun r s4 ⟨u, hr, h4⟩ => ?_)
    subst hr
    refine wpAny_passesOwn hp (thn h4 fun _ s5 ⟨x, H5, I5, r5, y5, st5, fr5⟩ => ?_)
    have I5' := I5.pinned (stat fr5) (T.obj _ _ st5)
    refine wpAny_passesOwn hp (thn (hg _ s5 σ3 H5 x u _ I5' r5 (step x H5 y5)) fun _ s6 ⟨σ6, H6, I6, q6⟩ => ?_)
    refine wpAny_passesOwn hp (thn (hb _ s6 σ6 H6 _ I6 q6) fun f s7 q7 => ?_)
    have again : ∀ {σ7 : St} {H7 : Hp}, Inv X (pins ++ pinsAt fp s5.heap) σ7 H7 s7 → N σ7 H7 → ∃ m, m < n ∧ ∃ i σ' H', Inv X pins σ' H' s7 ∧ tn i s7.heap ∧ (∀ b ∈ fp, H' b = none) ∧ W i m σ' H' := fun {σ7 H7} I7 n7 => by
      obtain ⟨m', hm, w7⟩ := hN σ7 H7 n7
      refine ⟨m', hm, i + 1, σ7, H7, I7.unpinned, T.keep _ _ _ st5 fun b hb o e => (I7.pin (b, o) (List.mem_append_right _ (List.mem_append_right _ (mem_pinsAt hb e)))).1, fun b hb => ?_, w7⟩
      obtain ⟨o, e, d⟩ := T.obj _ _ st5 b hb
      exact (I7.pin (b, o) (List.mem_append_right _ (List.mem_append_right _ (mem_pinsAt hb e)))).2.1
    cases f with
    | next => obtain ⟨σ7, H7, I7, n7⟩ := q7; exact again I7 n7
    | cont => obtain ⟨σ7, H7, I7, n7⟩ := q7; exact again I7 n7
    | brk => obtain ⟨σ7, H7, I7, q7⟩ := q7; exact ⟨σ7, H7, I7.unpinned, q7⟩
    | ret v => obtain ⟨x7, σ7, H7, I7, r7, q7⟩ := q7; exact ⟨x7, σ7, H7, I7.unpinned, r7, q7⟩
end

/-! ### the forms one uses -/
/-- over a list that the body leaves as it is -/
theorem for_list {K : PySem.W.Frag} {a : Addr} {xs : List V} {g : TG} {tb : TS} {D : Ends} {σ : St} {H : Hp} (Pv : Nat → St → Hp → Prop) (h0 : Pv 0 σ H) (hl : ∀ i σ H, i ≤ xs.length → Pv i σ H → SqL K H a xs)
    (hs : ∀ i x σ H, xs[i]? = some x → Pv i σ H → g x σ H fun σ2 H2 => tb { D with nx := Pv (i + 1), ct := Pv (i + 1), bk := D.nx } σ2 H2) (hd : ∀ σ H, Pv xs.length σ H → D.nx σ H) :
    ∃ W : Nat → Nat → St → Hp → Prop, (∃ m, W 0 m σ H) ∧ ∀ i m σ H, W i m σ H →
      ((Itl K a).stop i H ∧ D.nx σ H) ∨ ((Itl K a).go i H ∧ ∃ N : St → Hp → Prop, (∀ σ' H', N σ' H' → ∃ m', m' < m ∧ W (i + 1) m' σ' H') ∧ ∀ x H', (Itl K a).yld i H x H' → g x σ H' fun σ2 H2 => tb { D with nx := N, ct := N, bk := D.nx } σ2 H2) := by
  refine ⟨fun i m σ H => m = xs.length - i ∧ i ≤ xs.length ∧ Pv i σ H, ⟨xs.length, by simp, Nat.zero_le _, h0⟩, ?_⟩
  rintro i m σ H ⟨rfl, hi, p⟩
  have q := hl i σ H hi p
  by_cases hlt : i < xs.length
  · refine .inr ⟨⟨xs, xs[i], q, by simp [hlt]⟩, Pv (i + 1), fun σ' H' p' => ⟨xs.length - (i + 1), by omega, rfl, hlt, p'⟩, fun x H' y => ?_⟩
    obtain ⟨e, y⟩ := y
    subst e
    exact hs i x σ _ (y xs q) p
  · have e : i = xs.length := by omega
    subst e
    exact .inl ⟨⟨xs, q, Nat.le_refl _⟩, hd σ H p⟩
theorem for_range {lo : Int} {n : Nat} {g : TG} {tb : TS} {D : Ends} {σ : St} {H : Hp} (Pv : Nat → St → Hp → Prop) (h0 : Pv 0 σ H)
    (hs : ∀ i σ H, i < n → Pv i σ H → g (.int (lo + i)) σ H fun σ2 H2 => tb { D with nx := Pv (i + 1), ct := Pv (i + 1), bk := D.nx } σ2 H2) (hd : ∀ σ H, Pv n σ H → D.nx σ H) :
    ∃ W : Nat → Nat → St → Hp → Prop, (∃ m, W 0 m σ H) ∧ ∀ i m σ H, W i m σ H →
      ((Itr lo n).stop i H ∧ D.nx σ H) ∨ ((Itr lo n).go i H ∧ ∃ N : St → Hp → Prop, (∀ σ' H', N σ' H' → ∃ m', m' < m ∧ W (i + 1) m' σ' H') ∧ ∀ x H', (Itr lo n).yld i H x H' → g x σ H' fun σ2 H2 => tb { D with nx := N, ct := N, bk := D.nx } σ2 H2) := by
  refine ⟨fun i m σ H => m = n - i ∧ i ≤ n ∧ Pv i σ H, ⟨n, by simp, Nat.zero_le _, h0⟩, ?_⟩
  rintro i m σ H ⟨rfl, hi, p⟩
  by_cases hlt : i < n
  · refine .inr ⟨hlt, Pv (i + 1), fun σ' H' p' => ⟨n - (i + 1), by omega, rfl, hlt, p'⟩, fun x H' y => ?_⟩
    obtain ⟨e, y⟩ := y
    subst e y
    exact hs i σ _ hlt p
  · have e : i = n := by omega
    subst e
    exact .inl ⟨Nat.le_refl _, hd σ H p⟩
end L2

namespace L2
open PySem PySem.Spec PyProof.Rows

abbrev R2 := V → V → Hp → VK → Prop
/-- a two-place operation on values: f is binaryOp op, inplaceOp op or compareOp op -/
def OpR (X : Cx) (f : Value → Value → Sem Value) (r : R2) : Prop :=
  ∀ (pins : List (Addr × Obj)) (s : Shared) (σ : St) (H : Hp) (x y : V) (v u : Value) (Q : VK), Inv X pins σ H s → RelV x v → RelV y u → r x y H Q →
    wpAny (model X.prog X.w) X.A (f v u) (EP X pins σ Q) X.xe s
/-- a one-place operation -/
def UnR (X : Cx) (f : Value → Sem Value) (r : V → Hp → VK → Prop) : Prop :=
  ∀ (pins : List (Addr × Obj)) (s : Shared) (σ : St) (H : Hp) (x : V) (v : Value) (Q : VK), Inv X pins σ H s → RelV x v → r x H Q →
    wpAny (model X.prog X.w) X.A (f v) (EP X pins σ Q) X.xe s
/-- a call of a value that is known (a builtin, a type) with values -/
def CallR (X : Cx) (f : Value) (r : List V → Hp → VK → Prop) : Prop :=
  ∀ (pins : List (Addr × Obj)) (s : Shared) (σ : St) (H : Hp) (xs : List V) (us : List Value) (Q : VK), Inv X pins σ H s → Vals xs us → r xs H Q →
    wpAny (model X.prog X.w) X.A (call f us) (EP X pins σ Q) X.xe s
def tOp (r : R2) (ta tb : TE) : TE := fun σ H Q => ta σ H fun x H1 => tb σ H1 fun y H2 => r x y H2 Q
def tUn (r : V → Hp → VK → Prop) (ta : TE) : TE := fun σ H Q => ta σ H fun x H1 => r x H1 Q
/-- ints in, under C, and a value out -/
def rI (C : Int → Int → Prop) (g : Int → Int → V) : R2 := fun x y H Q => ∃ i j, x = .int i ∧ y = .int j ∧ C i j ∧ Q (g i j) H
def rI0 (g : Int → Int → V) : R2 := fun x y H Q => ∃ i j, x = .int i ∧ y = .int j ∧ Q (g i j) H
def rU (g : Int → V) : V → Hp → VK → Prop := fun x H Q => ∃ i, x = .int i ∧ Q (g i) H

section
variable {X : Cx} {a b c : Expr} {ta tb tc : TE} {pos : Pos}

theorem binT (ha : PE X a ta) (hb : PE X b tb) {pins : List (Addr × Obj)} {s : Shared} {σ : St} {H : Hp} {R : V → V → Hp → Prop} (I : Inv X pins σ H s)
    (h : ta σ H fun x H1 => tb σ H1 fun y H2 => R x y H2) {Q : Value → Shared → Prop} {f : Value → Value → Sem Value}
    (hf : ∀ v u s2 x y H2, Inv X pins σ H2 s2 → RelV x v → RelV y u → R x y H2 → wpAny (model X.prog X.w) X.A (f v u) Q X.xe s2) :
    wpAny (model X.prog X.w) X.A (eval a X.env) (fun v s₁ => wpAny (model X.prog X.w) X.A (eval b X.env) (fun u s₂ => wpAny (model X.prog X.w) X.A (f v u) Q X.xe s₂) X.xe s₁) X.xe s := by
  refine thn (ha pins s σ H _ I h) fun v s1 ⟨x, H1, I1, r1, q1⟩ => ?_
  refine thn (hb pins s1 σ H1 _ I1 q1) fun u s2 ⟨y, H2, I2, r2, q2⟩ => ?_
  exact hf v u s2 x y H2 I2 r1 r2 q2

theorem pe_op {op : Operator} {r : R2} (ho : OpR X (binaryOp op) r) (ha : PE X a ta) (hb : PE X b tb) : PE X (.BinOp a op b pos) (tOp r ta tb) := by
  intro pins s σ H Q I h
  exact wpAny_BinOp (binT ha hb I h fun v u s2 x y H2 I2 rx ry q => ho pins s2 σ H2 x y v u Q I2 rx ry q)
theorem pe_un {op : UnaryOp} {r : V → Hp → VK → Prop} (ho : UnR X (unaryOp op) r) (ha : PE X a ta) : PE X (.UnaryOp op a pos) (tUn r ta) := by
  intro pins s σ H Q I h
  exact UnaryOp_ (thn (ha pins s σ H _ I h) fun v s1 ⟨x, H1, I1, r1, q1⟩ => ho pins s1 σ H1 x v Q I1 r1 q1)
/-! ### ints -/
theorem opI {f : Value → Value → Sem Value} {C : Int → Int → Prop} {g : Int → Int → Int}
    (rule : ∀ (i j : Int) (t u : Tok) (s : Shared) (Q : Value → Shared → Prop) (E : Value → Shared → Prop), C i j → Q (.int (g i j) s.toks) { s with toks := s.toks + 1 } → wpAny (model X.prog X.w) X.A (f (.int i t) (.int j u)) Q E s) :
    OpR X f (rI C fun i j => .int (g i j)) := by
  intro pins s σ H x y v u Q I rx ry h
  obtain ⟨i, j, rfl, rfl, hc, q⟩ := h
  obtain ⟨t, rfl⟩ := rx
  obtain ⟨t', rfl⟩ := ry
  exact rule i j t t' s _ _ hc ⟨.int (g i j), H, I.tok _, ⟨_, rfl⟩, q⟩
theorem opI0 {f : Value → Value → Sem Value} {g : Int → Int → Int}
    (rule : ∀ (i j : Int) (t u : Tok) (s : Shared) (Q : Value → Shared → Prop) (E : Value → Shared → Prop), Q (.int (g i j) s.toks) { s with toks := s.toks + 1 } → wpAny (model X.prog X.w) X.A (f (.int i t) (.int j u)) Q E s) :
    OpR X f (rI0 fun i j => .int (g i j)) := by
  intro pins s σ H x y v u Q I rx ry h
  obtain ⟨i, j, rfl, rfl, q⟩ := h
  obtain ⟨t, rfl⟩ := rx
  obtain ⟨t', rfl⟩ := ry
  exact rule i j t t' s _ _ ⟨.int (g i j), H, I.tok _, ⟨_, rfl⟩, q⟩
theorem opB0 {f : Value → Value → Sem Value} {g : Int → Int → Bool}
    (rule : ∀ (i j : Int) (t u : Tok) (s : Shared) (Q : Value → Shared → Prop) (E : Value → Shared → Prop), Q (.bool (g i j)) s → wpAny (model X.prog X.w) X.A (f (.int i t) (.int j u)) Q E s) :
    OpR X f (rI0 fun i j => .bl (g i j)) := by
  intro pins s σ H x y v u Q I rx ry h
  obtain ⟨i, j, rfl, rfl, q⟩ := h
  obtain ⟨t, rfl⟩ := rx
  obtain ⟨t', rfl⟩ := ry
  exact rule i j t t' s _ _ ⟨.bl (g i j), H, I, rfl, q⟩

def CDiv (i j : Int) : Prop := 0 < j ∧ j < 1073741824
def CMul (i j : Int) : Prop := (-(2 ^ 64) < i ∧ i < 2 ^ 64) ∨ (-(2 ^ 64) < j ∧ j < 2 ^ 64)
theorem CMul.ok {i j : Int} (h : CMul i j) : IntMulOk i j := by
  rcases h with ⟨h1, h2⟩ | ⟨h1, h2⟩
  · exact .of_left (intBits_le_64 h1 h2)
  · exact .of_right (intBits_le_64 h1 h2)
theorem op_add : OpR X (binaryOp .Add) (rI0 fun i j => .int (i + j)) := opI0 fun _ _ _ _ _ _ _ q => add_int q
theorem op_sub : OpR X (binaryOp .Sub) (rI0 fun i j => .int (i - j)) := opI0 fun _ _ _ _ _ _ _ q => sub_int q
theorem op_mul : OpR X (binaryOp .Mult) (rI CMul fun i j => .int (i * j)) := opI fun _ _ _ _ _ _ _ hc q => mul_int q hc.ok
/-- // by a positive divisor -/
theorem op_fdiv : OpR X (binaryOp .FloorDiv) (rI CDiv fun i j => .int (i / j)) := opI fun i j _ _ _ _ _ hc q => by
  have h1 : (0 : Int) < j := hc.1
  have h2 : j < 1073741824 := hc.2
  exact floordiv_int (by omega) (by rw [Int.fdiv_eq_ediv_of_nonneg i (by omega)]; exact q) (.inl (PyProof.noPylong_small (by omega)))
/-- % by a positive divisor of any size -/
theorem op_mod : OpR X (binaryOp .Mod) (rI (fun _ j => 0 < j) fun i j => .int (i % j)) := opI fun i j _ _ _ _ _ hc q => by
  have h1 : (0 : Int) < j := hc
  exact mod_int' (by omega) (by rw [Int.fmod_eq_emod_of_nonneg i (by omega)]; exact q)
theorem unI {f : Value → Sem Value} {g : Int → Int}
    (rule : ∀ (i : Int) (t : Tok) (s : Shared) (Q : Value → Shared → Prop) (E : Value → Shared → Prop), Q (.int (g i) s.toks) { s with toks := s.toks + 1 } → wpAny (model X.prog X.w) X.A (f (.int i t)) Q E s) :
    UnR X f (rU fun i => .int (g i)) := by
  intro pins s σ H x v Q I rx h
  obtain ⟨i, rfl, q⟩ := h
  obtain ⟨t, rfl⟩ := rx
  exact rule i t s _ _ ⟨.int (g i), H, I.tok _, ⟨_, rfl⟩, q⟩
theorem un_neg : UnR X (unaryOp .USub) (rU fun i => .int (-i)) := unI fun _ _ _ _ _ q => neg_int q
/-! ### bools among ints: n += (a < b) -/
end

/-! ### comparisons -/
/-- the scalars that == tells apart as data does -/
def scal : V → V → Bool
  | .non, .non => true | .non, .int _ => true | .int _, .non => true | .non, .bl _ => true | .bl _, .non => true | .non, .str _ => true | .str _, .non => true
  | .int _, .int _ => true | .bl _, .bl _ => true | .str _, .str _ => true | .byt _, .byt _ => true
  | .int _, .str _ => true | .str _, .int _ => true | .bl _, .str _ => true | .str _, .bl _ => true
  | _, _ => false
def rEq : R2 := fun x y H Q => scal x y = true ∧ Q (.bl (decide (x = y))) H
def rNe : R2 := fun x y H Q => scal x y = true ∧ Q (.bl (!decide (x = y))) H

theorem dec_int {i j : Int} : decide (V.int i = V.int j) = (i == j) := by
  rw [Bool.eq_iff_iff]
  simp
theorem dec_bl {i j : Bool} : decide (V.bl i = V.bl j) = (i == j) := by
  rw [Bool.eq_iff_iff]
  simp
theorem dec_str {i j : Str} : decide (V.str i = V.str j) = (i == j) := by
  rw [Bool.eq_iff_iff]
  simp
theorem dec_byt {i j : Array UInt8} : decide (V.byt i = V.byt j) = (i.toList == j.toList) := by
  rw [Bool.eq_iff_iff]
  cases i
  cases j
  simp

section
variable {X : Cx} {a b c : Expr} {ta tb tc : TE} {pos : Pos}
theorem fin_bl {pins : List (Addr × Obj)} {σ : St} {H : Hp} {s : Shared} {Q : VK} {k k' : Bool} (I : Inv X pins σ H s) (q : Q (.bl k) H) (e : k = k') : EP X pins σ Q (.bool k') s := by
  subst e
  exact ⟨.bl k, H, I, rfl, q⟩
theorem op_eq : OpR X (compareOp .Eq) rEq := by
  intro pins s σ H x y v u Q I rx ry h
  obtain ⟨hs, q⟩ := h
  cases x with
  | non =>
    cases rx
    cases y with
    | non => cases ry; exact PySem.EqNone.eq_none_none (fin_bl I q (by simp))
    | bl j => cases ry; exact PySem.EqNone.eq_none_bool (fin_bl I q (by simp))
    | int j => obtain ⟨t', rfl⟩ := ry; exact PySem.EqNone.eq_none_int (fin_bl I q (by simp))
    | str j => obtain ⟨t', rfl⟩ := ry; exact PySem.EqNone.eq_none_str (fin_bl I q (by simp))
    | _ => exact absurd (show false = true from hs) Bool.false_ne_true
  | bl i =>
    cases rx
    cases y with
    | non => cases ry; exact PySem.EqNone.eq_bool_none (fin_bl I q (by simp))
    | bl j => cases ry; exact eq_bool (fin_bl I q dec_bl)
    | str j => obtain ⟨t', rfl⟩ := ry; exact PySem.EqMixed.eq_bool_str (fin_bl I q (by simp))
    | _ => exact absurd (show false = true from hs) Bool.false_ne_true
  | int i =>
    obtain ⟨t, rfl⟩ := rx
    cases y with
    | non => cases ry; exact PySem.EqNone.eq_int_none (fin_bl I q (by simp))
    | int j => obtain ⟨t', rfl⟩ := ry; exact eq_int (fin_bl I q dec_int)
    | str j => obtain ⟨t', rfl⟩ := ry; exact PySem.EqMixed.eq_int_str (fin_bl I q (by simp))
    | _ => exact absurd (show false = true from hs) Bool.false_ne_true
  | str i =>
    obtain ⟨t, rfl⟩ := rx
    cases y with
    | non => cases ry; exact PySem.EqNone.eq_str_none (fin_bl I q (by simp))
    | bl j => cases ry; exact PySem.EqMixed.eq_str_bool (fin_bl I q (by simp))
    | int j => obtain ⟨t', rfl⟩ := ry; exact PySem.EqMixed.eq_str_int (fin_bl I q (by simp))
    | str j => obtain ⟨t', rfl⟩ := ry; exact eq_str (fin_bl I q dec_str)
    | _ => exact absurd (show false = true from hs) Bool.false_ne_true
  | byt i =>
    obtain ⟨t, rfl⟩ := rx
    cases y with
    | byt j => obtain ⟨t', rfl⟩ := ry; exact PySem.W.eq_bytes (fin_bl I q dec_byt)
    | _ => exact absurd (show false = true from hs) Bool.false_ne_true
  | _ => cases y <;> exact absurd (show false = true from hs) Bool.false_ne_true
theorem op_ne : OpR X (compareOp .NotEq) rNe := by
  intro pins s σ H x y v u Q I rx ry h
  obtain ⟨hs, q⟩ := h
  cases x with
  | non =>
    cases rx
    cases y with
    | non => cases ry; exact PySem.EqNone.ne_none_none (fin_bl I q (by simp))
    | bl j => cases ry; exact PySem.EqNone.ne_none_bool (fin_bl I q (by simp))
    | int j => obtain ⟨t', rfl⟩ := ry; exact PySem.EqNone.ne_none_int (fin_bl I q (by simp))
    | str j => obtain ⟨t', rfl⟩ := ry; exact PySem.EqNone.ne_none_str (fin_bl I q (by simp))
    | _ => exact absurd (show false = true from hs) Bool.false_ne_true
  | bl i =>
    cases rx
    cases y with
    | non => cases ry; exact PySem.EqNone.ne_bool_none (fin_bl I q (by simp))
    | bl j => cases ry; exact ne_bool (fin_bl I q (congrArg not dec_bl))
    | str j => obtain ⟨t', rfl⟩ := ry; exact PySem.EqMixed.ne_bool_str (fin_bl I q (by simp))
    | _ => exact absurd (show false = true from hs) Bool.false_ne_true
  | int i =>
    obtain ⟨t, rfl⟩ := rx
    cases y with
    | non => cases ry; exact PySem.EqNone.ne_int_none (fin_bl I q (by simp))
    | int j => obtain ⟨t', rfl⟩ := ry; exact ne_int (fin_bl I q (congrArg not dec_int))
    | str j => obtain ⟨t', rfl⟩ := ry; exact PySem.EqMixed.ne_int_str (fin_bl I q (by simp))
    | _ => exact absurd (show false = true from hs) Bool.false_ne_true
  | str i =>
    obtain ⟨t, rfl⟩ := rx
    cases y with
    | non => cases ry; exact PySem.EqNone.ne_str_none (fin_bl I q (by simp))
    | bl j => cases ry; exact PySem.EqMixed.ne_str_bool (fin_bl I q (by simp))
    | int j => obtain ⟨t', rfl⟩ := ry; exact PySem.EqMixed.ne_str_int (fin_bl I q (by simp))
    | str j => obtain ⟨t', rfl⟩ := ry; exact ne_str (fin_bl I q (congrArg not dec_str))
    | _ => exact absurd (show false = true from hs) Bool.false_ne_true
  | byt i =>
    obtain ⟨t, rfl⟩ := rx
    cases y with
    | byt j => obtain ⟨t', rfl⟩ := ry; exact PySem.W.ne_bytes (fin_bl I q (congrArg not dec_byt))
    | _ => exact absurd (show false = true from hs) Bool.false_ne_true
  | _ => cases y <;> exact absurd (show false = true from hs) Bool.false_ne_true

theorem op_lt : OpR X (compareOp .Lt) (rI0 fun i j => .bl (decide (i < j))) := opB0 fun _ _ _ _ _ _ _ q => lt_int q
theorem op_le : OpR X (compareOp .LtE) (rI0 fun i j => .bl (decide (i ≤ j))) := opB0 fun _ _ _ _ _ _ _ q => le_int q
theorem op_gt : OpR X (compareOp .Gt) (rI0 fun i j => .bl (decide (j < i))) := opB0 fun _ _ _ _ _ _ _ q => gt_int q
theorem nomark (b : Expr) {op : CmpOp} (h : op ≠ .In := by decide) (h2 : op ≠ .NotIn := by decide) : behindInMarks op b = false := by
  have e1 : (op == CmpOp.In) = false := by cases op <;> first | rfl | exact absurd rfl h
  have e2 : (op == CmpOp.NotIn) = false := by cases op <;> first | rfl | exact absurd rfl h2
  cases b <;> simp [behindInMarks, e1, e2]
/-- a comparison as a value; hm: nomark b, or (for in, not in) by with_unfolding_all rfl -/
theorem pe_cmpR {op : CmpOp} {r : R2} (ho : OpR X (compareOp op) r) (ha : PE X a ta) (hb : PE X b tb) (hm : behindInMarks op b = false) : PE X (.Compare a [op] [b] pos) (tOp r ta tb) := by
  intro pins s σ H Q I h
  exact wpAny_Compare1 (binT ha hb I h fun v u s2 x y H2 I2 rx ry q => ho pins s2 σ H2 x y v u Q I2 rx ry q) hm
/-- a reading of a value as a test -/
def tTest (t : TE) : TT := fun σ H Q => t σ H fun x H' => ∃ k, x = .bl k ∧ Q k H'
theorem pt_cmpR {op : CmpOp} {r : R2} (ho : OpR X (compareOp op) r) (ha : PE X a ta) (hb : PE X b tb) (hm : behindInMarks op b = false) : PT X (.Compare a [op] [b] pos) (tTest (tOp r ta tb)) := by
  intro pins s σ H Q I h
  refine wpAny_isTrue_Compare1 (thn (ha pins s σ H _ I h) fun v s1 ⟨x, H1, I1, r1, q1⟩ => thn (hb pins s1 σ H1 _ I1 q1) fun u s2 ⟨y, H2, I2, r2, q2⟩ =>
    thn (ho pins s2 σ H2 x y v u _ I2 r1 r2 q2) fun c s3 ⟨z, H3, I3, r3, k, e, q3⟩ => ?_) hm
  subst e
  cases r3
  exact wpAny_truthy_bool ⟨H3, I3, q3⟩
/-! ### truth -/
theorem line63 : (sizeLine : Nat) < 2 ^ 63 := by rw [sizeLine_eq]; decide
/-! ### strs and bytes -/
theorem op_add_str : OpR X (binaryOp .Add) (fun x y H Q => ∃ i j, x = .str i ∧ y = .str j ∧ i.length + j.length ≤ sizeLine ∧ Q (.str (i ++ j)) H) := by
  intro pins s σ H x y v u Q I rx ry h
  obtain ⟨i, j, rfl, rfl, hz, q⟩ := h
  obtain ⟨t, rfl⟩ := rx
  obtain ⟨t', rfl⟩ := ry
  exact add_str (fun t' tk => ⟨.str (i ++ j), H, I.tok _, ⟨_, rfl⟩, q⟩) hz
/-! ### scalar builtins, by CallR -/
theorem vals1 {x : V} {us : List Value} (r : Vals [x] us) : ∃ u, us = [u] ∧ RelV x u := by
  cases r with
  | cons r1 r2 => cases r2; exact ⟨_, rfl, r1⟩
theorem vals2 {x y : V} {us : List Value} (r : Vals [x, y] us) : ∃ u w', us = [u, w'] ∧ RelV x u ∧ RelV y w' := by
  cases r with
  | cons r1 r2 =>
    cases r2 with
    | cons r3 r4 => cases r4; exact ⟨_, _, rfl, r1, r3⟩
theorem call_str_int : CallR X (.type "str") (fun xs H Q => ∃ i, xs = [.int i] ∧ i.natAbs.log2 < 1920 ∧ Q (.str (toString i)) H) := by
  intro pins s σ H xs us Q I r h
  obtain ⟨i, rfl, hz, q⟩ := h
  obtain ⟨u, rfl, t, rfl⟩ := vals1 r
  exact PySem.P.str_of_int hz ⟨.str _, H, I.tok _, ⟨_, rfl⟩, q⟩
end
end L2

namespace L2
open PySem PySem.Spec PyProof.Rows

/-! ### an instance, its attributes a map -/
structure ObjM (h : Heap) (x dx C : Addr) (mA : Str → Option Value) : Prop where
  obj : h.get? x = some (PySem.W.instObj C dx)
  ns : h.Ns1 dx mA
  ne : dx ≠ x

theorem lookIn_ns {h : Heap} {dx : Addr} {mA : Str → Option Value} (n : h.Ns1 dx mA) : ∃ od, h.get? dx = some od ∧ ∀ name, PySem.W.lookIn name od = some (mA name) := by
  obtain ⟨o, es, ep, ho, hd, hk, _, hm⟩ := n
  refine ⟨o, ho, fun name => ?_⟩
  have e := hm name
  unfold nsFind findBy at e
  rw [← Array.find?_toList] at e
  unfold PySem.W.lookIn
  rw [hd]
  dsimp only
  split
  · rename_i y q
    rw [q] at e
    exact congrArg some e
  · rename_i q
    rw [q] at e
    have a : es.toList.any (·.refKey) = false := by
      rw [List.any_eq_false]
      intro y hy
      obtain ⟨z, t, hkey⟩ := hk y (Array.mem_toList_iff.mp hy)
      simp [DictEntry.refKey, hkey]
    have a' : ¬ es.toList.any (·.refKey) = true := by rw [a]; exact Bool.false_ne_true
    rw [if_neg a']
    exact congrArg some e

theorem ObjM.look {h : Heap} {x dx C : Addr} {mA : Str → Option Value} (I : ObjM h x dx C mA) : ∃ od, PySem.W.InstAt h x (PySem.W.instObj C dx) C (some od) ∧ ∀ name, PySem.W.lookIn name od = some (mA name) :=
  let ⟨od, ho, hl⟩ := lookIn_ns I.ns
  ⟨od, ⟨I.obj, rfl, rfl, ho⟩, hl⟩

section
variable {prog : Program} {w : World} {A : Around} {E : Value → Shared → Prop} {s : Shared} {K : PySem.W.Frag} {x dx C f : Addr} {mA : Str → Option Value} {name : Str} {v : Value}

theorem get_map {expr : Bool} {Q : Value → Shared → Prop} (X : K.In s.heap) (I : ObjM s.heap x dx C mA) (hg : PySem.W.plainGet K C name = true) (hh : PySem.W.hasDictIn K C = true)
    (ha : PySem.W.findIn K (.ref C) name = some none) (hv : mA name = some v) (hv' : PySem.W.handedIn v = true) (h : Q v { s with toks := s.toks + 1 }) :
    wpAny (model prog w) A (getAttr (.ref x) name expr) Q E s := by
  obtain ⟨od, J, hl⟩ := I.look
  exact PySem.W.get_value X J (PySem.W.plainGet_of hg).1 (PySem.W.findObj_own hh ha rfl (by rw [hl, hv])) hv' h

theorem get_meth {pl : Sem Bool} {Q : Value × List Value → Shared → Prop} (X : K.In s.heap) (I : ObjM s.heap x dx C mA) (hg : PySem.W.plainGet K C name = true)
    (hf : PySem.W.findIn K (.ref C) name = some (some (.ref f))) (ht : PySem.W.isFn K (.ref f) = true) (hv : mA name = none) (h : Q (.ref f, [.ref x]) s) :
    wpAny (model prog w) A (getMethod (.ref x) name pl) Q E s := by
  obtain ⟨od, J, hl⟩ := I.look
  exact PySem.W.method_fn X J (PySem.W.plainGet_of hg).1 (PySem.W.plainGet_of hg).2 hf (beq_iff_eq.mp ht) (by show (PySem.W.lookIn name od).map (·.isSome) = some false; rw [hl, hv]; rfl) h

theorem set_map {ns : List Str} {Q : Unit → Shared → Prop} (X : K.In s.heap) (I : ObjM s.heap x dx C mA)
    (hs : PySem.W.findIn K (.ref C) "__setattr__" = some (some (.builtin "object.__setattr__"))) (hp : PySem.W.plainOver K C = true) (ht : PySem.W.takerIn K C name = some none) (hh : PySem.W.hasDictIn K C = true)
    (hw : PySem.Within mA ns) (hsz : ns.length ≤ sizeLine)
    (h : ∀ h', ObjM h' x dx C (fun y => if y = name then some v else mA y) → Heap.SameBut dx s.heap h' → Q () { s with heap := h', toks := s.toks + 2 }) :
    wpAny (model prog w) A (setAttr (.ref x) name v) Q E s := by
  obtain ⟨od, J, hl⟩ := I.look
  refine PySem.W.set_plain X J hs (PySem.W.osa_open (s := { s with toks := s.toks + 1 }) (r := none) X J hp ht fun b => ?_)
  obtain ⟨cd, hc, hd'⟩ := PySem.W.any_some hh
  have hx : s.heap.get? x = some ⟨.ref C, some dx, .plain, #[]⟩ := I.obj
  refine wpAny_bind (wpAny_pure (wpAny_bind (wpAny_bind (wpAny_loadPart hx (wpAny_bind (PySem.W.Looks.here (s := { s with toks := s.toks + 1 }) (PySem.W.looks_clsIn X hc) ?_))))))
  rw [hd']
  refine wpAny_pure (a := some dx) (wpAny_bind (wpAny_pure (wpAny_bind ?_)))
  refine wpAny_nsSet1 (s := { s with toks := s.toks + 1 }) I.ns fun h' hn2 hs2 => ?_
  obtain ⟨oD, esD, epD, hoD, hdD, hcD⟩ := hn2.count (PySem.Within.cons name v hw)
  refine wpAny_bind (wpAny_lookBehind hoD (by rw [hdD]; exact pastItsLine_dict (Nat.le_trans hcD (by rw [List.length_cons]; omega))) ?_)
  exact wpAny_pure (h _ ⟨(hs2.2 _ (Ne.symm I.ne)).trans I.obj, hn2, I.ne⟩ hs2)

/-- C(..): the dict at the heap's end, the instance behind it; then its __init__ -/
theorem make_map {R : Result → Shared → Prop} {vs : List Value} {kw : List (Str × Value)} (X : K.In s.heap) (hm : PySem.W.makesIn K C = true)
    (hi : PySem.W.findIn K (.ref C) "__init__" = some (some (.ref f))) (hf : PySem.W.typeIn K (.ref f) = some (.type "function"))
    (h : codeAny (model prog w) (A.under (.builtin "type.__call__" ⟨.ref C :: vs, kw⟩)) (.call (.ref f) ⟨.ref (s.heap.objs.size + 1) :: vs, kw⟩) (PySem.W.InitBack (s.heap.objs.size + 1) R)
      { s with heap := (s.heap.push PySem.W.emptyDict).push (PySem.W.instObj C s.heap.objs.size) }) :
    codeAny (model prog w) A (.call (.ref C) ⟨vs, kw⟩) R s := by
  obtain ⟨hh, g, d, t, os⟩ := s
  exact PySem.W.make_core (PySem.W.makes_of X hm) (PySem.W.looks_findIn X hi) (fun self => PySem.W.bind_fn X self hf) (.inl rfl) h
/-- C() where there is no __init__ but object's -/
theorem make_map0 {R : Result → Shared → Prop} (X : K.In s.heap) (hm : PySem.W.makesIn K C = true)
    (hi : PySem.W.findIn K (.ref C) "__init__" = some (some (.builtin "object.__init__")))
    (hb : ∀ self, PySem.W.Looks (model prog w) s.heap (bindSpecial (.builtin "object.__init__") self) (.builtin "object.__init__", [self]))
    (h : codeAny (model prog w) (A.under (.builtin "type.__call__" ⟨[.ref C], []⟩)) (.call (.builtin "object.__init__") ⟨[.ref (s.heap.objs.size + 1)], []⟩) (PySem.W.InitBack (s.heap.objs.size + 1) R)
      { s with heap := (s.heap.push PySem.W.emptyDict).push (PySem.W.instObj C s.heap.objs.size) }) :
    codeAny (model prog w) A (.call (.ref C) ⟨[], []⟩) R s := by
  obtain ⟨hh, g, d, t, os⟩ := s
  exact PySem.W.make_core (PySem.W.makes_of X hm) (PySem.W.looks_findIn X hi) hb (.inr ⟨rfl, rfl⟩) h
end

/-! ### the attributes as a list of pairs -/
def putF (f : Str) (v : V) : List (Str × V) → List (Str × V)
  | [] => [(f, v)]
  | (g, x) :: r => if g = f then (g, v) :: r else (g, x) :: putF f v r
theorem lookup_putF (f g : Str) (v : V) : ∀ fs : List (Str × V), (putF f v fs).lookup g = if g = f then some v else fs.lookup g
  | [] => by
    show List.lookup g [(f, v)] = _
    by_cases h : g = f
    · have hb : (g == f) = true := beq_iff_eq.mpr h
      simp only [List.lookup, hb, if_pos h]
    · have hb : (g == f) = false := beq_eq_false_iff_ne.mpr h
      simp only [List.lookup, hb, if_neg h]
  | (k, x) :: r => by
    have ih := lookup_putF f g v r
    rw [show putF f v ((k, x) :: r) = (if k = f then (k, v) :: r else (k, x) :: putF f v r) from rfl]
    by_cases hk : k = f
    · rw [if_pos hk]
      by_cases h : g = k
      · have hb : (g == k) = true := beq_iff_eq.mpr h
        simp only [List.lookup, hb, if_pos (h.trans hk)]
      · have hb : (g == k) = false := beq_eq_false_iff_ne.mpr h
        simp only [List.lookup, hb, if_neg (fun e : g = f => h (e.trans hk.symm))]
    · rw [if_neg hk]
      by_cases h : g = k
      · have hb : (g == k) = true := beq_iff_eq.mpr h
        simp only [List.lookup, hb, if_neg (fun e : g = f => hk (h.symm.trans e))]
      · have hb : (g == k) = false := beq_eq_false_iff_ne.mpr h
        simp only [List.lookup, hb]
        exact ih
theorem keys_putF (f : Str) (v : V) : ∀ fs : List (Str × V), f ∈ (putF f v fs).map (·.1) ∧ ∀ g, g ∈ fs.map (·.1) → g ∈ (putF f v fs).map (·.1)
  | [] => ⟨by simp [putF], fun g h => by simp at h⟩
  | (k, x) :: r => by
    obtain ⟨i1, i2⟩ := keys_putF f v r
    rw [show putF f v ((k, x) :: r) = (if k = f then (k, v) :: r else (k, x) :: putF f v r) from rfl]
    by_cases hk : k = f
    · rw [if_pos hk]
      subst hk
      exact ⟨by simp, fun g h => by simpa using h⟩
    · rw [if_neg hk]
      refine ⟨?_, fun g h => ?_⟩
      · rw [List.map_cons]
        exact List.mem_cons_of_mem _ i1
      · rw [List.map_cons] at h ⊢
        rcases List.mem_cons.mp h with e | e
        · exact List.mem_cons.mpr (.inl e)
        · exact List.mem_cons_of_mem _ (i2 g e)
theorem length_putF (f : Str) (v : V) : ∀ fs : List (Str × V), (putF f v fs).length ≤ fs.length + 1
  | [] => by simp [putF]
  | (k, x) :: r => by
    have ih := length_putF f v r
    rw [show putF f v ((k, x) :: r) = (if k = f then (k, v) :: r else (k, x) :: putF f v r) from rfl]
    by_cases hk : k = f
    · rw [if_pos hk, List.length_cons, List.length_cons]; omega
    · rw [if_neg hk, List.length_cons, List.length_cons]; omega

theorem RelO.some_of {v : V} {o : Option Value} (r : RelO (some v) o) : ∃ u, o = some u ∧ RelV v u := by
  cases o with
  | none => exact (show False from r).elim
  | some u => exact ⟨u, rfl, r⟩
theorem RelO.none_of {o : Option Value} (r : RelO none o) : o = none := by
  cases o with
  | none => rfl
  | some u => exact (show False from r).elim
theorem handed_of {v : V} {u : Value} (r : RelV v u) : PySem.W.handedIn u = true := by
  cases v with
  | non => cases (show u = Value.none from r); rfl
  | bl b => cases (show u = Value.bool b from r); rfl
  | int i => obtain ⟨t, e⟩ := (show ∃ t, u = Value.int i t from r); cases e; rfl
  | str x => obtain ⟨t, e⟩ := (show ∃ t, u = Value.str x t from r); cases e; rfl
  | byt b => obtain ⟨t, e⟩ := (show ∃ t, u = Value.bytes b t from r); cases e; rfl
  | flt b => obtain ⟨t, e⟩ := (show ∃ t, u = Value.float b t from r); cases e; rfl
  | ref a => cases (show u = Value.ref a from r); rfl
  | ty n => cases (show u = Value.type n from r); rfl

section
variable {P : Program} {w : World} {H H' : Hp} {h h' : Heap} {a C dx : Addr} {fs fs' : List (Str × V)}
theorem ins_get (hok : HOk P w H h) (e : H a = some (.ins C dx fs)) : ∃ mA, ObjM h a dx C mA ∧ (∀ f, RelO (fs.lookup f) (mA f)) ∧ PySem.Within mA (fs.map (·.1)) ∧ fs.length ≤ 1000 ∧ H dx = some (.own a) := by
  obtain ⟨d, z, ne, ob, mA, n, r, q⟩ := (show ObjOk P w H h a (.ins C dx fs) from hok a _ e)
  exact ⟨mA, ⟨ob, n, ne⟩, r, q, z, d⟩
end

/-! ### what of the text a class must have -/
structure Cls (K : PySem.W.Frag) (C : Addr) : Prop where
  pg : PySem.W.plainGet K C Str.empty = true
  hd : PySem.W.hasDictIn K C = true
  po : PySem.W.plainOver K C = true
  sa : PySem.W.findIn K (.ref C) "__setattr__" = some (some (.builtin "object.__setattr__"))
theorem Cls.get {K : PySem.W.Frag} {C : Addr} (c : Cls K C) (f : Str) : PySem.W.plainGet K C f = true := c.pg
/-- no class of it has the name -/
def NoAttr (K : PySem.W.Frag) (C : Addr) (f : Str) : Prop := PySem.W.findIn K (.ref C) f = some none
theorem NoAttr.taker {K : PySem.W.Frag} {C : Addr} {f : Str} (n : NoAttr K C f) : PySem.W.takerIn K C f = some none := by
  unfold PySem.W.takerIn
  rw [show PySem.W.findIn K (.ref C) f = some none from n]
  rfl
/-- a method: a plain def of the class or of one above it -/
structure Meth (K : PySem.W.Frag) (C : Addr) (m : Str) (f : Addr) : Prop where
  at_ : PySem.W.findIn K (.ref C) m = some (some (.ref f))
  fn : PySem.W.isFn K (.ref f) = true
  kp : PySem.W.keepIn K (.ref f) = true

section
variable {X : Cx} {pins : List (Addr × Obj)} {σ : St} {H : Hp} {s : Shared} {a C dx : Addr} {fs : List (Str × V)} {f : Str} {v : V} {A : Around} {E : Value → Shared → Prop}

theorem getattr_ok {b : Bool} {Q : Value → Shared → Prop} (I : Inv X pins σ H s) (e : H a = some (.ins C dx fs)) (c : Cls X.K C) (n : NoAttr X.K C f) (l : fs.lookup f = some v)
    (h : ∀ u s', Inv X pins σ H s' → RelV v u → Q u s') : wpAny (model X.prog X.w) A (getAttr (.ref a) f b) Q E s := by
  obtain ⟨mA, O, r, _, _, _⟩ := ins_get I.hok e
  obtain ⟨u, hu, ru⟩ := RelO.some_of (v := v) (o := mA f) (by rw [← l]; exact r f)
  exact get_map I.kIn O (c.get f) c.hd n hu (handed_of ru) (h u _ (I.tok _) ru)

theorem getmeth_ok {m : Str} {g : Addr} {pl : Sem Bool} {Q : Value × List Value → Shared → Prop} (I : Inv X pins σ H s) (e : H a = some (.ins C dx fs)) (c : Cls X.K C) (k : Meth X.K C m g) (l : fs.lookup m = none)
    (h : Q (.ref g, [.ref a]) s) : wpAny (model X.prog X.w) A (getMethod (.ref a) m pl) Q E s := by
  obtain ⟨mA, O, r, _, _, _⟩ := ins_get I.hok e
  have hn : mA m = none := RelO.none_of (by rw [← l]; exact r m)
  exact get_meth I.kIn O (c.get m) k.at_ k.fn hn h

theorem setattr_ok {y : V} {u : Value} {Q : Unit → Shared → Prop} (I : Inv X pins σ H s) (e : H a = some (.ins C dx fs)) (c : Cls X.K C) (n : NoAttr X.K C f) (hl : fs.length < 1000) (ry : RelV y u)
    (h : ∀ s', Inv X pins σ (upd H a (.ins C dx (putF f y fs))) s' → Q () s') : wpAny (model X.prog X.w) A (setAttr (.ref a) f u) Q E s := by
  obtain ⟨mA, O, r, wi, _, ho⟩ := ins_get I.hok e
  have hz : (fs.map (·.1)).length ≤ sizeLine := by rw [List.length_map, sizeLine_eq]; omega
  refine set_map I.kIn O c.sa c.po n.taker c.hd wi hz fun h' O' sb => h _ ?_
  have hd : ∃ o, h'.get? dx = some o := let ⟨o, _, _, e', _⟩ := O'.ns; ⟨o, e'⟩
  refine I.write (x := a) (e := dx) (by rw [e]; exact True.intro) (.inr ho) (fun b q hb z => (sb.2 b hb).trans z) hd ?_
  refine ⟨by rw [upd_ne O.ne]; exact ho, ?_, O.ne, O'.obj, _, O'.ns, fun g => ?_, fun g hg => ?_⟩
  · have := length_putF f y fs; omega
  · show RelO ((putF f y fs).lookup g) (if g = f then some u else mA g)
    rw [lookup_putF]
    by_cases q : g = f
    · rw [if_pos q, if_pos q]; exact ry
    · rw [if_neg q, if_neg q]; exact r g
  · by_cases q : g = f
    · rw [q]; exact (keys_putF f y fs).1
    · refine (keys_putF f y fs).2 g (wi g fun z => hg ?_)
      show (if g = f then some u else mA g) = none
      rw [if_neg q]; exact z

/-- a new instance, tracked, without attributes -/
theorem Inv.made (I : Inv X pins σ H s) : Inv X pins σ (upd (upd H s.heap.objs.size (.own (s.heap.objs.size + 1))) (s.heap.objs.size + 1) (.ins C s.heap.objs.size []))
    { s with heap := (s.heap.push PySem.W.emptyDict).push (PySem.W.instObj C s.heap.objs.size) } := by
  have e1 : (s.heap.push PySem.W.emptyDict).get? s.heap.objs.size = some PySem.W.emptyDict := Heap.get?_push_size s.heap rfl
  have e2 : ((s.heap.push PySem.W.emptyDict).push (PySem.W.instObj C s.heap.objs.size)).get? (s.heap.objs.size + 1) = some (PySem.W.instObj C s.heap.objs.size) := by
    have := Heap.get?_push_size (s.heap.push PySem.W.emptyDict) (o := PySem.W.instObj C s.heap.objs.size) rfl
    rwa [Heap.size_push] at this
  have e3 : (s.heap.push PySem.W.emptyDict).Ns s.heap.objs.size (fun _ => none) := ⟨PySem.W.emptyDict, #[], _, e1, rfl, (fun e he => absurd he (by simp)), fun _ => rfl⟩
  have I1 := I.laid (a := s.heap.objs.size) (o := .own (s.heap.objs.size + 1)) (h' := s.heap.push PySem.W.emptyDict) (t' := s.toks) (fun b u q => Heap.get?_push_of_some _ q) (Nat.le_refl _) ⟨_, e1⟩
  refine I1.laid (a := s.heap.objs.size + 1) (o := .ins C s.heap.objs.size []) (t' := s.toks) (fun b u q => Heap.get?_push_of_some _ q) (Nat.le_of_eq (Heap.size_push _ _)) ?_
  have ne : s.heap.objs.size ≠ s.heap.objs.size + 1 := Nat.ne_of_lt (Nat.lt_succ_self _)
  refine ⟨by rw [upd_ne ne, upd_same], Nat.zero_le _, ne, e2, fun _ => none, (Heap.Ns1.of_empty e3).at fun o q => Heap.get?_push_of_some _ q, fun _ => True.intro, fun y hy => absurd rfl hy⟩

/-- e.f where nothing but the object is asked: through attributeBase (super) and the last hold -/
theorem attr_of {prog : Program} {w : World} {env : Env} {e : Expr} {f : Str} {pos : Pos} {s : Shared} {Q : Value → Shared → Prop} (hb : attributeBase e f env (eval e env) = eval e env)
    (h : wpAny (model prog w) A (eval e env) (fun o s₁ => wpAny (model prog w) A (getAttr o f true) Q E s₁) E s) : wpAny (model prog w) A (eval (.Attribute e f pos) env) Q E s :=
  Attribute_any_ h (by rw [arm_eval_Attribute, hb])
end

/-! ### readings and rules -/
/-- e.f, an attribute of the instance -/
def tFld (K : PySem.W.Frag) (ta : TE) (f : Str) : TE := fun σ H Q => ta σ H fun x H1 => ∃ a C dx fs v, x = .ref a ∧ H1 a = some (.ins C dx fs) ∧ Cls K C ∧ NoAttr K C f ∧ fs.lookup f = some v ∧ Q v H1
/-- e.f = value -/
def sFld (K : PySem.W.Frag) (ta tv : TE) (f : Str) : TS := fun D σ H => tv σ H fun y H1 => ta σ H1 fun x H2 => ∃ a C dx fs, x = .ref a ∧ H2 a = some (.ins C dx fs) ∧ Cls K C ∧ NoAttr K C f ∧ fs.length < 1000 ∧
  D.nx σ (upd H2 a (.ins C dx (putF f y fs)))
section
variable {X : Cx} {o e value : Expr} {f : Str} {pos pos' tpos : Pos} {ta tv : TE}
theorem pe_fld (he : PE X e ta) (hb : attributeBase e f X.env (eval e X.env) = eval e X.env) : PE X (.Attribute e f pos) (tFld X.K ta f) := by
  intro pins s σ H Q I h
  refine attr_of hb (thn (he pins s σ H _ I h) fun u s1 ⟨x, H1, I1, rx, a, C, dx, fs, v, ex, ea, c, n, l, q⟩ => ?_)
  subst ex
  obtain rfl : u = Value.ref a := rx
  exact getattr_ok I1 ea c n l fun u' s2 I2 ru => ⟨v, H1, I2, ru, q⟩
theorem ps_fld (ha : PE X o ta) (hv : PE X value tv) (hs : swapsWith value (some (.Attribute o f pos')) pos.line X.env = pure false) : PS X (.Assign [.Attribute o f pos'] value pos) (sFld X.K ta tv f) := by
  intro pins s σ H D I h
  refine plainObj_wpAny_Assign_Attribute (thn (hv pins s σ H _ I h) fun u s1 ⟨y, H1, I1, ry, q⟩ => thn (ha pins s1 σ H1 _ I1 q) fun ov s2 ⟨x, H2, I2, rx, a, C, dx, fs, ex, ea, c, n, l, q2⟩ => ?_) hs
  subst ex
  obtain rfl : ov = Value.ref a := rx
  exact setattr_ok I2 ea c n l ry fun s3 I3 => ⟨σ, _, I3, q2⟩
end

/-! ### isinstance -/
section
variable {X : Cx} {pins : List (Addr × Obj)} {σ : St} {H : Hp} {s : Shared} {A : Around} {E : Value → Shared → Prop} {Q : Value → Shared → Prop} {c : Value} {b : Bool}
/-- the type of a value, as the fragment's deciders take it; for an instance its class -/
inductive TyOf (K : PySem.W.Frag) (H : Hp) : V → Value → Prop where
  | non : TyOf K H .non (.type "NoneType")
  | bl (x : Bool) : TyOf K H (.bl x) (.type "bool")
  | int (i : Int) : TyOf K H (.int i) (.type "int")
  | str (x : Str) : TyOf K H (.str x) (.type "str")
  | flt (x : UInt64) : TyOf K H (.flt x) (.type "float")
  | lst {a : Addr} {xs : List V} (e : H a = some (.lst xs)) : TyOf K H (.ref a) (.type "list")
  | frz {a : Addr} {o : Obj} {xs : List V} (e : H a = some (.frz o (.lst xs))) : TyOf K H (.ref a) (.type "list")
  | tup {a : Addr} {xs : List V} (e : H a = some (.tup xs)) : TyOf K H (.ref a) (.type "tuple")
  | dK {a : Addr} {kvs : List (Key × V)} (e : H a = some (.dK kvs)) : TyOf K H (.ref a) (.type "dict")
  | dT {a : Addr} {kvs : List (List Key × V)} (e : H a = some (.dT kvs)) : TyOf K H (.ref a) (.type "dict")
  | ins {a C dx : Addr} {fs : List (Str × V)} (e : H a = some (.ins C dx fs)) (cl : Cls K C) (ha : PySem.W.findIn K (.ref C) "__class__" = some (some (.builtin "object.__class__")))
      (hn : PySem.W.specialIn K (.builtin "object.__class__") "__get__" = some (some (.builtin "getset_descriptor.__get__"))) (htk : PySem.W.takesIn K (.builtin "object.__class__") = some true)
      (hm : PySem.W.mroIn K C (.type "object") = some true) : TyOf K H (.ref a) (.ref C)
/-- isinstance(x, c) for one class c, a built-in or an own one: kitOne's answer -/
theorem isinst_ok {x : V} {u t : Value} (I : Inv X pins σ H s) (rx : RelV x u) (ty : TyOf X.K H x t) (e : PySem.W.kitOne X.K t c = some b) (h : ∀ tk, Q (.bool b) { s with toks := tk }) :
    wpAny (model X.prog X.w) A (call (.builtin "isinstance") [u, c]) Q E s := by
  cases ty with
  | non => cases (show u = Value.none from rx); exact PySem.W.kia_one PySem.W.kitx_none I.kIn True.intro e (fun z => nomatch z) h
  | bl y => cases (show u = Value.bool y from rx); exact PySem.W.kia_one PySem.W.kitx_bool I.kIn True.intro e (fun z => nomatch z) h
  | int i => obtain ⟨t, q⟩ := (show ∃ t, u = Value.int i t from rx); cases q; exact PySem.W.kia_one PySem.W.kitx_int I.kIn True.intro e (fun z => nomatch z) h
  | str y => obtain ⟨t, q⟩ := (show ∃ t, u = Value.str y t from rx); cases q; exact PySem.W.kia_one PySem.W.kitx_str I.kIn True.intro e (fun z => nomatch z) h
  | flt y => obtain ⟨t, q⟩ := (show ∃ t, u = Value.float y t from rx); cases q; exact PySem.W.kia_one PySem.W.kitx_float I.kIn True.intro e (fun z => nomatch z) h
  | @lst a xs ea =>
    cases (show u = Value.ref a from rx)
    obtain ⟨_, _, n, _, h1⟩ := (show ObjOk X.prog X.w H s.heap a (.lst xs) from I.hok a _ ea)
    exact PySem.W.kia_one PySem.W.kitx_list I.kIn ⟨_, h1, rfl⟩ e (fun z => nomatch z) h
  | @frz a ob xs ea =>
    cases (show u = Value.ref a from rx)
    obtain ⟨_, _, _, n, _, h1⟩ := (show ObjOk X.prog X.w H s.heap a (.frz ob (.lst xs)) from I.hok a _ ea)
    exact PySem.W.kia_one PySem.W.kitx_list I.kIn ⟨_, h1, rfl⟩ e (fun z => nomatch z) h
  | @tup a xs ea =>
    cases (show u = Value.ref a from rx)
    obtain ⟨_, _, _, p⟩ := (show ObjOk X.prog X.w H s.heap a (.tup xs) from I.hok a _ ea)
    obtain ⟨o, h1, h2, _⟩ := p
    exact PySem.W.kia_one PySem.W.kitx_tuple I.kIn ⟨o, h1, h2⟩ e (fun z => nomatch z) h
  | @dK a kvs ea =>
    cases (show u = Value.ref a from rx)
    obtain ⟨_, _, vs, _, p⟩ := (show ObjOk X.prog X.w H s.heap a (.dK kvs) from I.hok a _ ea)
    obtain ⟨o, es, ep, h1, h2, _⟩ := p
    exact PySem.W.kia_one PySem.W.kitx_dict I.kIn ⟨o, h1, h2.1⟩ e (fun z => nomatch z) h
  | @dT a kvs ea =>
    cases (show u = Value.ref a from rx)
    obtain ⟨_, _, xs, _, o, es, ep, h1, h2, _⟩ := (show ObjOk X.prog X.w H s.heap a (.dT kvs) from I.hok a _ ea)
    exact PySem.W.kia_one PySem.W.kitx_dict I.kIn ⟨o, h1, h2.1⟩ e (fun z => nomatch z) h
  | @ins a C dx fs ea cl ha hn htk hm =>
    cases (show u = Value.ref a from rx)
    obtain ⟨mA, O, _⟩ := ins_get I.hok ea
    obtain ⟨od, J, _⟩ := O.look
    exact PySem.W.kia_one (PySem.W.kitx_own (cl.get _) cl.hd ha hn htk hm) I.kIn J e (fun z => nomatch z) h
end
end L2

namespace L2
open PySem PySem.Spec PyProof.Rows

/-! ### room -/
structure Room (k : Nat) (A : Around) : Prop where
  hd : A.handled = none
  dp : A.depth + 3 * k + 5 < recursionLimit
  un : A.units + 16 * k + 200 < cLine
theorem Room.mono {j k : Nat} {A : Around} (r : Room k A) (h : j ≤ k) : Room j A := ⟨r.hd, by have := r.dp; omega, by have := r.un; omega⟩
theorem Room.deeper {k : Nat} {A : Around} (r : Room (k + 1) A) (env : Env) : Room k (A.deeper env) :=
  ⟨r.hd, by have := r.dp; show A.depth + 1 + 3 * k + 5 < _; omega, by have := r.un; show A.units + 3 + 16 * k + 200 < _; omega⟩
theorem make_depth {A : Around} {C : Addr} {us : List Value} {kw : List (Str × Value)} : (A.under (.builtin "type.__call__" ⟨.ref C :: us, kw⟩)).depth = A.depth + 1 := by
  first | rfl | simp [Around.under, Code.weight, Code.isCreation, Code.isGuard, Code.isCaller, Code.frames, Code.isFrame, guardIds]
theorem make_units {A : Around} {C : Addr} {us : List Value} {kw : List (Str × Value)} : (A.under (.builtin "type.__call__" ⟨.ref C :: us, kw⟩)).units = A.units + 1 := by
  first | rfl | simp [Around.under, Code.cUnits, Code.frames, Code.isFrame]
theorem Room.make {k : Nat} {A : Around} (r : Room (k + 1) A) (C : Addr) (us : List Value) (kw : List (Str × Value)) : Room k (A.under (.builtin "type.__call__" ⟨.ref C :: us, kw⟩)) :=
  ⟨r.hd, by have := r.dp; rw [make_depth]; omega, by have := r.un; rw [make_units]; omega⟩
theorem Room.depth {k : Nat} {A : Around} (r : Room k A) : A.depth < recursionLimit := by have := r.dp; omega
/-! ### argument lists and displays -/
def tNil : TA := fun _ H Q => Q [] H
def tCons (ta : TE) (tr : TA) : TA := fun σ H Q => ta σ H fun x H1 => tr σ H1 fun xs H2 => Q (x :: xs) H2
section
variable {X : Cx} {e : Expr} {es : List Expr} {te : TE} {t : TA} {pos : Pos}
theorem pa_nil : PA X [] tNil := fun _ _ _ _ H Q I h => Calls.spliced_nil ⟨[], H, I, .nil, h⟩
theorem pa_cons (ha : PE X e te) (hr : PA X es t) (hs : starEach (e :: es) X.env = (false, eval e X.env) :: starEach es X.env := by rfl) : PA X (e :: es) (tCons te t) := by
  intro pos pins s σ H Q I h
  rw [hs]
  show wpAny _ _ (spliced ((false, eval e X.env) :: backTo pos (starEach es X.env))) _ _ s
  refine Calls.spliced_cons (thn (ha pins s σ H _ I h) fun u s1 ⟨x, H1, I1, r1, q1⟩ => ?_)
  exact thn (hr pos pins s1 σ H1 _ I1 q1) fun us s2 ⟨xs, H2, I2, r2, q2⟩ => ⟨x :: xs, H2, I2, .cons r1 r2, q2⟩

/-- a tuple, a list of written items -/
def tTup (t : TA) : TE := fun σ H Q => t σ H fun xs H1 => xs.length ≤ sizeLine ∧ ∀ p, H1 p = none → Q (.ref p) (upd H1 p (.tup xs))
def tLst (t : TA) : TE := fun σ H Q => t σ H fun xs H1 => xs.length ≤ sizeLine ∧ ∀ p, H1 p = none → Q (.ref p) (upd H1 p (.lst xs))
theorem pe_tup {x1} (h : PA X es t) : PE X (.Tuple es x1 pos) (tTup t) := by
  intro pins s σ H Q I hq
  refine wpAny_Tuple_spliced (thn (h pos pins s σ H _ I hq) fun us s1 ⟨xs, H1, I1, r, z, q⟩ => ⟨by rw [← r.length]; exact z, ?_⟩)
  have hf : H1 s1.heap.objs.size = none := I1.hok.fresh (Nat.le_refl _)
  refine ⟨.ref s1.heap.objs.size, upd H1 s1.heap.objs.size (.tup xs), I1.laid (t' := s1.toks) (fun b u e => Heap.get?_push_of_some _ e) (Nat.le_refl _) ?_, rfl, q _ hf⟩
  exact ⟨z, us, r, ⟨_, Heap.get?_push_size _ rfl, rfl, _, rfl⟩⟩
theorem pe_lst (h : PA X es t) : PE X (.List es pos) (tLst t) := by
  intro pins s σ H Q I hq
  refine wpAny_List_spliced (thn (h pos pins s σ H _ I hq) fun us s1 ⟨xs, H1, I1, r, z, q⟩ => ⟨by rw [← r.length]; exact z, ?_⟩)
  have hf : H1 s1.heap.objs.size = none := I1.hok.fresh (Nat.le_refl _)
  refine ⟨.ref s1.heap.objs.size, upd H1 s1.heap.objs.size (.lst xs), I1.laid (t' := s1.toks) (fun b u e => Heap.get?_push_of_some _ e) (Nat.le_refl _) ?_, rfl, q _ hf⟩
  exact ⟨z, us, 0, r, Heap.get?_push_size _ rfl⟩
end

/-! ### what a def promises -/
/-- a def's promise: the bound arguments in the parameters' order, the heap, the wanted end, the wanted exception -/
abbrev Sp := List V → Hp → VK → XK → Prop
/-- how an exception lies behind a call (file 08 gives it): the callers' frames, abstract heap and state ahead of the call, the wish, the exception, the state -/
abbrev CXT := List Env → Hp → Shared → XK → Value → Shared → Prop

/-- the state at a call -/
structure Env0 (P : Program) (w : World) (K : PySem.W.Frag) (mg : Str → Option Value) (base : Heap) (A : Around) (outer : List Env) (s : Shared) (H : Hp) : Prop where
  frames : A.frames = some outer
  mod : Mod K mg base
  bs : ∀ b o, base.get? b = some o → s.heap.get? b = some o ∧ H b = none
  bsz : base.objs.size ≤ s.heap.objs.size
  funs : s.heap.FunFrames base outer
  frf : ∀ b ∈ frs outer, H b = none
  hok : HOk P w H s.heap
  bare : AllBare s.gens
/-- a call's end -/
def CE (outer : List Env) (P : Program) (w : World) (H : Hp) (s : Shared) (Q : VK) (u : Value) (s' : Shared) : Prop :=
  ∃ v H', s'.os = s.os ∧ AllBare s'.gens ∧ Un (frs outer) [] H H' s.heap s'.heap ∧ HOk P w H' s'.heap ∧ RelV v u ∧ Q v H'
def CR (CX : CXT) (outer : List Env) (P : Program) (w : World) (H : Hp) (s : Shared) (Q : VK) (E : XK) (r : Result) (s' : Shared) : Prop :=
  match r with
  | .ok (.ret u) => CE outer P w H s Q u s'
  | .ok _ => False
  | .error e => CX outer H s E e s'
structure FnOk (P : Program) (w : World) (K : PySem.W.Frag) (mg : Str → Option Value) (base : Heap) (CX : CXT) (k : Nat) (f : Addr) (fd : FuncData) (ps : List Str) (sp : Sp) : Prop where
  len : ∀ vs H Q E, sp vs H Q E → vs.length = ps.length
  run : ∀ (A : Around) (outer : List Env) (s : Shared) (H : Hp) (args : Args) (us : List Value) (vs : List V) (Q : VK) (E : XK), Room k A → Env0 P w K mg base A outer s H → BindsTo s fd args (ps.zip us) → Vals vs us → sp vs H Q E →
    codeAny (model P w) A (.call (.ref f) args) (CR CX outer P w H s Q E) s
theorem FnOk.mono {P : Program} {w : World} {K : PySem.W.Frag} {mg : Str → Option Value} {base : Heap} {CX : CXT} {j k : Nat} {f : Addr} {fd : FuncData} {ps : List Str} {sp : Sp} (F : FnOk P w K mg base CX j f fd ps sp) (h : j ≤ k) :
    FnOk P w K mg base CX k f fd ps sp := ⟨F.len, fun A outer s H args us vs Q E hr => F.run A outer s H args us vs Q E (hr.mono h)⟩
/-- a weaker promise -/
theorem FnOk.imp {P : Program} {w : World} {K : PySem.W.Frag} {mg : Str → Option Value} {base : Heap} {CX : CXT} {k : Nat} {f : Addr} {fd : FuncData} {ps : List Str} {sp sp' : Sp} (F : FnOk P w K mg base CX k f fd ps sp)
    (h : ∀ vs H Q E, sp' vs H Q E → sp vs H Q E) : FnOk P w K mg base CX k f fd ps sp' :=
  ⟨fun vs H Q E q => F.len vs H Q E (h _ _ _ _ q), fun A outer s H args us vs Q E hr he hb hv hs => F.run A outer s H args us vs Q E hr he hb hv (h _ _ _ _ hs)⟩

theorem Env0.make {P : Program} {w : World} {K : PySem.W.Frag} {mg : Str → Option Value} {base : Heap} {A : Around} {outer : List Env} {s : Shared} {H : Hp} (e : Env0 P w K mg base A outer s H) (C : Addr) (us : List Value) (kw : List (Str × Value)) :
    Env0 P w K mg base (A.under (.builtin "type.__call__" ⟨.ref C :: us, kw⟩)) outer s H := ⟨by first | exact e.frames | (simpa [Around.under, Code.envs, Code.isFrame, pushEnvs] using e.frames), e.mod, e.bs, e.bsz, e.funs, e.frf, e.hok, e.bare⟩
section
variable {X : Cx} {pins : List (Addr × Obj)} {σ : St} {H : Hp} {s s' : Shared}
/-- from a body: what a callee wants -/
theorem Inv.env0 (I : Inv X pins σ H s) : Env0 X.prog X.w X.K X.mg X.base X.A X.stack s H :=
  ⟨I.ok.frames, I.ok.mod, I.bs, Nat.le_trans I.ok.bsz I.sz, I.stack, I.stkFree, I.hok, I.bare⟩
/-- behind a call -/
theorem Inv.after {Q : VK} {u : Value} (I : Inv X pins σ H s) (h : CE X.stack X.prog X.w H s Q u s') : EP X pins σ Q u s' := by
  obtain ⟨v, H', os, bare, un, hok, r, q⟩ := h
  obtain ⟨hh, g, d, t, os'⟩ := s'
  obtain rfl : os' = s.os := os
  exact ⟨v, H', I.call (h' := hh) (g' := g) (d' := d) (t' := t) (ch := []) un hok bare (fun b z => absurd z (by simp)), r, q⟩
end

/-! ### calls -/
/-- f(..): the written arguments, then the defaults dvs; E: what is wanted of an exception -/
def tCall (sp : Sp) (dvs : List V) (E : XK) (t : TA) : TE := fun σ H Q => t σ H fun vs H1 => sp (vs ++ dvs) H1 Q E
/-- C(..): a new instance and its dict, then __init__ -/
def tMake (C : Addr) (sp : Sp) (dvs : List V) (E : XK) (t : TA) : TE := fun σ H Q => t σ H fun vs H1 => ∀ x dx, H1 x = none → H1 dx = none → dx ≠ x →
  sp (.ref x :: (vs ++ dvs)) (upd (upd H1 dx (.own x)) x (.ins C dx [])) (fun v H2 => v = .non ∧ Q (.ref x) H2) E

/-- how the parameters are bound: us the positional arguments, kw the keywords' values by name, ds the defaults that fill up -/
def Binds (K : PySem.W.Frag) (fd : FuncData) (ps : List Str) (ds : List Value) : Prop :=
  ∀ (s : Shared) (us : List Value), K.In s.heap → (us ++ ds).length = ps.length → BindsTo s fd ⟨us, []⟩ (ps.zip (us ++ ds))
/-- every parameter is given -/
theorem Binds.all {K : PySem.W.Frag} {fd : FuncData} {ps : List Str} (h : ∀ us : List Value, us.length = ps.length → bindArgs fd ⟨us, []⟩ = pure (ps.zip us)) : Binds K fd ps [] := fun s us _ hl => by
  rw [List.append_nil] at hl ⊢
  exact .of_eq (h us hl)

/-- an exception of a callee reaches what this body wants of exceptions -/
def Passes (CX : CXT) (X : Cx) (E : XK) : Prop := ∀ (pins : List (Addr × Obj)) (σ : St) (H : Hp) (s : Shared) (e : Value) (s' : Shared), Inv X pins σ H s → CX X.stack H s E e s' → X.xe e s'

section
variable {X : Cx} {CX : CXT} {k : Nat} {f C : Addr} {fd : FuncData} {ps : List Str} {sp : Sp} {dvs : List V} {ds : List Value} {E : XK} {x m : Str} {p pos apos : Pos} {e o : Expr} {es : List Expr} {ta : TE} {t : TA}

/-- the callee runs -/
theorem run_fn {pins : List (Addr × Obj)} {σ : St} {H : Hp} {s : Shared} {Q : VK} {us : List Value} {vs : List V} (F : FnOk X.prog X.w X.K X.mg X.base CX k f fd ps sp) (hr : Room k X.A) (hb : Binds X.K fd ps ds) (hd : Vals dvs ds) (hx : Passes CX X E)
    (I : Inv X pins σ H s) (r : Vals vs us) (h : sp (vs ++ dvs) H Q E) : wpAny (model X.prog X.w) X.A (call (.ref f) us) (EP X pins σ Q) X.xe s := by
  have r2 : Vals (vs ++ dvs) (us ++ ds) := r.append hd
  have hl : (us ++ ds).length = ps.length := by rw [← r2.length]; exact F.len _ _ _ _ h
  refine wpAny_call (codeAny_mono (F.run X.A X.stack s H ⟨us, []⟩ (us ++ ds) (vs ++ dvs) Q E hr I.env0 (hb s us I.kIn hl) r2 h) fun r s' hq => ?_)
  cases r with
  | error e => exact hx pins σ H s e s' I hq
  | ok fl =>
    cases fl with
    | ret u => exact I.after hq
    | next => exact False.elim hq
    | brk => exact False.elim hq
    | cont => exact False.elim hq

theorem pe_call (F : FnOk X.prog X.w X.K X.mg X.base CX k f fd ps sp) (hr : Room k X.A) (hg : Gl X x) (hm : X.mg x = some (.ref f)) (hk : PySem.W.keepIn X.K (.ref f) = true) (hb : Binds X.K fd ps ds) (hd : Vals dvs ds) (hx : Passes CX X E)
    (ha : PA X (e :: es) t) (hdb : (x == ("__debug__" : Str)) = false := by decide) (he : starEach (e :: es) X.env = (false, eval e X.env) :: starEach es X.env := by rfl) (hpl : (backTo pos (starEach es X.env)).any (·.1) = false := by rfl) :
    PE X (.Call (.Name x p) (e :: es) [] pos) (tCall sp dvs E t) := by
  intro pins s σ H Q I h
  refine wpAny_Call_Name_kw (ld_glob I hg hm ?_ hdb)
  refine PySem.W.callWith_K (h₀ := X.base) I.ok.mod.kin hk (thn (ha pos pins s σ H _ I h) fun us s1 ⟨vs, H1, I1, r, q⟩ => ⟨I1.kIn, ?_⟩) he hpl
  exact run_fn F hr hb hd hx I1 r q
/-- what a class must have to be made -/
structure Mk (K : PySem.W.Frag) (C f : Addr) : Prop where
  makes : PySem.W.makesIn K C = true
  init : PySem.W.findIn K (.ref C) "__init__" = some (some (.ref f))
  fn : PySem.W.isFn K (.ref f) = true
  kp : PySem.W.keepIn K (.ref C) = true

theorem run_make {pins : List (Addr × Obj)} {σ : St} {H : Hp} {s : Shared} {Q : VK} {us : List Value} {vs : List V} (M : Mk X.K C f) (F : FnOk X.prog X.w X.K X.mg X.base CX k f fd ps sp) (hr : Room (k + 1) X.A) (hb : Binds X.K fd ps ds) (hd : Vals dvs ds)
    (hx : Passes CX X E) (I : Inv X pins σ H s) (r : Vals vs us)
    (h : ∀ x dx, H x = none → H dx = none → dx ≠ x → sp (.ref x :: (vs ++ dvs)) (upd (upd H dx (.own x)) x (.ins C dx [])) (fun v H2 => v = .non ∧ Q (.ref x) H2) E) :
    wpAny (model X.prog X.w) X.A (call (.ref C) us) (EP X pins σ Q) X.xe s := by
  have hq := h (s.heap.objs.size + 1) s.heap.objs.size (I.hok.fresh (Nat.le_succ _)) (I.hok.fresh (Nat.le_refl _)) (Nat.ne_of_lt (Nat.lt_succ_self _))
  have I2 := Inv.made (C := C) I
  have r2 : Vals (V.ref (s.heap.objs.size + 1) :: (vs ++ dvs)) (Value.ref (s.heap.objs.size + 1) :: (us ++ ds)) := .cons rfl (r.append hd)
  have hl : (Value.ref (s.heap.objs.size + 1) :: us ++ ds).length = ps.length := by
    have e := r2.length
    rw [F.len _ _ _ _ hq] at e
    exact e.symm
  refine wpAny_call (make_map (f := f) I.kIn M.makes M.init (beq_iff_eq.mp M.fn) (codeAny_mono (F.run _ X.stack _ _ ⟨Value.ref (s.heap.objs.size + 1) :: us, []⟩ (Value.ref (s.heap.objs.size + 1) :: (us ++ ds)) _ _ E (hr.make C us [])
    (I2.env0.make C us []) (hb _ (Value.ref (s.heap.objs.size + 1) :: us) I2.kIn hl) r2 hq) fun r s' hq' => ?_))
  cases r with
  | error e => exact hx pins σ _ _ e s' I2 hq'
  | ok fl =>
    cases fl with
    | ret u =>
      obtain ⟨v, H', I3, rv, ev, q3⟩ := I2.after hq'
      subst ev
      exact ⟨rv, ⟨V.ref (s.heap.objs.size + 1), H', I3, rfl, q3⟩⟩
    | next => exact False.elim hq'
    | brk => exact False.elim hq'
    | cont => exact False.elim hq'
theorem pe_make (M : Mk X.K C f) (F : FnOk X.prog X.w X.K X.mg X.base CX k f fd ps sp) (hr : Room (k + 1) X.A) (hg : Gl X x) (hm : X.mg x = some (.ref C)) (hb : Binds X.K fd ps ds) (hd : Vals dvs ds) (hx : Passes CX X E)
    (ha : PA X (e :: es) t) (hdb : (x == ("__debug__" : Str)) = false := by decide) (he : starEach (e :: es) X.env = (false, eval e X.env) :: starEach es X.env := by rfl) (hpl : (backTo pos (starEach es X.env)).any (·.1) = false := by rfl) :
    PE X (.Call (.Name x p) (e :: es) [] pos) (tMake C sp dvs E t) := by
  intro pins s σ H Q I h
  refine wpAny_Call_Name_kw (ld_glob I hg hm ?_ hdb)
  refine PySem.W.callWith_K (h₀ := X.base) I.ok.mod.kin M.kp (thn (ha pos pins s σ H _ I h) fun us s1 ⟨vs, H1, I1, r, q⟩ => ⟨I1.kIn, ?_⟩) he hpl
  exact run_make M F hr hb hd hx I1 r q
end

/-! ### keywords -/
section
variable {X : Cx} {CX : CXT} {k : Nat} {f C : Addr} {fd : FuncData} {ps ks : List Str} {sp : Sp} {E : XK} {x m : Str} {p pos apos kpos : Pos} {e o : Expr} {es : List Expr} {kws : List Keyword} {te ta : TE} {t tk : TA} {nm : Option Str}
variable {g : List Value → List Value → List Value} {gV : List V → List V → List V}
end

/-! ### a def's body keeps its promise -/
/-- names: the parameters first -/
structure FnScope (N P : List Str) (sc : Scope) : Prop where
  kind : sc.kind = .function
  co : sc.isCoroutine = false
  gen : sc.isGenerator = false
  nd : N.Nodup
  pre : N.take P.length = P
  par : ∀ x ∈ P, sc.names.lookup x = some .local ∨ sc.names.lookup x = some .cell
  nofree : ∀ y ∈ sc.names, y.2 ≠ .free

theorem bindL_out {kindOf : Str → Option NameKind} {x : Str} : ∀ {binds : List (Str × Value)} {m : Str → Option Value}, (∀ v, (x, v) ∉ binds) → bindL kindOf binds m x = m x
  | [], _, _ => rfl
  | (n, v) :: r, m, h => by
    unfold bindL
    rw [bindL_out fun w hw => h w (List.mem_cons_of_mem _ hw)]
    split
    · have : x ≠ n := by rintro rfl; exact h v List.mem_cons_self
      simp [this]
    · rfl
theorem bindC_out {kindOf : Str → Option NameKind} {x : Str} : ∀ {binds : List (Str × Value)} {m : Str → Option Value}, (∀ v, (x, v) ∉ binds) → bindC kindOf binds m x = m x
  | [], _, _ => rfl
  | (n, v) :: r, m, h => by
    unfold bindC
    rw [bindC_out fun w hw => h w (List.mem_cons_of_mem _ hw)]
    split
    · rfl
    · have : x ≠ n := by rintro rfl; exact h v List.mem_cons_self
      simp [this]
theorem bindL_get {kindOf : Str → Option NameKind} {x : Str} {v : Value} : ∀ {P : List Str} {vs : List Value} {i : Nat} {m : Str → Option Value}, P.Nodup → P[i]? = some x → vs[i]? = some v → kindOf x = some .local →
    bindL kindOf (P.zip vs) m x = some v
  | [], _, _, _, _, h, _, _ => by simp at h
  | _ :: _, [], _, _, _, _, h, _ => by simp at h
  | p :: P, w :: vs, 0, m, nd, h1, h2, hk => by
    simp at h1 h2; subst h1; subst h2
    show bindL kindOf ((p, w) :: P.zip vs) m p = _
    unfold bindL
    rw [bindL_out fun v hv => (List.nodup_cons.mp nd).1 (List.of_mem_zip hv).1, if_pos hk]
    simp
  | p :: P, w :: vs, i + 1, m, nd, h1, h2, hk => by
    show bindL kindOf ((p, w) :: P.zip vs) m x = _
    unfold bindL
    exact bindL_get (i := i) (List.nodup_cons.mp nd).2 (by simpa using h1) (by simpa using h2) hk
theorem bindC_get {kindOf : Str → Option NameKind} {x : Str} {v : Value} : ∀ {P : List Str} {vs : List Value} {i : Nat} {m : Str → Option Value}, P.Nodup → P[i]? = some x → vs[i]? = some v → kindOf x ≠ some .local →
    bindC kindOf (P.zip vs) m x = some v
  | [], _, _, _, _, h, _, _ => by simp at h
  | _ :: _, [], _, _, _, _, h, _ => by simp at h
  | p :: P, w :: vs, 0, m, nd, h1, h2, hk => by
    simp at h1 h2; subst h1; subst h2
    show bindC kindOf ((p, w) :: P.zip vs) m p = _
    unfold bindC
    rw [bindC_out fun v hv => (List.nodup_cons.mp nd).1 (List.of_mem_zip hv).1, if_neg hk]
    simp
  | p :: P, w :: vs, i + 1, m, nd, h1, h2, hk => by
    show bindC kindOf ((p, w) :: P.zip vs) m x = _
    unfold bindC
    exact bindC_get (i := i) (List.nodup_cons.mp nd).2 (by simpa using h1) (by simpa using h2) hk

/-- the names' values at the entry -/
def start (N : List Str) (vs : List V) : St := vs.map some ++ List.replicate (N.length - vs.length) none

/-- the context of a def's body, at its entry; an exception leaves the frame, then lies as CX says -/
def cxOf (CX : CXT) (P : Program) (w : World) (K : PySem.W.Frag) (mg : Str → Option Value) (base : Heap) (N : List Str) (qual : Str) (scope : Scope) (f : Addr) (cd : Value) (A : Around) (outer : List Env) (s : Shared) (H : Hp) (E : XK) : Cx where
  prog := P
  w := w
  K := K
  mg := mg
  base := base
  A := A.deeper (envOfC qual scope s.heap.objs.size f cd)
  N := N
  s₀ := s
  H₀ := H
  env := envOfC qual scope s.heap.objs.size f cd
  outer := outer
  stack := envOfC qual scope s.heap.objs.size f cd :: outer
  ex := []
  calm := true
  fn := fun _ => true
  pn := []
  xe := fun e s' => wpAny (model P w) (A.deeper (envOfC qual scope s.heap.objs.size f cd)) (leaving (envOfC qual scope s.heap.objs.size f cd) e) (fun _ s'' => CX outer H s E e s'') (fun e' s'' => CX outer H s E e' s'') s'

theorem cell_has {sc : Scope} {n : Nat} {x : Str} (h : sc.names.lookup x = some .cell) : ∃ c, (cellsFrom n sc.names []).lookup x = some c := by
  have q := PySem.W.cellsFrom_some sc.names n [] (.inl h)
  exact Option.isSome_iff_exists.mp q

theorem inv_start {CX : CXT} {P : Program} {w : World} {K : PySem.W.Frag} {mg : Str → Option Value} {base : Heap} {N ps : List Str} {qual : Str} {scope : Scope} {f : Addr} {cd : Value} {A : Around} {outer : List Env} {s s1 : Shared} {H : Hp} {E : XK} {us : List Value} {vs : List V}
    (S : FnScope N ps scope) (hd : A.handled = none) (e0 : Env0 P w K mg base A outer s H) (hl : vs.length = ps.length) (r : Vals vs us)
    (x : InCallC s s.heap.objs.size (bindL (envOfC qual scope s.heap.objs.size f cd).kindOf (ps.zip us) fun _ => none) (cellsFrom (s.heap.objs.size + 1) scope.names []) (bindC (envOfC qual scope s.heap.objs.size f cd).kindOf (ps.zip us) fun _ => none) s1) :
    Inv (cxOf CX P w K mg base N qual scope f cd A outer s H E) [] (start N vs) H s1 := by
  have hpl : ps.length ≤ N.length := by have := congrArg List.length S.pre; rw [List.length_take] at this; omega
  obtain ⟨h1, tk, rfl, hk⟩ := x.done
  have noA : ∀ b : Addr, b ∉ (cxOf CX P w K mg base N qual scope f cd A outer s H E).ex := fun b z => absurd (show b ∈ ([] : List Addr) from z) (by simp)
  refine ⟨⟨e0.mod, S.kind, rfl, rfl, Nat.le_refl _, fun y z c h1 h2 => ?_, fun y hy => ?_, fun y c _ h => ?_, fun _ => hd, Around.frames_deeper e0.frames, .inr ⟨rfl, rfl⟩, fun b z => absurd z (noA b), e0.bs, e0.bsz, fun b _ _ => noA b, fun b z => absurd z (noA b), e0.funs, e0.frf⟩,
    rfl, e0.bare, Un.kept hk, ⟨_, x.toInCall.ns, fun i y v h1 h2 h3 => ?_⟩, fun y c h => ⟨_, x.cell y c h⟩, e0.hok.fresh (Nat.le_refl _), fun y c h => ?_, fun p hp => absurd (show p ∈ ([] : List (Addr × Obj)) from hp) (by simp), e0.hok.kept hk, ?_⟩
  · exact name_of_addr x.apart (PySem.mem_of_lookup h1) (PySem.mem_of_lookup h2)
  · have hy : scope.names.lookup y = some .cell ∨ scope.names.lookup y = some .free := hy
    rcases hy with hy | hy
    · exact cell_has hy
    · exact absurd rfl (S.nofree _ (PySem.mem_of_lookup hy))
  · exact Nat.le_of_lt (x.above y c (PySem.mem_of_lookup h))
  · have hi : i < vs.length := by
      unfold start at h2
      by_cases hi : i < vs.length
      · exact hi
      · rw [List.getElem?_append_right (by simpa using hi)] at h2
        rw [List.getElem?_replicate] at h2
        split at h2 <;> cases h2
    have ha : vs[i]? = some v := by
      unfold start at h2
      rw [List.getElem?_append_left (by simpa using hi), List.getElem?_map] at h2
      cases e : vs[i]? with
      | none => rw [e] at h2; cases h2
      | some a => rw [e] at h2; cases h2; rfl
    obtain ⟨u, hu, rv⟩ := r.get ha
    have hp : ps[i]? = some y := by
      rw [← S.pre, List.getElem?_take_of_lt (by omega)]; exact h1
    have ndP : ps.Nodup := by rw [← S.pre]; exact S.nd.sublist (List.take_sublist _ _)
    refine ⟨u, rv, ?_⟩
    rcases S.par y (List.mem_of_getElem? hp) with k | k
    · exact .inl ⟨k, bindL_get ndP hp hu k⟩
    · obtain ⟨c, e⟩ := cell_has (n := s.heap.objs.size + 1) k
      refine .inr ⟨.inl k, c, e, ?_⟩
      have q := x.cell y c e
      rw [bindC_get ndP hp hu (by show scope.names.lookup y ≠ _; rw [k]; decide)] at q
      exact q
  · exact e0.hok.fresh (Nat.le_of_lt (x.above y c (PySem.mem_of_lookup h)))
  · unfold start
    show _ = N.length
    rw [List.length_append, List.length_map, List.length_replicate]
    omega

/-- THE RULE: a def (or a method) of the text, by its body. The body's reading t is chosen for each entry; it is run at the parameters' values -/
theorem fn_of {CX : CXT} {P : Program} {w : World} {K : PySem.W.Frag} {mg : Str → Option Value} {base : Heap} {k : Nat} {f : Addr} {name qual : Str} {params : Arguments} {body : List Stmt} {scope : Scope} {dV kV doc pm cdv ct oc : Value} {an od : Option Addr}
    {osl : Array (Option Value)} {N ps : List Str} {sp : Sp} (lk : K.lookup f = some ⟨oc, od, .func (PySem.W.fnOf name qual params body scope dV kV doc pm an cdv ct), osl⟩) (hcd : PySem.W.codeIn K cdv qual = true) (S : FnScope N ps scope)
    (len : ∀ vs H Q E, sp vs H Q E → vs.length = ps.length)
    (hbody : ∀ (A : Around) (outer : List Env) (s : Shared) (H : Hp) (vs : List V) (Q : VK) (E : XK), Room k (A.deeper (envOfC qual scope s.heap.objs.size f cdv)) → sp vs H Q E →
      ∃ t, PSs (cxOf CX P w K mg base N qual scope f cdv A outer s H E) body t ∧ t { nx := fun _ H' => Q .non H', rt := Q } (start N vs) H) :
    FnOk P w K mg base CX (k + 1) f (PySem.W.fnOf name qual params body scope dV kV doc pm an cdv ct) ps sp := by
  refine ⟨len, fun A outer s H args us vs Q E hr e0 hb r hsp => ?_⟩
  have hl := len _ _ _ _ hsp
  have KX : K.In s.heap := e0.mod.kin.keeps fun b o e => (e0.bs b o e).1
  have lim : s.heap.NoLimit := e0.mod.nolimit.keeps fun b o e => (e0.bs b o e).1
  have hkind : ∀ y ∈ ps.zip us, scope.names.lookup y.1 = some .local ∨ (scope.names.lookup y.1 = some .cell ∧ ((cellsFrom (s.heap.objs.size + 1) scope.names []).lookup y.1).isSome = true) := fun ⟨n, v⟩ hy => by
    rcases S.par n (List.of_mem_zip hy).1 with q | q
    · exact .inl q
    · exact .inr ⟨q, PySem.W.cellsFrom_some _ _ _ (.inl q)⟩
  refine codeAny_call_function hr.depth (KX _ _ lk) rfl S.co S.gen rfl (PySem.W.codeRec_of KX hcd) (hb _ _ _ _ ?_)
  refine wpAny_newFunctionEnv_cells S.kind hkind fun env he s1 x => ?_
  subst he
  refine ⟨lim.keeps x.toInCall.keep, codeAny_func ?_⟩
  obtain ⟨t, ht, hq⟩ := hbody A outer s H vs Q E (hr.deeper _) hsp
  have I : Inv (cxOf CX P w K mg base N qual scope f cdv A outer s H E) [] (start N vs) H s1 := inv_start S hr.hd e0 hl r x
  refine wpAny_mono (ht [] s1 (start N vs) H _ I hq) (fun fl s' hs => ?_) fun e s' hs => hs
  have fin : ∀ {σ' : St} {H' : Hp} {v : V} {u : Value}, Inv (cxOf CX P w K mg base N qual scope f cdv A outer s H E) [] σ' H' s' → RelV v u → Q v H' → CE outer P w H s Q u s' :=
    fun {σ' H' v u} J rv q => ⟨v, H', J.os, J.bare, J.base, J.hok, rv, q⟩
  cases fl with
  | ret u =>
    obtain ⟨v, σ', H', J, rv, q⟩ := hs
    exact fin J rv q
  | next =>
    obtain ⟨σ', H', J, q⟩ := hs
    exact fin (v := V.non) (u := Value.none) J rfl q
  | brk =>
    obtain ⟨_, _, _, q⟩ := hs
    exact False.elim q
  | cont =>
    obtain ⟨_, _, _, q⟩ := hs
    exact False.elim q
end L2

namespace L2
open PySem PySem.Spec PyProof.Rows
section
variable {X : Cx} {x : Str} {p pos : Pos} {e : Expr} {es : List Expr} {t : TA} {id T : String} {r : List V → Hp → VK → Prop}

def tCB (r : List V → Hp → VK → Prop) (t : TA) : TE := fun σ H Q => t σ H fun vs H1 => r vs H1 Q
/-- f(e, ..), f a built-in function -/
theorem pe_callB (hc : CallR X (.builtin id) r) (hg : Gl X x) (hm : X.mg x = none) (hv : bootBuiltins x = some (.builtin id)) (ha : PA X (e :: es) t) (hn : x ≠ "__name__" := by decide) (hdb : (x == ("__debug__" : Str)) = false := by decide)
    (he : starEach (e :: es) X.env = (false, eval e X.env) :: starEach es X.env := by rfl) (hpl : (backTo pos (starEach es X.env)).any (·.1) = false := by rfl) : PE X (.Call (.Name x p) (e :: es) [] pos) (tCB r t) := by
  intro pins s σ H Q I h
  refine wpAny_Call_Name_kw (ld_blt I hg hm hv ?_ hn hdb)
  exact PyProof.Rows.callWith_builtin1 (thn (ha pos pins s σ H _ I h) fun us s1 ⟨vs, H1, I1, r1, q1⟩ => hc pins s1 σ H1 vs us Q I1 r1 q1) he hpl
/-- T(e, ..), T a built-in type -/
theorem pe_callTy (hc : CallR X (.type T) r) (hg : Gl X x) (hm : X.mg x = none) (hv : bootBuiltins x = some (.type T)) (ha : PA X (e :: es) t) (hn : x ≠ "__name__" := by decide) (hdb : (x == ("__debug__" : Str)) = false := by decide)
    (he : starEach (e :: es) X.env = (false, eval e X.env) :: starEach es X.env := by rfl) (hpl : (backTo pos (starEach es X.env)).any (·.1) = false := by rfl) : PE X (.Call (.Name x p) (e :: es) [] pos) (tCB r t) := by
  intro pins s σ H Q I h
  refine wpAny_Call_Name_kw (ld_blt I hg hm hv ?_ hn hdb)
  exact PyProof.Rows.callWith_type1 (thn (ha pos pins s σ H _ I h) fun us s1 ⟨vs, H1, I1, r1, q1⟩ => hc pins s1 σ H1 vs us Q I1 r1 q1) he hpl
end
end L2

namespace HT
open PySem PyProof.Rows

section
open PySem.SeqAt
open PySem.AutoSeq1 (wpAny_loadPart')
open PySem.MeetsSeq PySem.MeetsSeq2 PySem.MeetsSeq3

end

section
variable {prog : Program} {w : World} {A : Around} {E : Value → Shared → Prop} {s : Shared}

/-- t + u, t not empty -/
theorem cat_tup {t b : Addr} {vs ws : List Value} {Q : Value → Shared → Prop} (ht : IsTup s.heap t vs.toArray) (hb : IsTup s.heap b ws.toArray) (hv : vs ≠ [])
    (h1 : ws = [] → Q (.ref t) s) (h2 : ws ≠ [] → Q (.ref s.heap.objs.size) { s with heap := s.heap.push { cls := .type "tuple", data := .seq (vs ++ ws).toArray } })
    (hsz : vs.length + ws.length ≤ sizeLine) : wpAny (model prog w) A (binaryOp .Add (.ref t) (.ref b)) Q E s := by
  obtain ⟨⟨cls, dd, data, sl⟩, ho, hc, n, hd⟩ := id ht
  obtain ⟨⟨cls2, dd2, data2, sl2⟩, ho2, hc2, n2, hd2⟩ := id hb
  simp only at hc hd hc2 hd2
  subst hc hd hc2 hd2
  have e : vs.toArray ++ ws.toArray = (vs ++ ws).toArray := by simp
  by_cases hw : ws = []
  · exact concat_meets ⟨_, ho, rfl⟩ ⟨_, ho2, rfl⟩ noFill_tuple_add seq_tuple_add PySem.F.slot_tuple_add PySem.F.entry_tuple_add (PySem.F.args_tuple_add_2 _ _)
      (tuple_addW1 t b vs.toArray ws.toArray n n2 dd dd2 sl sl2 (by simpa using hv) (by simp [hw])) ⟨ho, ho2, h1 hw⟩
  · refine concat_meets ⟨_, ho, rfl⟩ ⟨_, ho2, rfl⟩ noFill_tuple_add seq_tuple_add PySem.F.slot_tuple_add PySem.F.entry_tuple_add (PySem.F.args_tuple_add_2 _ _)
      (tuple_addW2 t b vs.toArray ws.toArray n n2 dd dd2 sl sl2 (by simpa using hv) (by simpa using hw) (by rw [List.size_toArray, List.size_toArray]; exact hsz)) ⟨ho, ho2, ?_⟩
    rw [e]
    exact h2 hw

/-! ### t[a:b], not the whole -/
/-- a slice's bound as a place among n (d where it is left out) -/
def sIx (n d : Nat) : Option Int → Nat
  | none => d
  | some v => if v < 0 then (v + (n : Int)).toNat else min v.toNat n
theorem sIx_none (n d : Nat) : sIx n d none = d := rfl
theorem sIx_nat (n d k : Nat) : sIx n d (some (k : Int)) = min k n := by
  show (if (k : Int) < 0 then ((k : Int) + (n : Int)).toNat else min (k : Int).toNat n) = min k n
  rw [if_neg (by omega), Int.toNat_natCast]
theorem sIx_le (n d : Nat) (hd : d ≤ n) (o : Option Int) : sIx n d o ≤ n := by
  cases o with
  | none => exact hd
  | some v =>
    show (if v < 0 then (v + (n : Int)).toNat else min v.toNat n) ≤ n
    by_cases hv : v < 0
    · rw [if_pos hv]; omega
    · rw [if_neg hv]; exact Nat.min_le_right _ _
theorem clip_eq (v : Int) (n d : Nat) : (if v < 0 then max (v + (n : Int)) 0 else min v (n : Int)) = ((sIx n d (some v) : Nat) : Int) := by
  show (if v < 0 then max (v + (n : Int)) 0 else min v (n : Int)) = (((if v < 0 then (v + (n : Int)).toNat else min v.toNat n) : Nat) : Int)
  by_cases hv : v < 0
  · simp only [if_pos hv]; omega
  · simp only [if_neg hv]; omega
theorem adjust_gen (lo hi : Option Int) (n : Nat) : Builtin.Slice.sliceAdjust lo hi 1 (n : Int) = (((sIx n 0 lo : Nat) : Int), ((sIx n n hi : Nat) : Int)) := by
  have h1 : ¬ ((1 : Int) < 0) := by omega
  unfold Builtin.Slice.sliceAdjust
  simp only [h1, if_false]
  refine Prod.ext ?_ ?_
  · cases lo with
    | none => rfl
    | some v => exact clip_eq v n 0
  · cases hi with
    | none => rfl
    | some v => exact clip_eq v n n
theorem places_gen (i j : Nat) : Builtin.Slice.slicePlaces (i : Int) (j : Int) 1 = j - i := by
  unfold Builtin.Slice.slicePlaces
  have h1 : (1 : Int) > 0 := by omega
  simp only [h1, if_true, Int.ediv_one]
  split <;> omega
theorem slicePart_ {v : Value} {o : Option Int} {Q : Option Int → Shared → Prop} (p : IsPart v o) (h : Q o s) : wpAny (model prog w) A (Builtin.Slice.slicePartIndex v) Q E s := by
  cases p with
  | none => exact slicePart_none h
  | int i t => exact slicePart_int h
theorem sliceApplied_gen {sl : Addr} {vl vu : Value} {lo hi : Option Int} {n : Nat} {Q : Int × Int × Nat → Shared → Prop} (hs : s.heap.IsSliceOf sl vl vu .none) (pl : IsPart vl lo) (pu : IsPart vu hi)
    (h : Q (((sIx n 0 lo : Nat) : Int), 1, sIx n n hi - sIx n 0 lo) s) : wpAny (model prog w) A (Builtin.Slice.sliceApplied (.ref sl) (pure (n : Int))) Q E s := by
  obtain ⟨os, hos, hcs, hds⟩ := id hs
  unfold Builtin.Slice.sliceApplied Builtin.Slice.sliceFields
  refine wpAny_bind (wpAny_bind (wpAny_field hos hds (x := vl) rfl (wpAny_bind (wpAny_field hos hds (x := vu) rfl (wpAny_bind (wpAny_field hos hds (x := .none) rfl (wpAny_pure ?_)))))))
  refine wpAny_bind (slicePart_none ?_)
  show wpAny _ _ (if ((1 : Int) == 0) = true then _ else _) _ _ s
  rw [if_neg (by decide)]
  refine wpAny_bind (slicePart_ pl (wpAny_bind (slicePart_ pu (wpAny_bind (wpAny_pure ?_)))))
  show wpAny _ _ (match Builtin.Slice.sliceAdjust lo hi 1 (n : Int) with | (lo, hi) => pure (lo, (1 : Int), Builtin.Slice.slicePlaces lo hi 1)) _ _ s
  rw [adjust_gen lo hi n]
  show wpAny _ _ (pure (((sIx n 0 lo : Nat) : Int), (1 : Int), Builtin.Slice.slicePlaces ((sIx n 0 lo : Nat) : Int) ((sIx n n hi : Nat) : Int) 1)) _ _ s
  rw [places_gen]
  exact wpAny_pure h
theorem pick_gen (xs : Array Value) (i k : Nat) : ((List.range k).filterMap fun (m : Nat) => xs[((i : Int) + (m : Int) * 1).toNat]?).toArray = ((xs.toList.drop i).take k).toArray := by
  have e : (fun (m : Nat) => xs[((i : Int) + (m : Int) * 1).toNat]?) = fun m => xs[i + m]? := by
    funext m
    have : ((i : Int) + (m : Int) * 1).toNat = i + m := by omega
    rw [this]
  rw [e]
  have := pick_run xs i k
  rw [List.filterMap_map] at this
  have e2 : ((fun x => xs[x]?) ∘ fun x => i + x) = fun m => xs[i + m]? := rfl
  rw [e2] at this
  rw [this]

theorem getItem_tuple_cut {t sl : Addr} {items : Array Value} {vl vu : Value} {lo hi : Option Int} {Q : Value → Shared → Prop} (ht : IsTup s.heap t items) (hs : s.heap.IsSliceOf sl vl vu .none) (pl : IsPart vl lo) (pu : IsPart vu hi)
    (hw : ¬ (sIx items.size 0 lo = 0 ∧ sIx items.size items.size hi = items.size))
    (h : Q (.ref s.heap.objs.size) { s with heap := s.heap.push { cls := .type "tuple", data := .seq ((items.toList.drop (sIx items.size 0 lo)).take (sIx items.size items.size hi - sIx items.size 0 lo)).toArray } })
    (hsz : items.size ≤ sizeLine) : wpAny (model prog w) A (getItem (.ref t) (.ref sl)) Q E s := by
  have htake : sizeOk (.seq ((items.toList.drop (sIx items.size 0 lo)).take (sIx items.size items.size hi - sIx items.size 0 lo)).toArray) := by
    show ((items.toList.drop (sIx items.size 0 lo)).take (sIx items.size items.size hi - sIx items.size 0 lo)).toArray.size ≤ sizeLine
    rw [List.size_toArray, List.length_take, List.length_drop, Array.length_toList]
    omega
  have hj : sIx items.size items.size hi ≤ items.size := sIx_le _ _ (Nat.le_refl _) hi
  obtain ⟨os, hos, hcs, hds⟩ := id hs
  have hTs : s.TypeIs (.ref sl) "slice" := ⟨os, hos, hcs⟩
  unfold getItem
  try with_reducible refine wpAny_holding ?_
  first | refine wpAny_bind (wpAny_pure ?_) | skip
  refine wpAny_bind (wpAny_sequenceKey ht.typeIs (by decide) ?_)
  refine wpAny_bind (wpAny_callSpecial?_slot (name := Str.ofString "__getitem__") ht.typeIs PyProof.Rows.slot_tuple_getitem
    (wpAny_call_entry PyProof.Rows.slot_tuple_getitem ht.typeIs entry_tuple_getitem ?_ (args_tuple_getitem _ _)))
  show wpAny _ _ (Builtin.Tuple.tupleItemsOf (.ref t) >>= _) _ _ s
  refine wpAny_bind (tupleItemsOf_ ht ?_)
  refine wpAny_bind (wpAny_typeOf hTs ?_)
  rw [if_pos (by decide)]
  refine wpAny_bind (sliceApplied_gen hs pl pu ?_)
  have hno : ¬ ((((sIx items.size 0 lo : Nat) : Int) == 0 && (1 : Int) == 1 && (sIx items.size items.size hi - sIx items.size 0 lo) == items.size) = true) := by
    intro q
    rw [Bool.and_eq_true, Bool.and_eq_true] at q
    have q1 : ((sIx items.size 0 lo : Nat) : Int) = 0 := eq_of_beq q.1.1
    have q2 : sIx items.size items.size hi - sIx items.size 0 lo = items.size := eq_of_beq q.2
    exact hw ⟨by omega, by omega⟩
  show wpAny _ _ (if (((sIx items.size 0 lo : Nat) : Int) == 0 && (1 : Int) == 1 && (sIx items.size items.size hi - sIx items.size 0 lo) == items.size) = true then _ else _) _ _ s
  rw [if_neg hno, pick_gen]
  first
    | exact wpAny_bind (m := Builtin.Tuple.tupleExact _) (wpAny_newObj_type (wpAny_pure ⟨_, rfl, wpAny_pure h⟩) htake)
    | exact wpAny_bind (m := Builtin.Tuple.tupleExact _) (wpAny_newObj_type (wpAny_bind (wpAny_pure (wpAny_pure ⟨_, rfl, wpAny_pure h⟩))) htake)
    | exact wpAny_bind (wpAny_bind (m := Builtin.Tuple.tupleExact _) (wpAny_newObj_type (wpAny_pure (wpAny_pure ⟨_, rfl, wpAny_pure h⟩)) htake))
    | exact wpAny_bind (wpAny_bind (m := Builtin.Tuple.tupleExact _) (wpAny_newObj_type (wpAny_pure ⟨_, rfl, wpAny_pure h⟩) htake))
end
end HT

namespace L2
open PySem PySem.Spec PyProof.Rows

/-! ### the parts of a slice -/
abbrev TO := St → Hp → (Option Int → Hp → Prop) → Prop
/-- a slice's part (left out, or an int) -/
def PO (X : Cx) (e : Option Expr) (t : TO) : Prop :=
  ∀ (pins : List (Addr × Obj)) (s : Shared) (σ : St) (H : Hp) (Q : Option Int → Hp → Prop), Inv X pins σ H s → t σ H Q →
    wpAny (model X.prog X.w) X.A (evalPart e X.env) (fun u s' => ∃ o H', Inv X pins σ H' s' ∧ IsPart u o ∧ Q o H') X.xe s
def tNoPart : TO := fun _ H Q => Q none H
def tPart (t : TE) : TO := fun σ H Q => t σ H fun x H1 => ∃ i, x = .int i ∧ Q (some i) H1

section
variable {X : Cx} {e : Expr} {te : TE} {lo hi : Option Expr} {tl th : TO} {pos p2 : Pos}

theorem po_none : PO X none tNoPart := by
  intro pins s σ H Q I h
  rw [evalPart_none]
  exact wpAny_pure ⟨none, H, I, .none, h⟩
theorem po_some (h : PE X e te) : PO X (some e) (tPart te) := by
  intro pins s σ H Q I hw
  rw [evalPart_some]
  refine thn (h pins s σ H _ I hw) fun u s1 ⟨x, H1, I1, r1, q1⟩ => ?_
  obtain ⟨i, rfl, q⟩ := q1
  obtain ⟨t, rfl⟩ := r1
  exact ⟨some i, H1, I1, .int i t, q⟩

/-- what a slice of a value is, by values: the slice object stands at sl -/
def SlR (X : Cx) (r : V → Option Int → Option Int → Hp → VK → Prop) : Prop :=
  ∀ (pins : List (Addr × Obj)) (s : Shared) (σ : St) (H : Hp) (x : V) (v vl vu : Value) (lo hi : Option Int) (sl : Addr) (Q : VK), Inv X pins σ H s → RelV x v → s.heap.IsSliceOf sl vl vu .none → IsPart vl lo → IsPart vu hi → r x lo hi H Q →
    ∃ T id, typeLookup (.type T) "__getitem__" = pure (some (.builtin id)) ∧ s.TypeIs v T ∧ wpAny (model X.prog X.w) X.A (getItem v (.ref sl)) (EP X pins σ Q) X.xe s
def tSl (r : V → Option Int → Option Int → Hp → VK → Prop) (te : TE) (tl th : TO) : TE := fun σ H Q => te σ H fun x H1 => tl σ H1 fun l H2 => th σ H2 fun u H3 => r x l u H3 Q
/-- a[lo:hi], any a -/
theorem pe_slice {r : V → Option Int → Option Int → Hp → VK → Prop} (hr : SlR X r) (he : PE X e te) (hl : PO X lo tl) (hu : PO X hi th) : PE X (.Subscript e (.Slice lo hi none p2) pos) (tSl r te tl th) := by
  intro pins s σ H Q I h
  refine Subscript_ (thn (he pins s σ H _ I h) fun v s1 ⟨x, H1, I1, r1, q1⟩ => ?_)
  refine wpAny_Slice (thn (hl pins s1 σ H1 _ I1 q1) fun vl s2 ⟨l, H2, I2, pl, q2⟩ => thn (hu pins s2 σ H2 _ I2 q2) fun vu s3 ⟨u, H3, I3, pu, q3⟩ => ?_)
  rw [evalPart_none]
  refine wpAny_pure ?_
  have I4 : Inv X pins σ H3 { s3 with heap := s3.heap.push { cls := .type "slice", data := .fields #[vl, vu, .none] } } := I3.kept (t' := s3.toks) fun b ob q => Heap.get?_push_of_some _ q
  obtain ⟨T, id, hT, ht, hg⟩ := hr pins { s3 with heap := s3.heap.push { cls := .type "slice", data := .fields #[vl, vu, .none] } } σ H3 x v vl vu l u s3.heap.objs.size Q I4 r1 (Heap.IsSliceOf.new ..) pl pu q3
  show wpAny (model X.prog X.w) X.A (subscriptTail e (.Slice lo hi none p2) v (.ref s3.heap.objs.size)) (EP X pins σ Q) X.xe { s3 with heap := s3.heap.push { cls := .type "slice", data := .fields #[vl, vu, .none] } }
  exact tail_any (ops := [.ref s3.heap.objs.size, v]) ht hT hg (by with_unfolding_all rfl)

/-- the items of xs[lo:hi] -/
def cutV (xs : List V) (lo hi : Option Int) : List V := (xs.drop (HT.sIx xs.length 0 lo)).take (HT.sIx xs.length xs.length hi - HT.sIx xs.length 0 lo)
theorem cutV_length (xs : List V) (lo hi : Option Int) : (cutV xs lo hi).length ≤ xs.length := by
  unfold cutV
  rw [List.length_take, List.length_drop]
  omega
/-- t[lo:hi], not the whole of it (the whole would be t itself) -/
def rSlT (K : PySem.W.Frag) : V → Option Int → Option Int → Hp → VK → Prop := fun x lo hi H Q => ∃ a xs, x = .ref a ∧ SqT K H a xs ∧
  ¬ (HT.sIx xs.length 0 lo = 0 ∧ HT.sIx xs.length xs.length hi = xs.length) ∧ ∀ p, H p = none → Q (.ref p) (upd H p (.tup (cutV xs lo hi)))
theorem sl_tup : SlR X (rSlT X.K) := by
  intro pins s σ H x v vl vu lo hi sl Q I rx hs pl pu h
  obtain ⟨a, xs, rfl, hx, hw, q⟩ := h
  cases rx
  obtain ⟨its, r, ht, hz⟩ := I.tuple hx
  have hlen : its.toArray.size = xs.length := by rw [List.size_toArray]; exact r.length.symm
  refine ⟨"tuple", _, PyProof.Rows.slot_tuple_getitem.lookup, ht.typeIs, ?_⟩
  refine HT.getItem_tuple_cut ht hs pl pu (by rw [hlen]; exact hw) ?_ (by rw [hlen]; exact hz)
  rw [hlen]
  refine ⟨.ref s.heap.objs.size, _, I.laid (t' := s.toks) (o := .tup (cutV xs lo hi)) (fun b ob q => Heap.get?_push_of_some _ q) (Nat.le_refl _) ?_, rfl, q _ (I.hok.fresh (Nat.le_refl _))⟩
  exact ⟨Nat.le_trans (cutV_length xs lo hi) hz, _, (r.drop (HT.sIx xs.length 0 lo)).take (HT.sIx xs.length xs.length hi - HT.sIx xs.length 0 lo), IsTup.new _ _⟩

/-! ### t < u, t + u -/
/-- t + u, t not empty: u empty gives t itself -/
def rCatT (K : PySem.W.Frag) : R2 := fun x y H Q => ∃ a b xs ys, x = .ref a ∧ y = .ref b ∧ SqT K H a xs ∧ SqT K H b ys ∧ xs ≠ [] ∧ xs.length + ys.length ≤ sizeLine ∧
  (ys = [] → Q (.ref a) H) ∧ (ys ≠ [] → ∀ p, H p = none → Q (.ref p) (upd H p (.tup (xs ++ ys))))
theorem Vals.nil_iff {xs : List V} {us : List Value} (r : Vals xs us) : us = [] ↔ xs = [] := by
  cases r with
  | nil => simp
  | cons _ _ => simp
theorem op_catT : OpR X (binaryOp .Add) (rCatT X.K) := by
  intro pins s σ H x y v u Q I rx ry h
  obtain ⟨a, b, xs, ys, rfl, rfl, ha, hb, hx, hz, q1, q2⟩ := h
  cases rx
  cases ry
  obtain ⟨its, r1, p1, _⟩ := I.tuple ha
  obtain ⟨its2, r2, p2, _⟩ := I.tuple hb
  refine HT.cat_tup p1 p2 (fun z => hx (r1.nil_iff.mp z)) (fun z => ⟨.ref a, H, I, rfl, q1 (r2.nil_iff.mp z)⟩) (fun z => ?_) (by rw [← r1.length, ← r2.length]; exact hz)
  refine ⟨.ref s.heap.objs.size, _, I.laid (t' := s.toks) (o := .tup (xs ++ ys)) (fun b ob q => Heap.get?_push_of_some _ q) (Nat.le_refl _) ?_, rfl, q2 (fun w => z (r2.nil_iff.mpr w)) _ (I.hok.fresh (Nat.le_refl _))⟩
  exact ⟨by rw [List.length_append]; exact hz, _, r1.append r2, IsTup.new _ _⟩
end
end L2

namespace L2
open PySem PySem.Spec PyProof.Rows

/-! ### places -/
/-- the place that an index of any sign means -/
def ixN (n : Nat) (i : Int) : Option Nat := if 0 ≤ i then (if i < n then some i.toNat else none) else if -(n : Int) ≤ i then some (i + n).toNat else none
def atI {α : Type} (xs : List α) (i : Int) : Option α := (ixN xs.length i).bind fun j => xs[j]?
theorem ixN_seq {n : Nat} {i : Int} {j : Nat} (h : ixN n i = some j) : seqIndex? i n = some j ∧ j < n ∧ -(n : Int) ≤ i ∧ i < n := by
  unfold ixN at h
  by_cases h0 : 0 ≤ i
  · rw [if_pos h0] at h
    by_cases h1 : i < n
    · rw [if_pos h1] at h
      have e : i.toNat = j := Option.some.inj h
      exact ⟨by rw [seqIndex_of h0 h1, e], by omega, by omega, h1⟩
    · rw [if_neg h1] at h; cases h
  · rw [if_neg h0] at h
    by_cases h1 : -(n : Int) ≤ i
    · rw [if_pos h1] at h
      have e : (i + n).toNat = j := Option.some.inj h
      exact ⟨by rw [seqIndex_neg (by omega) h1, e], by omega, h1, by omega⟩
    · rw [if_neg h1] at h; cases h
theorem atI_get {α : Type} {xs : List α} {i : Int} {v : α} (h : atI xs i = some v) : ∃ j, seqIndex? i xs.length = some j ∧ xs[j]? = some v ∧ j < xs.length ∧ -(xs.length : Int) ≤ i ∧ i < xs.length := by
  unfold atI at h
  cases e : ixN xs.length i with
  | none => rw [e] at h; cases h
  | some j =>
    rw [e] at h
    obtain ⟨h1, h2, h3, h4⟩ := ixN_seq e
    exact ⟨j, h1, h, h2, h3, h4⟩
theorem atI_nat {α : Type} {xs : List α} {j : Nat} {v : α} (h : xs[j]? = some v) : atI xs (j : Int) = some v := by
  have hj : j < xs.length := (List.getElem?_eq_some_iff.mp h).1
  have e : ixN xs.length (j : Int) = some j := by
    unfold ixN
    rw [if_pos (by omega), if_pos (by omega)]; simp
  unfold atI; rw [e]; exact h
/-! ### what may be subscripted -/
/-- what stands as an index of a plain subscript -/
def PlainIx (b : Expr) : Prop := ∀ o i, subscripted b false o i = operate [o, i] (getItem o i)
/-- a subscript by values -/
def IxR (X : Cx) (r : R2) : Prop :=
  ∀ (value slice : Expr) (pins : List (Addr × Obj)) (s : Shared) (σ : St) (H : Hp) (x y : V) (v u : Value) (Q : VK), Inv X pins σ H s → RelV x v → RelV y u → r x y H Q →
    subscripted slice false v u = operate [v, u] (getItem v u) → wpAny (model X.prog X.w) X.A (subscriptTail value slice v u) (EP X pins σ Q) X.xe s
/-- a call of a builtin's method by values: the receiver, the arguments -/
def MtR (X : Cx) (id : String) (r : V → List V → Hp → VK → Prop) : Prop :=
  ∀ (pins : List (Addr × Obj)) (s : Shared) (σ : St) (H : Hp) (x : V) (xs : List V) (v : Value) (us : List Value) (Q : VK), Inv X pins σ H s → RelV x v → Vals xs us → r x xs H Q →
    wpAny (model X.prog X.w) X.A (call (.builtin id) (v :: us)) (EP X pins σ Q) X.xe s
section
variable {X : Cx} {a b : Expr} {ta tb : TE} {pos : Pos}
/-- a[b] -/
theorem pe_ix {r : R2} (hr : IxR X r) (ha : PE X a ta) (hb : PE X b tb) (hs : PlainIx b) : PE X (.Subscript a b pos) (tOp r ta tb) := by
  intro pins s σ H Q I h
  exact Subscript_ (binT ha hb I h fun v u s2 x y H2 I2 rx ry q => hr a b pins s2 σ H2 x y v u Q I2 rx ry q (hs _ _))

def rIxL (K : PySem.W.Frag) : R2 := fun x y H Q => ∃ p xs i v, x = .ref p ∧ y = .int i ∧ SqL K H p xs ∧ atI xs i = some v ∧ Q v H
def rIxT (K : PySem.W.Frag) : R2 := fun x y H Q => ∃ p xs i v, x = .ref p ∧ y = .int i ∧ SqT K H p xs ∧ atI xs i = some v ∧ Q v H
def rIxS : R2 := fun x y H Q => ∃ z i c, x = .str z ∧ y = .int i ∧ z.length ≤ sizeLine ∧ atI z.cps.toList i = some c ∧ Q (.str ⟨#[c]⟩) H
theorem ix_list : IxR X (rIxL X.K) := by
  intro value slice pins s σ H x y v u Q I rx ry h hs
  obtain ⟨p, xs, i, z, rfl, rfl, hq, he, q⟩ := h
  cases rx
  obtain ⟨t, rfl⟩ := ry
  obtain ⟨its, r, pl, hz⟩ := I.list hq
  obtain ⟨j, h1, h2, h3, h4, h5⟩ := atI_get he
  obtain ⟨w, ew, rw'⟩ := r.get h2
  have hl := r.length
  have hn := line63
  have fin : EP X pins σ Q w s := ⟨z, H, I, rw', q⟩
  by_cases h0 : 0 ≤ i
  · have hj : i.toNat = j := by
      rw [seqIndex_of h0 h5] at h1
      exact Option.some.inj h1
    exact item_listR pl.isList h0 (by omega) (by rw [hj]; simpa using ew) fin hs
  · have hj : (i + (its.toArray.size : Int)).toNat = j := by
      rw [seqIndex_neg (by omega) h4] at h1
      rw [List.size_toArray, ← hl]
      exact Option.some.inj h1
    exact subscriptTail_builtinR (x := w) pl.isList.typeIs slot_list_getitem.lookup
      (wpAny_getItem_list_neg (Q := fun r s' => r = w ∧ EP X pins σ Q r s') pl.isList (by omega) (by rw [List.size_toArray] <;> omega) (by omega) (by rw [hj]; simpa using ew) ⟨rfl, fin⟩) hs
theorem ix_tup : IxR X (rIxT X.K) := by
  intro value slice pins s σ H x y v u Q I rx ry h hs
  obtain ⟨p, xs, i, z, rfl, rfl, hq, he, q⟩ := h
  cases rx
  obtain ⟨t, rfl⟩ := ry
  obtain ⟨its, r, pl, hz⟩ := I.tuple hq
  obtain ⟨j, h1, h2, h3, h4, h5⟩ := atI_get he
  obtain ⟨w, ew, rw'⟩ := r.get h2
  have hl := r.length
  have hn := line63
  have fin : EP X pins σ Q w s := ⟨z, H, I, rw', q⟩
  exact subscriptTail_builtinR (x := w) pl.typeIs slot_tuple_getitem.lookup
    (getItem_tuple (j := j) (Q := fun r s' => r = w ∧ EP X pins σ Q r s') pl (by omega) (by omega) (by rw [List.size_toArray, ← hl]; exact h1) (by simpa using ew) ⟨rfl, fin⟩) hs
theorem ix_str : IxR X rIxS := by
  intro value slice pins s σ H x y v u Q I rx ry h hs
  obtain ⟨z, i, c, rfl, rfl, hz, he, q⟩ := h
  obtain ⟨t, rfl⟩ := rx
  obtain ⟨t', rfl⟩ := ry
  obtain ⟨j, h1, h2, h3, h4, h5⟩ := atI_get he
  have hl : z.cps.toList.length = z.length := by simp [Str.length]
  rw [hl] at h1 h4 h5
  have hn := line63
  exact tail_any (typeIs_str s z t) slot_str_getitem.lookup (getItem_str (c := c) (by
    have e1 : decide (i < -(2 ^ 63 : Int)) = false := decide_eq_false (by omega)
    have e2 : decide (i ≥ 2 ^ 63) = false := decide_eq_false (by omega)
    rw [e1, e2, Bool.or_false]) (by rw [h1]; simpa using h2) ⟨.str ⟨#[c]⟩, H, I.tok _, ⟨_, rfl⟩, q⟩) hs
/-! ### xs[i] = v, any sign -/
/-- the list's object behind a store -/
theorem mapSeq_set (its : List Value) (n j : Nat) (u : Value) : Obj.mapSeq (·.setIfInBounds j u) { cls := .type "list", data := .seq its.toArray n } = { cls := .type "list", data := .seq (its.set j u).toArray n } := by
  simp [Obj.mapSeq]
theorem Inv.lst {pins : List (Addr × Obj)} {σ : St} {H : Hp} {s : Shared} {p : Addr} {xs : List V} (I : Inv X pins σ H s) (h : H p = some (.lst xs)) :
    ∃ (its : List Value) (n : Nat), Vals xs its ∧ s.heap.get? p = some { cls := .type "list", data := .seq its.toArray n } ∧ xs.length ≤ sizeLine := by
  obtain ⟨z, its, n, r, e⟩ := I.hok p _ h
  exact ⟨its, n, r, e, z⟩
/-- the list at p is written by an update of its object -/
theorem Inv.lstUpd {pins : List (Addr × Obj)} {σ : St} {H : Hp} {s : Shared} {p : Addr} {xs ys : List V} {its its' : List Value} {n n' : Nat} {f : Obj → Obj} (I : Inv X pins σ H s) (h : H p = some (.lst xs))
    (ho : s.heap.get? p = some { cls := .type "list", data := .seq its.toArray n }) (hf : f { cls := .type "list", data := .seq its.toArray n } = { cls := .type "list", data := .seq its'.toArray n' }) (r : Vals ys its') (hz : ys.length ≤ sizeLine) (t : Nat) :
    Inv X pins σ (upd H p (.lst ys)) { s with heap := s.heap.update p f, toks := t } := by
  have e : (s.heap.update p f).get? p = some { cls := .type "list", data := .seq its'.toArray n' } := by
    rw [Heap.get?_update_self f ho (by rw [hf] <;> rfl), hf]
  refine I.write (x := p) (e := p) (by rw [h]; trivial) (.inl rfl) (fun b u hb q => (Heap.get?_update_other _ _ (Ne.symm hb)).trans q) ⟨_, e⟩ ?_
  exact ⟨hz, its', n', r, e⟩
def rSetL : V → V → V → Hp → (Hp → Prop) → Prop := fun o i v H Q => ∃ p xs k j, o = .ref p ∧ i = .int k ∧ H p = some (.lst xs) ∧ ixN xs.length k = some j ∧ Q (upd H p (.lst (xs.set j v)))
theorem set_list : PSet X rSetL := by
  intro pins s σ H o i v ov iv u Q I ro ri rv h
  obtain ⟨p, xs, k, j, rfl, rfl, hp, hj, q⟩ := h
  cases ro
  obtain ⟨t, rfl⟩ := ri
  obtain ⟨its, n, r, ho, hz⟩ := I.lst hp
  obtain ⟨h1, h2, h3, h4⟩ := ixN_seq hj
  have hl := r.length
  have hn := line63
  have I' : Inv X pins σ (upd H p (.lst (xs.set j v))) { s with heap := s.heap.update p (Obj.mapSeq (·.setIfInBounds j u)) } :=
    I.lstUpd hp ho (mapSeq_set its n j u) (r.set rv j) (by rw [List.length_set]; exact hz) s.toks
  by_cases h0 : 0 ≤ k
  · have hk : k.toNat = j := by
      rw [seqIndex_of h0 h4] at h1
      exact Option.some.inj h1
    exact PySem.W.ki_setAt ho h0 (by omega) (by rw [List.size_toArray, ← hl]; exact h4) (by rw [hk]; exact ⟨_, I', q⟩)
  · have hk : (k + (its.toArray.size : Int)).toNat = j := by
      rw [seqIndex_neg (by omega) h3] at h1
      rw [List.size_toArray, ← hl]
      exact Option.some.inj h1
    exact PySem.W.ki_setBack ho (by omega) (by rw [List.size_toArray, ← hl]; exact h3) (by omega) (by rw [hk]; exact ⟨_, I', q⟩)

/-! ### slices -/
theorem slice_bounds (lo hi : Option Int) (n : Nat) : (sliceBounds lo hi none n).1 = ((HT.sIx n 0 lo : Nat) : Int) ∧ (sliceBounds lo hi none n).2.1 = ((HT.sIx n n hi : Nat) : Int) ∧ (sliceBounds lo hi none n).2.2 = 1 := by
  refine ⟨?_, ?_, rfl⟩
  · cases lo with
    | none => simp [sliceBounds, HT.sIx]
    | some i =>
      simp only [sliceBounds, HT.sIx, Option.getD_none, show (1 : Int) > 0 by decide, if_true]
      by_cases h : i < 0
      · simp only [h, if_true] <;> omega
      · simp only [h, if_false] <;> omega
  · cases hi with
    | none => simp [sliceBounds, HT.sIx]
    | some i =>
      simp only [sliceBounds, HT.sIx, Option.getD_none, show (1 : Int) > 0 by decide, if_true]
      by_cases h : i < 0
      · simp only [h, if_true] <;> omega
      · simp only [h, if_false] <;> omega
theorem slicePick_cut (its : List Value) (lo hi : Option Int) : slicePick its.toArray lo hi none = ((its.drop (HT.sIx its.length 0 lo)).take (HT.sIx its.length its.length hi - HT.sIx its.length 0 lo)).toArray := by
  obtain ⟨h1, h2, h3⟩ := slice_bounds lo hi its.toArray.size
  unfold slicePick
  rw [h1, h2, h3]
  simp only [sliceRange_one, pick_run, List.size_toArray] <;> rfl
/-- xs[lo:hi] of a list: a new list -/
def rSlL (K : PySem.W.Frag) : V → Option Int → Option Int → Hp → VK → Prop := fun x lo hi H Q => ∃ a xs, x = .ref a ∧ SqL K H a xs ∧ ∀ p, H p = none → Q (.ref p) (upd H p (.lst (cutV xs lo hi)))
theorem sl_list : SlR X (rSlL X.K) := by
  intro pins s σ H x v vl vu lo hi sl Q I rx hs pl pu h
  obtain ⟨a, xs, rfl, hx, q⟩ := h
  cases rx
  obtain ⟨its, r, ht, hz⟩ := I.list hx
  have hlen := r.length
  refine ⟨"list", _, slot_list_getitem.lookup, ht.isList.typeIs, ?_⟩
  refine wpAny_getItem_list_slice ht.isList hs pl pu .none (by simp) ?_ (by rw [List.size_toArray] <;> omega)
  rw [slicePick_cut, ← hlen]
  refine ⟨.ref s.heap.objs.size, _, I.laid (t' := s.toks) (o := .lst (cutV xs lo hi)) (fun b ob q => Heap.get?_push_of_some _ q) (Nat.le_refl _) ?_, rfl, q _ (I.hok.fresh (Nat.le_refl _))⟩
  exact ⟨Nat.le_trans (cutV_length xs lo hi) hz, _, 0, (r.drop (HT.sIx xs.length 0 lo)).take (HT.sIx xs.length xs.length hi - HT.sIx xs.length 0 lo), Heap.get?_push_size _ rfl⟩

/-! ### in, not in: flat items -/
def flatV : V → Bool
  | .non => true
  | .bl _ => true
  | .int _ => true
  | .str _ => true
  | _ => false
/-- == of flat values -/
def eqV : V → V → Bool
  | .non, .non => true
  | .bl a, .bl b => a == b
  | .bl a, .int b => (if a then 1 else 0) == b
  | .int a, .bl b => a == (if b then 1 else 0)
  | .int a, .int b => a == b
  | .str a, .str b => a == b
  | _, _ => false
theorem eqAt_V {A : Around} {s : Shared} {y x : V} {u v : Value} (ry : RelV y u) (rx : RelV x v) (fy : flatV y = true) (fx : flatV x = true) : SeqAt.EqAt A s u v (eqV y x) := by
  cases y with
  | non =>
    cases ry
    cases x with
    | non => cases rx; exact SeqAt.EqAt.same _
    | bl b => cases rx; exact SeqAt.EqAt.none_bool b
    | int b => obtain ⟨t, rfl⟩ := rx; exact SeqAt.EqAt.none_int b t
    | str b => obtain ⟨t, rfl⟩ := rx; exact SeqAt.EqAt.none_str b t
    | _ => exact absurd (show false = true from fx) Bool.false_ne_true
  | bl a =>
    cases ry
    cases x with
    | non => cases rx; exact SeqAt.EqAt.bool_none a
    | bl b => cases rx; exact SeqAt.EqAt.bool_bool a b
    | int b => obtain ⟨t, rfl⟩ := rx; exact SeqAt.EqAt.bool_int a b t
    | str b => obtain ⟨t, rfl⟩ := rx; exact SeqAt.EqAt.bool_str a b t
    | _ => exact absurd (show false = true from fx) Bool.false_ne_true
  | int a =>
    obtain ⟨t', rfl⟩ := ry
    cases x with
    | non => cases rx; exact SeqAt.EqAt.int_none a t'
    | bl b => cases rx; exact SeqAt.EqAt.int_bool a t' b
    | int b => obtain ⟨t, rfl⟩ := rx; exact SeqAt.EqAt.int_int a t' b t
    | str b => obtain ⟨t, rfl⟩ := rx; exact SeqAt.EqAt.int_str a t' b t
    | _ => exact absurd (show false = true from fx) Bool.false_ne_true
  | str a =>
    obtain ⟨t', rfl⟩ := ry
    cases x with
    | non => cases rx; exact SeqAt.EqAt.str_none a t'
    | bl b => cases rx; exact SeqAt.EqAt.str_bool a t' b
    | int b => obtain ⟨t, rfl⟩ := rx; exact SeqAt.EqAt.str_int a t' b t
    | str b => obtain ⟨t, rfl⟩ := rx; exact SeqAt.EqAt.str_str a t' b t
    | _ => exact absurd (show false = true from fx) Bool.false_ne_true
  | _ => exact absurd (show false = true from fy) Bool.false_ne_true
/-- the items' answers, read off the values (a value's own answer does not lean on its token) -/
def eqU (x : V) (u : Value) : Bool := match u with
  | .none => eqV .non x
  | .bool b => eqV (.bl b) x
  | .int i _ => eqV (.int i) x
  | .str z _ => eqV (.str z) x
  | _ => false
theorem eqU_of {x y : V} {u : Value} (r : RelV y u) (f : flatV y = true) : eqU x u = eqV y x := by
  cases y with
  | non => cases r; rfl
  | bl b => cases r; rfl
  | int i => obtain ⟨t, rfl⟩ := r; rfl
  | str z => obtain ⟨t, rfl⟩ := r; rfl
  | _ => exact absurd (show false = true from f) Bool.false_ne_true
theorem any_eqU {x : V} : ∀ {xs : List V} {us : List Value}, Vals xs us → xs.all flatV = true → us.any (eqU x) = xs.any fun y => eqV y x
  | _, _, .nil, _ => rfl
  | y :: xs, u :: us, .cons r t, f => by
    rw [List.all_cons, Bool.and_eq_true] at f
    rw [List.any_cons, List.any_cons, eqU_of r f.1, any_eqU t f.2]
theorem mem_eqAt {A : Around} {s : Shared} {x : V} {v : Value} (rx : RelV x v) (fx : flatV x = true) : ∀ {xs : List V} {us : List Value}, Vals xs us → xs.all flatV = true → ∀ u ∈ us, SeqAt.EqAt A s u v (eqU x u)
  | _, _, .nil, _ => fun u hu => by cases hu
  | y :: xs, u :: us, .cons r t, f => fun u' hu => by
    rw [List.all_cons, Bool.and_eq_true] at f
    rcases List.mem_cons.mp hu with rfl | hu
    · rw [eqU_of r f.1]; exact eqAt_V r rx f.1 fx
    · exact mem_eqAt rx fx t f.2 u' hu
def inV (x : V) (xs : List V) : Bool := xs.any fun y => eqV y x
/-- x in a list or tuple of flat items -/
def rIn (K : PySem.W.Frag) (neg : Bool) : R2 := fun x y H Q => ∃ p xs, y = .ref p ∧ (SqL K H p xs ∨ SqT K H p xs) ∧ flatV x = true ∧ xs.all flatV = true ∧ Q (.bl (if neg then !inV x xs else inV x xs)) H
theorem op_in_seq : OpR X (compareOp .In) (rIn X.K false) := by
  intro pins s σ H x y v u Q I rx ry h
  obtain ⟨p, xs, rfl, hq, fx, fs, q⟩ := h
  cases ry
  rcases hq with hq | hq
  · obtain ⟨its, r, pl, hz⟩ := I.list hq
    refine SeqAt.in_listAt (eqU x) pl.isList (fun w hw => mem_eqAt rx fx r fs w (by simpa using hw)) ⟨.bl _, H, I, rfl, ?_⟩
    rw [show its.toArray.any (eqU x) = its.any (eqU x) by simp, any_eqU r fs]
    exact q
  · obtain ⟨its, r, pl, hz⟩ := I.tuple hq
    refine SeqAt.in_tupleAt (eqU x) pl (fun w hw => mem_eqAt rx fx r fs w (by simpa using hw)) ⟨.bl _, H, I, rfl, ?_⟩
    rw [show its.toArray.any (eqU x) = its.any (eqU x) by simp, any_eqU r fs]
    exact q
/-! ### len, list(x), tuple(x) of any list or tuple that is read -/
theorem call_len_seq : CallR X (.builtin "len") (fun xs H Q => ∃ p ys, xs = [.ref p] ∧ (SqL X.K H p ys ∨ SqT X.K H p ys) ∧ Q (.int ys.length) H) := by
  intro pins s σ H xs us Q I r h
  obtain ⟨p, ys, rfl, hq, q⟩ := h
  obtain ⟨u, rfl, rx⟩ := vals1 r
  cases rx
  have hn := line63
  rcases hq with hq | hq
  · obtain ⟨its, r', pl, hz⟩ := I.list hq
    have hlen := r'.length
    exact Calls.call_len_list pl.isList (by simp only [List.size_toArray] <;> omega) ⟨.int ys.length, H, I.tok _, ⟨s.toks + 1, by rw [List.size_toArray, hlen]⟩, q⟩
  · obtain ⟨its, r', pl, hz⟩ := I.tuple hq
    have hlen := r'.length
    exact len_tuple pl (by simp only [List.size_toArray] <;> omega) ⟨.int ys.length, H, I.tok _, ⟨s.toks + 1, by rw [List.size_toArray, hlen]⟩, q⟩
theorem call_list_of : CallR X (.type "list") (fun xs H Q => ∃ p ys, xs = [.ref p] ∧ (SqL X.K H p ys ∨ SqT X.K H p ys) ∧ ∀ l, H l = none → Q (.ref l) (upd H l (.lst ys))) := by
  intro pins s σ H xs us Q I r h
  obtain ⟨p, ys, rfl, hq, q⟩ := h
  obtain ⟨u, rfl, rx⟩ := vals1 r
  cases rx
  have fin : ∀ (its : List Value), Vals ys its → ys.length ≤ sizeLine → ∀ (h' : Heap) (c' : Nat), (∀ b o', s.heap.get? b = some o' → h'.get? b = some o') →
      h'.get? s.heap.objs.size = some { cls := .type "list", dict := none, data := .seq its.toArray c', slots := #[] } → EP X pins σ Q (.ref s.heap.objs.size) { s with heap := h' } := fun its r' hz h' c' kp e =>
    ⟨.ref s.heap.objs.size, _, I.laid (t' := s.toks) kp (Nat.le_refl _) (show ObjOk X.prog X.w _ h' _ (.lst ys) from ⟨hz, its, c', r', e⟩), rfl, q _ (I.hok.fresh (Nat.le_refl _))⟩
  rcases hq with hq | hq
  · obtain ⟨its, r', pl, hz⟩ := I.list hq
    have hlen := r'.length
    obtain ⟨o, ho, hc, n, hd⟩ := pl.isList
    exact call_list_seq p (.inl rfl) ho hc hd (fun h' c' kp e => fin its r' hz h' c' kp e) (by simp only [List.size_toArray] <;> omega)
  · obtain ⟨its, r', pl, hz⟩ := I.tuple hq
    have hlen := r'.length
    obtain ⟨o, ho, hc, n, hd⟩ := pl
    exact call_list_seq p (.inr rfl) ho hc hd (fun h' c' kp e => fin its r' hz h' c' kp e) (by simp only [List.size_toArray] <;> omega)
theorem call_tuple_of : CallR X (.type "tuple") (fun xs H Q => ∃ p ys, xs = [.ref p] ∧ ((SqL X.K H p ys ∧ ∀ l, H l = none → Q (.ref l) (upd H l (.tup ys))) ∨ (SqT X.K H p ys ∧ Q (.ref p) H))) := by
  intro pins s σ H xs us Q I r h
  obtain ⟨p, ys, rfl, h⟩ := h
  obtain ⟨u, rfl, rx⟩ := vals1 r
  cases rx
  rcases h with ⟨hq, q⟩ | ⟨hq, q⟩
  · obtain ⟨its, r', pl, hz⟩ := I.list hq
    have hlen := r'.length
    refine call_tuple_list pl.isList (fun h' kp => ?_) (by simp only [List.size_toArray] <;> omega)
    have I1 : Inv X pins σ H { s with heap := h' } := I.kept (t' := s.toks) kp
    have I2 : Inv X pins σ (upd H h'.objs.size (.tup ys)) { s with heap := h'.push { cls := .type "tuple", data := .seq its.toArray } } :=
      I1.laid (t' := s.toks) (fun b o e => Heap.get?_push_of_some _ e) (Nat.le_refl _) (show ObjOk X.prog X.w _ _ _ (.tup ys) from ⟨hz, its, r', IsTup.new _ _⟩)
    exact ⟨.ref h'.objs.size, _, I2, rfl, q _ (I1.hok.fresh (Nat.le_refl _))⟩
  · obtain ⟨its, r', pl, hz⟩ := I.tuple hq
    exact call_tuple_same pl ⟨.ref p, H, I, rfl, q⟩

/-! ### the call of a builtin's method: o.m(..) -/
/-- the value is of that builtin type -/
def tyV (K : PySem.W.Frag) (T : String) (x : V) (H : Hp) : Prop := match x with
  | .str _ => T = "str"
  | .int _ => T = "int"
  | .ref p => (T = "list" ∧ ∃ xs, SqL K H p xs) ∨ (T = "tuple" ∧ ∃ o, K.lookup p = some o ∧ o.cls = .type "tuple" ∧ o.dict = none) ∨
      (T = "dict" ∧ ((∃ kvs, H p = some (.dK kvs)) ∨ ∃ kvs, H p = some (.dT kvs))) ∨ (T = "set" ∧ ∃ S n, H p = some (.set S n))
  | _ => False
theorem tyV_is {pins : List (Addr × Obj)} {σ : St} {H : Hp} {s : Shared} {T : String} {x : V} {v : Value} (I : Inv X pins σ H s) (r : RelV x v) (ty : tyV X.K T x H) :
    s.TypeIs v T ∧ ∀ a, v = .ref a → ∃ ob, s.heap.get? a = some ob ∧ ob.dict = none := by
  cases x with
  | str z =>
    obtain ⟨t, rfl⟩ := r
    cases (show T = "str" from ty)
    exact ⟨typeIs_str s z t, fun _ e => nomatch e⟩
  | int i =>
    obtain ⟨t, rfl⟩ := r
    cases (show T = "int" from ty)
    exact ⟨typeIs_int s i t, fun _ e => nomatch e⟩
  | ref p =>
    cases r
    rcases ty with ⟨rfl, xs, hq⟩ | ⟨rfl, o, hk, hc, hd⟩ | ⟨rfl, hk⟩ | ⟨rfl, S, n, hk⟩
    · obtain ⟨its, _, pl, _⟩ := I.list hq
      refine ⟨pl.isList.typeIs, fun a e => ?_⟩
      cases e
      obtain ⟨o, n, e, c, hd, _⟩ := pl
      exact ⟨o, e, hd⟩
    · refine ⟨⟨o, I.kIn p o hk, hc⟩, fun a e => ?_⟩
      cases e
      exact ⟨o, I.kIn _ o hk, hd⟩
    · have z : ∃ o, s.heap.get? p = some o ∧ o.ExactDict := by
        rcases hk with ⟨kvs, hk⟩ | ⟨kvs, hk⟩
        · obtain ⟨_, _, _, _, o, _, _, e, ex, _⟩ := I.hok p _ hk
          exact ⟨o, e, ex⟩
        · obtain ⟨_, _, _, _, o, _, _, e, ex, _⟩ := I.hok p _ hk
          exact ⟨o, e, ex⟩
      obtain ⟨o, e, ex⟩ := z
      refine ⟨⟨o, e, ex.1⟩, fun a e2 => ?_⟩
      cases e2
      exact ⟨o, e, ex.2.1⟩
    · obtain ⟨o, _, _, _, e, ex, _⟩ := I.hok p _ hk
      refine ⟨⟨o, e, ex.1⟩, fun a e2 => ?_⟩
      cases e2
      exact ⟨o, e, ex.2.1⟩
  | _ => exact False.elim ty
def tBM (K : PySem.W.Frag) (T : String) (r : V → List V → Hp → VK → Prop) (to : TE) (t : TA) : TE := fun σ H Q => to σ H fun x H1 => tyV K T x H1 ∧ t σ H1 fun xs H2 => r x xs H2 Q
variable {o e : Expr} {es : List Expr} {to : TE} {t : TA} {name : Str} {apos cpos : Pos} {T id : String} {r : V → List V → Hp → VK → Prop}
theorem pe_bm (pa : PlainAttrs T) (slot : Slot T name id) (hty : typeOf (.builtin id) = pure (.type "method_descriptor")) (hm : MtR X id r) (ho : PE X o to) (ha : PA X (e :: es) t)
    (hbase : attributeBase o name X.env (eval o X.env) = eval o X.env := by rfl)
    (hfew : ((backTo cpos (starEach (e :: es) X.env)).all (fun x => !x.1) && (backToKw cpos (keywordEach [] X.env)).all (fun x => x.1.isSome)
      && decide ((e :: es).length + ([] : List Keyword).length + (if ([] : List Keyword).isEmpty then 0 else 1) < 30)) = true := by rfl)
    (hline : (apos.endLine == cpos.line) = true := by rfl) (hs : starEach (e :: es) X.env = (false, eval e X.env) :: starEach es X.env := by rfl) (hplain : (backTo cpos (starEach es X.env)).any (·.1) = false := by rfl) :
    PE X (.Call (.Attribute o name apos) (e :: es) [] cpos) (tBM X.K T r to t) := by
  intro pins s σ H Q I h
  refine wpAny_Call_method_late hbase hfew hline rfl (thn (ho pins s σ H _ I h) fun v s1 ⟨x, H1, I1, r1, ty, q1⟩ => ?_)
  obtain ⟨h1, h2⟩ := tyV_is I1 r1 ty
  refine ⟨T, id, pa, slot, hty, h1, h2, ?_⟩
  have hA := ha cpos pins s1 σ H1 _ I1 q1
  rw [hs] at hA ⊢
  refine Calls.callWith_builtin (by show (false || (backTo cpos (starEach es X.env)).any (·.1)) = false; rw [hplain] <;> rfl) (Calls.evalArgs_plain ?_)
  exact thn hA fun us s2 ⟨vs, H2, I2, r2, q2⟩ => hm pins s2 σ H2 x vs v us Q I2 r1 r2 q2
/- xs.append(e), list.index on a module's tuple .. are MtR facts of 06m -/
end
end L2

namespace L2
open PySem PySem.Spec PyProof.Rows

def MtM (X : Cx) (id : String) (r : V → List V → Hp → VK → Prop) : Prop :=
  ∀ (pins : List (Addr × Obj)) (s : Shared) (σ : St) (H : Hp) (x : V) (xs : List V) (v : Value) (us : List Value) (Q : VK), Inv X pins σ H s → RelV x v → Vals xs us → r x xs H Q →
    wpAny (model X.prog X.w) X.A (call (.builtin id) (v :: us)) (EP X pins σ Q) X.xe s

/-! ### lists of values -/
theorem Vals.one : ∀ {x : V} {us : List Value}, Vals [x] us → ∃ u, us = [u] ∧ RelV x u
  | _, _, .cons r .nil => ⟨_, rfl, r⟩
theorem Vals.reverse {xs : List V} {us : List Value} (h : Vals xs us) : Vals xs.reverse us.reverse := by
  induction h with
  | nil => exact .nil
  | cons r t ih => rw [List.reverse_cons, List.reverse_cons]; exact Vals.append ih (.cons r .nil)
section
variable {X : Cx} {pins : List (Addr × Obj)} {σ : St} {H : Hp} {s : Shared} {l b : Addr} {xs ys zs : List V}

/-! ### the two steps: a tracked list is rewritten, a new list is laid -/
theorem Inv.lset {its its' : List Value} {n : Nat} {f : Array Value → Array Value} {t' : Nat} (I : Inv X pins σ H s) (hH : H l = some (.lst xs))
    (e : s.heap.get? l = some { cls := .type "list", data := .seq its.toArray n }) (hf : f its.toArray = its'.toArray) (hv : Vals ys its') (hz : ys.length ≤ sizeLine) :
    Inv X pins σ (upd H l (.lst ys)) { s with heap := s.heap.update l (Obj.mapSeq f), toks := t' } := by
  have q := PySem.IsL.update e f
  rw [hf] at q
  refine I.write (x := l) (e := l) (by rw [hH]; exact trivial) (.inl rfl) (fun b' u hb hu => (Heap.get?_update_other s.heap (Obj.mapSeq f) (Ne.symm hb)).trans hu) ⟨_, q⟩ ?_
  exact ⟨hz, its', _, hv, q⟩
theorem Inv.lnew {its : List Value} {t' : Nat} (I : Inv X pins σ H s) (hv : Vals ys its) (hz : ys.length ≤ sizeLine) :
    Inv X pins σ (upd H s.heap.objs.size (.lst ys)) { s with heap := s.heap.push { cls := .type "list", data := .seq its.toArray }, toks := t' } :=
  I.laid (fun _ _ q => Heap.get?_push_of_some _ q) (Nat.le_refl _) ⟨hz, its, 0, hv, Heap.get?_push_size _ rfl⟩
theorem Inv.fresh (I : Inv X pins σ H s) : H s.heap.objs.size = none := I.hok.fresh (Nat.le_refl _)
theorem Inv.lstM (I : Inv X pins σ H s) (hH : H l = some (.lst xs)) : xs.length ≤ sizeLine ∧ ∃ (its : List Value) (n : Nat), Vals xs its ∧ xs.length = its.length ∧ s.heap.get? l = some { cls := .type "list", data := .seq its.toArray n } := by
  obtain ⟨z, its, n, r, e⟩ := I.hok l _ hH
  exact ⟨z, its, n, r, r.length, e⟩

end

section
variable {X : Cx}

/-! ### methods -/
def rAppend : V → List V → Hp → VK → Prop := fun x vs H Q => ∃ l xs y, x = .ref l ∧ vs = [y] ∧ H l = some (.lst xs) ∧ xs.length < sizeLine ∧ Q .non (upd H l (.lst (xs ++ [y])))
theorem mt_append : MtM X "list.append" rAppend := by
  intro pins s σ H x vs v us Q I rx rv h
  obtain ⟨l, xs, y, rfl, rfl, hH, hz, q⟩ := h
  cases rx
  obtain ⟨u, rfl, ru⟩ := rv.one
  obtain ⟨z, its, n, r, hl, e⟩ := I.lstM hH
  refine call_meets F.slot_list_append ⟨_, e, rfl⟩ F.entry_list_append (F.args_list_append_2 _ _) (PySem.list_append l its.toArray n u (by rw [List.size_toArray]; omega)) ⟨e, ?_⟩
  refine ⟨.non, _, I.lset (its' := its ++ [u]) hH e (by simp) (r.append (.cons ru .nil)) ?_, rfl, q⟩
  rw [List.length_append, List.length_singleton]
  omega

/-! ### list + list, list += list, list * int -/
/-! ### del xs[i] -/
end

/-! ### xs[a:b] = ys -/
section
variable {prog : Program} {w : World} {A : Around} {E : Value → Shared → Prop} {s : Shared}
set_option maxRecDepth 100000 in
end

section
variable {X : Cx}
end
end L2

namespace L2
open PySem PySem.Spec PyProof.Rows

/-! ### lists of pairs as tables -/
section
variable {κ : Type} [DecidableEq κ]
def valV (kvs : List (κ × V)) (k : κ) : Option V := (kvs.find? fun kv => decide (kv.1 = k)).map (·.2)
/-- in its place, or at the end -/
def putK (kvs : List (κ × V)) (k : κ) (v : V) : List (κ × V) :=
  if (kvs.any fun kv => decide (kv.1 = k)) = true then kvs.map (fun kv => if kv.1 = k then (kv.1, v) else kv) else kvs ++ [(k, v)]
theorem valV_nil {k : κ} : valV ([] : List (κ × V)) k = none := rfl
theorem valV_pos {p : κ × V} {r : List (κ × V)} {k : κ} (e : p.1 = k) : valV (p :: r) k = some p.2 := by simp [valV, List.find?_cons, e]
theorem valV_neg {p : κ × V} {r : List (κ × V)} {k : κ} (e : ¬ p.1 = k) : valV (p :: r) k = valV r k := by simp [valV, List.find?_cons, e]
theorem valV_any (k : κ) : ∀ kvs : List (κ × V), (kvs.any fun kv => decide (kv.1 = k)) = (valV kvs k).isSome
  | [] => rfl
  | p :: r => by
    rw [List.any_cons]
    by_cases e : p.1 = k
    · simp only [valV_pos e, decide_eq_true e, Bool.true_or, Option.isSome_some]
    · rw [valV_neg e, decide_eq_false e, Bool.false_or]; exact valV_any k r
theorem valV_map (k j : κ) (y : V) : ∀ kvs : List (κ × V), valV (kvs.map fun kv => if kv.1 = k then (kv.1, y) else kv) j = (valV kvs j).map fun x => if j = k then y else x
  | [] => rfl
  | p :: r => by
    have ih := valV_map k j y r
    rw [List.map_cons]
    by_cases h : p.1 = k
    · rw [if_pos h]
      by_cases e : p.1 = j
      · rw [valV_pos (p := (p.1, y)) e, valV_pos e, Option.map_some, if_pos (e.symm.trans h)]
      · rw [valV_neg (p := (p.1, y)) e, valV_neg e, ih]
    · rw [if_neg h]
      by_cases e : p.1 = j
      · rw [valV_pos (p := p) e, valV_pos e, Option.map_some, if_neg (fun z => h (e.trans z))]
      · rw [valV_neg (p := p) e, valV_neg e, ih]
theorem valV_snoc (k j : κ) (y : V) : ∀ kvs : List (κ × V), valV kvs k = none → valV (kvs ++ [(k, y)]) j = if j = k then some y else valV kvs j
  | [], _ => by
    by_cases e : k = j
    · rw [if_pos e.symm]; exact valV_pos (p := (k, y)) e
    · rw [if_neg (fun z => e z.symm)]; exact valV_neg (p := (k, y)) e
  | p :: r, hn => by
    rw [List.cons_append]
    have hk : ¬ p.1 = k := fun z => by rw [valV_pos z] at hn; cases hn
    rw [valV_neg hk] at hn
    have ih := valV_snoc k j y r hn
    by_cases e : p.1 = j
    · rw [valV_pos e, valV_pos e, if_neg (fun z => hk (e.trans z))]
    · rw [valV_neg e, valV_neg e, ih]
theorem valV_put (kvs : List (κ × V)) (k j : κ) (y : V) : valV (putK kvs k y) j = if j = k then some y else valV kvs j := by
  unfold putK
  by_cases a : (kvs.any fun kv => decide (kv.1 = k)) = true
  · rw [if_pos a, valV_map]
    rw [valV_any] at a
    by_cases e : j = k
    · obtain ⟨x, hx⟩ := Option.isSome_iff_exists.mp a
      rw [if_pos e, e, hx, Option.map_some, if_pos rfl]
    · rw [if_neg e]
      cases valV kvs j with
      | none => rfl
      | some x => rw [Option.map_some, if_neg e]
  · rw [if_neg a]
    refine valV_snoc k j y kvs ?_
    rw [valV_any] at a
    cases q : valV kvs k with
    | none => rfl
    | some x => rw [q] at a; exact (a rfl).elim
theorem length_putK (kvs : List (κ × V)) (k : κ) (v : V) : (putK kvs k v).length ≤ kvs.length + 1 := by
  unfold putK
  split
  · rw [List.length_map]; omega
  · rw [List.length_append, List.length_cons, List.length_nil]; omega
theorem putK_new {kvs : List (κ × V)} {k : κ} (v : V) (h : valV kvs k = none) : putK kvs k v = kvs ++ [(k, v)] := by
  unfold putK
  rw [valV_any, h]
  exact if_neg (by decide)

theorem RelO.isSome_eq {o : Option V} {u : Option Value} (r : RelO o u) : o.isSome = u.isSome := by
  cases o with
  | none => cases u with
    | none => rfl
    | some _ => exact (show False from r).elim
  | some _ => cases u with
    | none => exact (show False from r).elim
    | some _ => rfl
/-- raw tables of the same keys -/
theorem KV.val {kvs : List (κ × V)} {vs : List (κ × Value)} (r : KV kvs vs) (k : κ) : RelO (valV kvs k) (valueAt vs k) := by
  unfold KV at r
  induction r with
  | nil => exact True.intro
  | @cons p q ps qs h t ih =>
    obtain ⟨h1, h2⟩ := h
    by_cases e : p.1 = k
    · have e' : q.1 = k := h1.symm.trans e
      have b : valueAt (q :: qs) k = some q.2 := by simp [valueAt, List.find?_cons, e']
      rw [valV_pos e, b]; exact h2
    · have e' : ¬ q.1 = k := fun z => e (h1.trans z)
      have b : valueAt (q :: qs) k = valueAt qs k := by simp [valueAt, List.find?_cons, e']
      rw [valV_neg e, b]; exact ih
theorem KV.any {kvs : List (κ × V)} {vs : List (κ × Value)} (r : KV kvs vs) (k : κ) : (kvs.any fun kv => decide (kv.1 = k)) = vs.any fun kv => decide (kv.1 = k) := by
  unfold KV at r
  induction r with
  | nil => rfl
  | cons h t ih => rw [List.any_cons, List.any_cons, ih, h.1]
theorem KV.repl {kvs : List (κ × V)} {vs : List (κ × Value)} (r : KV kvs vs) (k : κ) {y : V} {u : Value} (ry : RelV y u) :
    KV (kvs.map fun kv => if kv.1 = k then (kv.1, y) else kv) (vs.map fun kv => if kv.1 = k then (kv.1, u) else kv) := by
  unfold KV at r ⊢
  induction r with
  | nil => exact .nil
  | @cons p q ps qs h t ih =>
    rw [List.map_cons, List.map_cons]
    refine .cons ?_ ih
    obtain ⟨h1, h2⟩ := h
    by_cases e : p.1 = k
    · rw [if_pos e, if_pos (h1.symm.trans e)]; exact ⟨h1, ry⟩
    · rw [if_neg e, if_neg (fun z => e (h1.trans z))]; exact ⟨h1, h2⟩
theorem KV.put {kvs : List (κ × V)} {vs : List (κ × Value)} (r : KV kvs vs) (k : κ) {y : V} {u : Value} (ry : RelV y u) : KV (putK kvs k y) (stored vs k u) := by
  unfold putK stored
  rw [r.any k]
  by_cases e : (vs.any fun kv => decide (kv.1 = k)) = true
  · rw [if_pos e, if_pos e]; exact r.repl k ry
  · rw [if_neg e, if_neg e]; exact Paired.snoc r ⟨rfl, ry⟩
theorem KV.length {kvs : List (κ × V)} {vs : List (κ × Value)} (r : KV kvs vs) : kvs.length = vs.length := Paired.length r
end


/-! ### a tracked dict, its keys ints and texts or tuples of these -/
theorem kV_is {P : Program} {w : World} {k : Key} {u : Value} (r : RelV (kV k) u) : (mixKind P w).is k u = true := by
  cases k with
  | inl i => obtain ⟨t, e⟩ := (show ∃ t, u = Value.int i t from r); subst e; exact mixKind_int P w i t
  | inr x => obtain ⟨t, e⟩ := (show ∃ t, u = Value.str x t from r); subst e; exact mixKind_str P w x t
theorem items_are {P : Program} {w : World} : ∀ {ks : List Key} {us : List Value}, Vals (ks.map kV) us → ItemsAre (mixKind P w) ks us
  | [], _, r => by rw [List.map_nil] at r; cases r; exact .nil
  | k :: ks, _, r => by
    rw [List.map_cons] at r
    cases r with
    | cons h t => exact .cons (kV_is h) (items_are t)

/-- raw entries of a dict with tuple keys -/
abbrev KT (H : Hp) : List (List Key × V) → List (List Key × Addr × Value) → Prop := Paired fun p q => p.1 = q.1 ∧ H q.2.1 = some (.tup (p.1.map kV)) ∧ RelV p.2 q.2.2
theorem KT.val {H : Hp} {kvs : List (List Key × V)} {xs : List (List Key × Addr × Value)} (r : KT H kvs xs) (k : List Key) : RelO (valV kvs k) ((atKey xs k).map (·.2)) := by
  induction r with
  | nil => exact True.intro
  | @cons p q ps qs h t ih =>
    obtain ⟨h1, _, h2⟩ := h
    by_cases e : p.1 = k
    · have e' : q.1 = k := h1.symm.trans e
      have b : atKey (q :: qs) k = some q.2 := by simp [atKey, List.find?_cons, e']
      rw [valV_pos e, b]; exact h2
    · have e' : ¬ q.1 = k := fun z => e (h1.trans z)
      have b : atKey (q :: qs) k = atKey qs k := by simp [atKey, List.find?_cons, e']
      rw [valV_neg e, b]; exact ih
theorem KT.repl {H : Hp} {kvs : List (List Key × V)} {xs : List (List Key × Addr × Value)} (r : KT H kvs xs) (k : List Key) {y : V} {u : Value} (ry : RelV y u) :
    KT H (kvs.map fun kv => if kv.1 = k then (kv.1, y) else kv) (xs.map (putAt k u)) := by
  induction r with
  | nil => exact .nil
  | @cons p q ps qs h t ih =>
    rw [List.map_cons, List.map_cons]
    refine .cons ?_ ih
    obtain ⟨h1, h2, h3⟩ := h
    unfold putAt
    by_cases e : p.1 = k
    · rw [if_pos e, if_pos (h1.symm.trans e)]; exact ⟨h1, h2, ry⟩
    · rw [if_neg e, if_neg (fun z => e (h1.trans z))]; exact ⟨h1, h2, h3⟩
theorem KT.put {H : Hp} {kvs : List (List Key × V)} {xs : List (List Key × Addr × Value)} (r : KT H kvs xs) (k : List Key) {b : Addr} {y : V} {u : Value} (hb : H b = some (.tup (k.map kV))) (ry : RelV y u) :
    KT H (putK kvs k y) (storedH xs k b u) := by
  have e : (kvs.any fun kv => decide (kv.1 = k)) = (atKey xs k).isSome := by
    rw [valV_any, (r.val k).isSome_eq, Option.isSome_map]
  unfold putK storedH
  rw [e]
  by_cases q : (atKey xs k).isSome = true
  · rw [if_pos q, if_pos q]; exact r.repl k ry
  · rw [if_neg q, if_neg q]; exact Paired.snoc r ⟨rfl, hb, ry⟩
theorem KT.keeps {H H' : Hp} {kvs : List (List Key × V)} {xs : List (List Key × Addr × Value)} (r : KT H kvs xs) (ht : ∀ b ys, H b = some (.tup ys) → H' b = some (.tup ys)) : KT H' kvs xs :=
  Paired.mapP r fun _ _ z => ⟨z.1, ht _ _ z.2.1, z.2.2⟩

section
variable {P : Program} {w : World} {H : Hp} {h : Heap} {a : Addr}
theorem rd_of {u : HO} (ok : HOk P w H h) (e : Rd H a u) : ObjOk P w H h a u := e.ok ok
theorem dk_rd {kvs : List (Key × V)} (ok : HOk P w H h) (e : Rd H a (.dK kvs)) : kvs.length ≤ sizeLine ∧ (a == sysModules) = false ∧ ∃ vs, KV kvs vs ∧ h.DictOf (mixKind P w) a vs :=
  show ObjOk P w H h a (.dK kvs) from rd_of ok e
theorem dk_of {kvs : List (Key × V)} (ok : HOk P w H h) (e : H a = some (.dK kvs)) : kvs.length ≤ sizeLine ∧ (a == sysModules) = false ∧ ∃ vs, KV kvs vs ∧ h.DictOf (mixKind P w) a vs := dk_rd ok (.inl e)
/-- a tracked tuple of ints and texts is a key -/
theorem key_of {ks : List Key} (ok : HOk P w H h) (e : H a = some (.tup (ks.map kV))) : (tupleKind (mixKind P w)).is h ks a := by
  obtain ⟨_, its, r, o, h1, h2, n, h3⟩ := (show ObjOk P w H h a (.tup (ks.map kV)) from ok a _ e)
  exact ⟨o, its.toArray, n, h1, h2, h3, by simpa using items_are r⟩
theorem dt_rd {kvs : List (List Key × V)} (ok : HOk P w H h) (e : Rd H a (.dT kvs)) : kvs.length ≤ sizeLine ∧ (a == sysModules) = false ∧
    ∃ xs, KT H kvs xs ∧ h.DictOfH (tupleKind (mixKind P w)) a xs := by
  obtain ⟨z, y, xs, r, o, es, ep, h1, h2, h3, h4, h5⟩ := (show ObjOk P w H h a (.dT kvs) from rd_of ok e)
  refine ⟨z, y, xs, r, o, es, ep, h1, h2, h3, h4, fun x hx => ?_, h5⟩
  have all : ∀ {l : List (List Key × V)} {m : List (List Key × Addr × Value)}, KT H l m → ∀ x ∈ m, (tupleKind (mixKind P w)).is h x.1 x.2.1 := by
    intro l m q
    induction q with
    | nil => intro x hx; exact nomatch hx
    | @cons p q ps qs hq t ih =>
      intro x hx
      rcases List.mem_cons.mp hx with e | hx
      · subst e
        exact key_of ok (by rw [← hq.1]; exact hq.2.1)
      · exact ih x hx
  exact all r x hx
theorem dt_of {kvs : List (List Key × V)} (ok : HOk P w H h) (e : H a = some (.dT kvs)) : kvs.length ≤ sizeLine ∧ (a == sysModules) = false ∧
    ∃ xs, KT H kvs xs ∧ h.DictOfH (tupleKind (mixKind P w)) a xs := dt_rd ok (.inl e)
end

/-- what the dict at a holds at the key y -/
def DGet (H : Hp) (a : Addr) (y : V) (r : Option V) : Prop :=
  (∃ kvs k, Rd H a (.dK kvs) ∧ y = kV k ∧ r = valV kvs k) ∨ ∃ kvs k b, Rd H a (.dT kvs) ∧ y = .ref b ∧ H b = some (.tup (k.map kV)) ∧ r = valV kvs k
/-- the heap behind a[y] = v -/
def DPut (H : Hp) (a : Addr) (y v : V) (H' : Hp) : Prop :=
  (∃ kvs k, H a = some (.dK kvs) ∧ y = kV k ∧ kvs.length < sizeLine ∧ H' = upd H a (.dK (putK kvs k v))) ∨
  ∃ kvs k b, H a = some (.dT kvs) ∧ y = .ref b ∧ H b = some (.tup (k.map kV)) ∧ kvs.length < sizeLine ∧ H' = upd H a (.dT (putK kvs k v))
theorem DGet.k {H : Hp} {a : Addr} {kvs : List (Key × V)} {k : Key} (e : H a = some (.dK kvs)) : DGet H a (kV k) (valV kvs k) := .inl ⟨kvs, k, .inl e, rfl, rfl⟩
theorem DPut.k {H : Hp} {a : Addr} {kvs : List (Key × V)} {k : Key} {v : V} (e : H a = some (.dK kvs)) (hl : kvs.length < sizeLine) : DPut H a (kV k) v (upd H a (.dK (putK kvs k v))) := .inl ⟨kvs, k, e, rfl, hl, rfl⟩
section
variable {X : Cx} {pins : List (Addr × Obj)} {σ : St} {H : Hp} {s : Shared} {a : Addr} {y v : V} {u r : Value} {o : Option V} {A : Around} {E : Value → Shared → Prop}

theorem Inv.big (I : Inv X pins σ H s) : sysModules < s.heap.objs.size := by
  have h : mainGlobals < s.heap.objs.size := (I.mod.glob.keeps I.bk).lt
  exact Nat.lt_trans (by decide) h

/-- d[y], there -/
theorem d_getItem {Q : Value → Shared → Prop} (hu : A.units + 1 < cLine) (I : Inv X pins σ H s) (g : DGet H a y (some v)) (ry : RelV y u) (h : ∀ w' s', Inv X pins σ H s' → RelV v w' → Q w' s') :
    wpAny (model X.prog X.w) A (getItem (.ref a) u) Q E s := by
  rcases g with ⟨kvs, k, e, ey, l⟩ | ⟨kvs, k, b, e, ey, eb, l⟩
  · subst ey
    obtain ⟨z, hd, vs, rel, dd⟩ := dk_rd I.hok e
    obtain ⟨w', hw, rw'⟩ := RelO.some_of (v := v) (o := valueAt vs k) (by rw [l]; exact rel.val k)
    exact wpAny_getItem_of (kV_is ry) dd.mapOf hw (h w' _ (I.tok _) rw')
  · subst ey
    cases (show u = Value.ref b from ry)
    obtain ⟨z, hd, xs, rel, dd⟩ := dt_rd I.hok e
    obtain ⟨w', hw, rw'⟩ := RelO.some_of (v := v) (o := (atKey xs k).map (·.2)) (by rw [l]; exact rel.val k)
    obtain ⟨p, hp, hp2⟩ := Option.map_eq_some_iff.mp hw
    refine wpAny_getItem_heap (tupleKind_room_in1 hu) (key_of I.hok eb) dd hp ?_
    rw [hp2]
    exact h w' _ (I.tok _) rw'
/-- a dict's object is replaced -/
theorem d_write {h' : Heap} {t' : Nat} {ob : HO} (I : Inv X pins σ H s) (mu : Mut (H a)) (hs : Heap.SameBut a s.heap h') (he : ∃ q, h'.get? a = some q) (new : ObjOk X.prog X.w (upd H a ob) h' a ob) :
    Inv X pins σ (upd H a ob) { s with heap := h', toks := t' } :=
  I.write (x := a) (e := a) mu (.inl rfl) (fun b q hb z => (hs.2 b hb).trans z) he new
theorem dk_new {P : Program} {w : World} {H' : Hp} {h' : Heap} {kvs : List (Key × V)} {vs : List (Key × Value)} (z : kvs.length ≤ sizeLine) (hd : (a == sysModules) = false) (rel : KV kvs vs) (dd : h'.DictOf (mixKind P w) a vs) :
    ObjOk P w H' h' a (.dK kvs) := ⟨z, hd, vs, rel, dd⟩
/-- d[y] = v -/
theorem d_setItem {H' : Hp} {Q : Unit → Shared → Prop} (hu : A.units + 1 < cLine) (I : Inv X pins σ H s) (g : DPut H a y v H') (ry : RelV y u) (rv : RelV v r) (h : ∀ s', Inv X pins σ H' s' → Q () s') :
    wpAny (model X.prog X.w) A (setItem (.ref a) u r) Q E s := by
  rcases g with ⟨kvs, k, e, ey, l, eH⟩ | ⟨kvs, k, b, e, ey, eb, l, eH⟩
  · subst ey eH
    obtain ⟨z, hd, vs, rel, dd⟩ := dk_of I.hok e
    have hz : vs.length ≤ sizeLine := by rw [← rel.length]; exact z
    have hl : (putK kvs k v).length ≤ sizeLine := by have := length_putK kvs k v; omega
    refine wpAny_setItem_pairs (hsz := hz) (kV_is ry) dd fun h' dd' hs => h _ ?_
    have he : ∃ q, h'.get? a = some q := let ⟨q, _, _, hq, _⟩ := dd'; ⟨q, hq⟩
    exact d_write I (by rw [e]; exact True.intro) hs he (dk_new hl hd (rel.put k rv) dd')
  · subst ey eH
    cases (show u = Value.ref b from ry)
    obtain ⟨z, hd, xs, rel, dd⟩ := dt_of I.hok e
    have hz : xs.length ≤ sizeLine := by rw [← Paired.length rel]; exact z
    have hl : (putK kvs k v).length ≤ sizeLine := by have := length_putK kvs k v; omega
    refine wpAny_setItem_heap (hsz := hz) (tupleKind_room_in1 hu) (key_of I.hok eb) dd fun h' dd' hs => h _ ?_
    obtain ⟨q, es, ep, hq, h2, h3, h4, _, h5⟩ := dd'
    refine d_write I (by rw [e]; exact True.intro) hs ⟨q, hq⟩ ⟨hl, hd, _, (rel.put k eb rv).keeps fun c ys ec => ?_, q, es, ep, hq, h2, h3, h4, h5⟩
    rw [upd_ne (ne_of ec e (fun z => nomatch z))]
    exact ec
end

section
variable {X : Cx} {pins : List (Addr × Obj)} {σ : St} {H : Hp} {s : Shared} {a : Addr} {kvs : List (Key × V)} {k : Key} {u : Value} {A : Around} {E : Value → Shared → Prop}
end


/-! ### readings and rules -/
/-- the element of a subscription, not a slice -/
def NoSl (i : Expr) : Prop := ∀ ov iv, subscripted i false ov iv = operate [ov, iv] (getItem ov iv)
theorem subD_of {prog : Program} {w : World} {A : Around} {E : Value → Shared → Prop} {s : Shared} {env : Env} {value slice : Expr} {pos : Pos} {T id : String} {Q : Value → Shared → Prop}
    (hl : typeLookup (.type T) "__getitem__" = pure (some (.builtin id))) (hs : NoSl slice)
    (h : wpAny (model prog w) A (eval value env) (fun o s₁ => wpAny (model prog w) A (eval slice env) (fun i s₂ => s₂.TypeIs o T ∧ wpAny (model prog w) A (getItem o i) Q E s₂) E s₁) E s) :
    wpAny (model prog w) A (eval (.Subscript value slice pos) env) Q E s := by
  refine Subscript_ (wpAny_mono h (fun o s₁ h₁ => wpAny_mono h₁ (fun i s₂ h₂ => ?_) fun _ _ x => x) fun _ _ x => x)
  obtain ⟨hT, h₂⟩ := h₂
  unfold subscriptTail
  refine wpAny_bind ?_
  rw [getitemInPython_of_ne hT.not_modules]
  refine wpAny_bind (wpAny_specialOf hT hl ?_)
  have fin : wpAny (model prog w) A (subscripted slice false o i) (fun r s₃ => wpAny (model prog w) A (letTemporaryGo value o r >>= fun _ => pure r) Q E s₃) E s₂ := by
    rw [hs o i]
    exact wpAny_operating (wpAny_mono h₂ (fun r s₃ h₃ => wpAny_bind (wpAny_letTemporaryGo (wpAny_pure h₃))) fun _ _ x => x)
  first
    | exact wpAny_pure (wpAny_bind fin)
    | exact wpAny_bind (wpAny_pure (wpAny_bind fin))
    | exact wpAny_bind fin

theorem dict_typeIs {X : Cx} {pins : List (Addr × Obj)} {σ : St} {H : Hp} {s : Shared} {a : Addr} {y : V} {o : Option V} (I : Inv X pins σ H s) (g : DGet H a y o) : s.TypeIs (.ref a) "dict" := by
  rcases g with ⟨kvs, k, e, _, _⟩ | ⟨kvs, k, b, e, _, _, _⟩
  · obtain ⟨_, _, vs, _, dd⟩ := dk_rd I.hok e
    exact dd.typeIs
  · obtain ⟨_, _, xs, _, dd⟩ := dt_rd I.hok e
    exact dd.typeIs
/-- d[y] -/
def tDGet (td ty : TE) : TE := fun σ H Q => td σ H fun x H1 => ty σ H1 fun y H2 => ∃ a v, x = .ref a ∧ DGet H2 a y (some v) ∧ Q v H2
/-- d[y] = v -/
def sDPut (td ty tv : TE) : TS := fun D σ H => tv σ H fun v H1 => td σ H1 fun x H2 => ty σ H2 fun y H3 => ∃ a H4, x = .ref a ∧ DPut H3 a y v H4 ∧ D.nx σ H4
section
variable {X : Cx} {o i e value : Expr} {pos pos' tpos : Pos} {td ty tv : TE}
theorem pe_dget (hu : X.A.units + 1 < cLine) (ho : PE X o td) (hi : PE X i ty) (hs : NoSl i) : PE X (.Subscript o i pos) (tDGet td ty) := by
  intro pins s σ H Q I h
  refine subD_of PySem.F.slot_dict_getitem.lookup hs (thn (ho pins s σ H _ I h) fun u s1 ⟨x, H1, I1, rx, q1⟩ => thn (hi pins s1 σ H1 _ I1 q1) fun iv s2 ⟨y, H2, I2, ry, a, v, ex, g, q2⟩ => ?_)
  subst ex
  obtain rfl : u = Value.ref a := rx
  exact ⟨dict_typeIs I2 g, d_getItem hu I2 g ry fun w' s3 I3 rw' => ⟨v, H2, I3, rw', q2⟩⟩
theorem ps_dput (hu : X.A.units + 1 < cLine) (ho : PE X o td) (hi : PE X i ty) (hv : PE X value tv) (hs : swapsWith value (some (.Subscript o i pos')) pos.line X.env = pure false) :
    PS X (.Assign [.Subscript o i pos'] value pos) (sDPut td ty tv) := by
  intro pins s σ H D I h
  refine wpAny_Assign_Subscript (thn (hv pins s σ H _ I h) fun r s1 ⟨v, H1, I1, rv, q1⟩ => thn (ho pins s1 σ H1 _ I1 q1) fun u s2 ⟨x, H2, I2, rx, q2⟩ => thn (hi pins s2 σ H2 _ I2 q2) fun iv s3 ⟨y, H3, I3, ry, a, H4, ex, g, q3⟩ => ?_) hs
  subst ex
  obtain rfl : u = Value.ref a := rx
  exact d_setItem hu I3 g ry rv fun s4 I4 => ⟨σ, H4, I4, q3⟩
end


/-! ### displays -/
theorem dk_empty {P : Program} {w : World} {H : Hp} (h : Heap) (hb : sysModules < h.objs.size) : ObjOk P w H (h.push { cls := .type "dict", data := .dict #[] }) h.objs.size (.dK []) :=
  ⟨Nat.zero_le _, beq_eq_false_iff_ne.mpr (Ne.symm (Nat.ne_of_lt hb)), [], .nil, Heap.DictOf.new h⟩
/-- {}, to be a dict of the kind that is wanted -/
def tDNewK : TE := fun _ H Q => ∀ p, H p = none → Q (.ref p) (upd H p (.dK []))
section
variable {X : Cx} {pos : Pos}
theorem pe_dnewK : PE X (.Dict [] [] pos) tDNewK := fun pins s σ H Q I h =>
  wpAny_Dict_empty ⟨.ref s.heap.objs.size, _, I.laid (a := s.heap.objs.size) (o := .dK []) (t' := s.toks) (fun _ _ q => Heap.get?_push_of_some _ q) (Nat.le_refl _) (dk_empty s.heap I.big), rfl, h _ (I.hok.fresh (Nat.le_refl _))⟩
end

/-! ### methods -/
section
variable {X : Cx} {pins : List (Addr × Obj)} {σ : St} {H : Hp} {s : Shared} {a : Addr} {y d : V} {u r : Value} {o : Option V} {A : Around} {E : Value → Shared → Prop}
end

section
variable {X : Cx} {o e f : Expr} {apos cpos : Pos} {td ty tx : TE}
end

/-! ### dict(d): a copy -/
section
variable {X : Cx} {pins : List (Addr × Obj)} {σ : St} {H : Hp} {s : Shared} {a : Addr} {kvs : List (Key × V)} {A : Around} {E : Value → Shared → Prop}
end


section
variable {X : Cx} {pins : List (Addr × Obj)} {σ : St} {H : Hp} {s : Shared} {a : Addr} {y : V} {u : Value} {A : Around} {E : Value → Shared → Prop}
end
end L2

namespace Att
open PySem PySem.W PySem.Calls PyProof.Rows

/-! ### the script -/
theorem ints_of_wellAll {P : Params} {h : Heap} : ∀ (ns : List Int) (vs : List Value), WellAll P h vs (ns.map WData.int) → IntsAre vs ns := by
  intro ns
  induction ns with
  | nil =>
    intro vs w
    rw [List.map_nil] at w
    cases w
    exact .nil
  | cons n ns ih =>
    intro vs w
    rw [List.map_cons] at w
    cases w with
    | cons a b =>
      cases a
      exact .cons _ _ (ih _ b)

theorem script_of {l : OpenLaw} {n : Nat} (hn : l.most = some n) {P : Params} {h : Heap} {args : List WData} {vals : List Value}
    (hpre : l.row.toRowW.claim.pre args = true) (hwl : WellAll P h vals args) :
    ∃ a vs ns, vals = [Value.ref a] ∧ args = [WData.list (ns.map WData.int)] ∧ h.get? a = some { cls := .type "list", data := .seq vs.toArray } ∧ IntsAre vs ns ∧ ns.length ≤ n := by
  have hsh : WShape.hasAll [] args [.list .int] = true := (pre_splitW hpre).1
  have hc : l.pre.holds [] { args := args } = true := (pre_splitW hpre).2
  obtain ⟨d, r, rfl, h1, h2⟩ := hasAllW_cons hsh
  obtain rfl := hasAllW_nil h2
  obtain ⟨xs, rfl, h3⟩ := hasW_list h1
  obtain ⟨ns, rfl⟩ := items_int h3
  have hlen : ns.length ≤ n := by
    unfold OpenLaw.pre at hc
    have h4 : (WTm.not (.lt (.lit (.int (n : Int))) (.len (.arg 0)))).holds [] { args := [.list (ns.map .int)] } = true := by
      have h4 := (holds_andW hc).1
      rw [hn] at h4
      exact h4
    have h5 := condW_of h4 (w_not (w_lt w_lit (w_len_list (w_arg rfl))))
    rw [List.length_map] at h5
    refine Nat.le_of_not_lt fun q => ?_
    have q' : (n : Int) < ((ns.length : Nat) : Int) := by omega
    first
      | (rw [decide_eq_true q'] at h5; exact absurd h5 (by decide))
      | (simp at h5; omega)
  cases hwl with
  | cons w1 w2 =>
    cases w2
    cases w1 with
    | list ho hall => exact ⟨_, _, ns, rfl, rfl, ho, ints_of_wellAll ns _ hall, hlen⟩

theorem post_true (l : OpenLaw) (args : List WData) : l.row.toRowW.claim.post args (.bool true) args = true :=
  postW_of (r := l.row.toRowW) (X := (true == true))
    (show WShape.has [] (.bool true) .bool = true by first | rfl | decide | simp [WShape.has, WShape.arms, WShape.armsAll])
    (show (WTm.eq .res (.lit (.bool true))).value [] { args := args, res := some (.bool true), after := args } = some (.bool (true == true)) from w_eq_bool (w_res rfl) w_lit) rfl

/-! ### the attachment: holds_open's last premise (the goal 'hc' behind k_head) from a wpAny of the law's body -/
/-- the same from a codeAny of the CALL (for a layer whose function contracts speak of calls) -/
theorem attach_call {l : OpenLaw} {n : Nat} {q : Program} {loose : List Str} {XP : (Str → Option Value) → Heap → Prop} {YP : World → Heap → Prop} {d : DefRec}
    (hn : l.most = some n) (hdf : d.params.defaults = [])
    (call : ∀ (w : World) (s₀ s₁ : Shared) (mg mb : Str → Option Value) (fa : Addr) (o : Obj) (pm cd doc : Value) (a : Addr) (vs : List Value) (ns : List Int),
      Ground q loose [] XP w s₀ mg mb s₁.heap → YP w s₁.heap →
      s₁.heap.get? fa = some o → o.data = .func (docDef d.name d.params d.body d.scope pm cd doc) → s₁.heap.CodeRec cd d.name → mg d.name = some (.ref fa) →
      s₁.heap.get? a = some { cls := .type "list", data := .seq vs.toArray } → IntsAre vs ns → ns.length ≤ n → s₁.gens = #[] →
      codeAny (model l.prog w) callerA (.call (.ref fa) ⟨[.ref a], []⟩) (fun r s' => r = .ok (.ret (.bool true)) ∧ OldK s₁.heap s'.heap ∧ s'.os = s₁.os ∧ AllBare s'.gens) s₁) :
    WalkO q loose XP YP l.row.toRowW d [] (fun f vs => PySem.call f vs) := by
  intro w s₀ s₁ mg mb G Y fa o pm cd doc dV kV ho hd hcd hD hmg hg args vals as hpre hlay hrd hwl hlo
  obtain rfl : dV = .none := Dflts.none hD hdf
  obtain rfl : kV = .none := Dflts.noKw hD
  obtain ⟨a, vs, ns, rfl, rfl, hobj, hints, hlen⟩ := script_of hn hpre hwl
  refine enter_call (codeAny_mono (call w s₀ s₁ mg mb fa o pm cd doc a vs ns G Y ho (fd_plain hd) hcd hmg hobj hints hlen hg) fun r s' hq => ?_)
  obtain ⟨rfl, h2, h3, h4⟩ := hq
  exact ⟨.inl ⟨.bool true, .bool true, [], rfl, fun _ => rfl, .bool true, post_true l _, fun _ => ⟨List.Pairwise.nil, fun _ hm => (nomatch hm)⟩⟩, h2, h3, h4⟩

/-! ### rules over ANY heap (no ledger) from facts about the written part K: the library's own take a ledger (News) for what they write -/
section
variable {prog : Program} {w : World} {A : Around} {E : Value → Shared → Prop} {s : Shared} {K : Frag}

/-! the whole heap as the ledger: makes every rule that writes through a ledger a rule over any heap -/
end
end Att

namespace L2
open PySem PySem.Spec PyProof.Rows

theorem vals_ints : ∀ {vs : List Value} {ns : List Int}, IntsAre vs ns → Vals (ns.map V.int) vs
  | _, _, .nil => .nil
  | _, _, .cons n t h => .cons ⟨t, rfl⟩ (vals_ints h)

/-- nothing is tracked but the script, known to the object (or it is an object of the module) -/
def Only (H : Hp) : Prop := ∀ b, H b = none ∨ ∃ o xs, H b = some (.frz o (.lst xs))

/-- THE HEAD: the law's promise, at the heap behind the top. F, the promise of the law's def, may use that base is part of the heap (so K.In base, base.Ns mainGlobals mg stand in Mod) -/
theorem law_call {P : Program} {w : World} {K : PySem.W.Frag} {mg mb : Str → Option Value} {CX : CXT} {k : Nat} {fa a : Addr} {fd : FuncData} {x : Str} {sp : Sp} {s₁ : Shared} {vs : List Value} {ns : List Int}
    (KX : K.In s₁.heap) (hns : s₁.heap.Ns mainGlobals mg) (hb : s₁.heap.Ns builtinsNs mb) (hbb : ∀ x : Str, x ≠ "__name__" → mb x = bootBuiltins x) (hlim : s₁.heap.NoLimit) (hg : s₁.gens = #[])
    (ha : s₁.heap.get? a = some { cls := .type "list", data := .seq vs.toArray }) (hi : IntsAre vs ns) (hl : ns.length ≤ sizeLine) (hr : Room k callerA)
    (F : ∀ base : Heap, K.In base → base.Ns mainGlobals mg → FnOk P w K mg base CX k fa fd [x] sp) (hbind : ∀ (s : Shared) (u : Value), BindsTo s fd ⟨[u], []⟩ [(x, u)])
    (hsp : ∀ H : Hp, Only H → SqL K H a (ns.map V.int) → sp [.ref a] H (fun v _ => v = .bl true) fun _ _ _ => False)
    (hCX : ∀ H e s', CX [] H s₁ (fun _ _ _ => False) e s' → False) :
    codeAny (model P w) callerA (.call (.ref fa) ⟨[.ref a], []⟩) (fun r s' => r = .ok (.ret (.bool true)) ∧ OldK s₁.heap s'.heap ∧ s'.os = s₁.os ∧ AllBare s'.gens) s₁ := by
  have rv := vals_ints hi
  have lenV := hi.length
  -- from an abstract heap in which nothing but the script may be tracked
  have core : ∀ H : Hp, Only H → SqL K H a (ns.map V.int) → HOk P w H s₁.heap → (∀ b, H b ≠ none → b = a) → (H a ≠ none → K.lookup a = none) →
      codeAny (model P w) callerA (.call (.ref fa) ⟨[.ref a], []⟩) (fun r s' => r = .ok (.ret (.bool true)) ∧ OldK s₁.heap s'.heap ∧ s'.os = s₁.os ∧ AllBare s'.gens) s₁ := by
    intro H hO hS hok hA hK
    have base_of : ∀ {b : Addr} {o : Obj}, s₁.heap.get? b = some o → H b = none → (hidT s₁.heap H).get? b = some o := fun e n => hidT_get e n
    have noA : ∀ {b : Addr} {o : Obj} {es : Array DictEntry} {ep : Nat}, s₁.heap.get? b = some o → o.data = .dict es ep → H b = none := fun {b o es ep} e d => by
      cases q : H b with
      | none => rfl
      | some u =>
        have e' : b = a := hA b (by rw [q]; simp)
        subst e'
        rw [ha] at e; cases e
        have d' : Data.seq vs.toArray _ = Data.dict es ep := d
        cases d'
    have nsK : ∀ {b : Addr} {m : Str → Option Value}, s₁.heap.Ns b m → (hidT s₁.heap H).Ns b m := fun {b m} ⟨o, es, ep, e, d, r⟩ => ⟨o, es, ep, base_of e (noA e d), d, r⟩
    have hKb : K.In (hidT s₁.heap H) := fun b o e => base_of (KX b o e) (by
      cases q : H b with
      | none => rfl
      | some u =>
        have e' : b = a := hA b (by rw [q]; simp)
        subst e'
        rw [hK (by rw [q]; simp)] at e; cases e)
    have hM : Mod K mg (hidT s₁.heap H) := ⟨hKb, nsK hns, ⟨mb, nsK hb, hbb⟩, let ⟨mc, h1, h2⟩ := hlim; ⟨mc, nsK h1, h2⟩⟩
    have e0 : Env0 P w K mg (hidT s₁.heap H) callerA [] s₁ H := ⟨rfl, hM, fun b o e => of_hidT e, Nat.le_of_eq (hidT_size _ _), trivial, fun b hb => absurd (show b ∈ ([] : List Addr) from hb) (by simp), hok, .of_eq hg⟩
    refine codeAny_mono ((F _ hKb (nsK hns)).run callerA [] s₁ H ⟨[.ref a], []⟩ [.ref a] [.ref a] _ _ hr e0 (hbind s₁ (.ref a)) (.cons rfl .nil) (hsp H hO hS)) fun r s' h => ?_
    cases r with
    | error e => exact (hCX H e s' h).elim
    | ok fl =>
      cases fl with
      | next => exact False.elim h
      | brk => exact False.elim h
      | cont => exact False.elim h
      | ret u =>
        obtain ⟨v, H', os, bare, un, hok', r', q⟩ := h
        have q' : v = .bl true := q
        subst q'
        obtain rfl : u = Value.bool true := r'
        refine ⟨rfl, OldK.of_keep fun b o e => ?_, os, bare⟩
        cases q : H b with
        | none => exact un.keep b o e q (by intro z; exact absurd (show b ∈ ([] : List Addr) from z) (by simp)) (by simp)
        | some u =>
          rcases hO b with z | ⟨ob, xs, z⟩
          · rw [q] at z; cases z
          · have z2 := un.frzs b ob _ z
            obtain ⟨e1, _⟩ := hok b _ z
            obtain ⟨e2, _⟩ := hok' b _ z2
            rw [e] at e1; cases e1
            exact e2
  cases hk : K.lookup a with
  | some o =>
    -- the script is one of the module's own objects
    have e := KX a o hk
    rw [ha] at e
    cases e
    refine core (fun _ => none) (fun _ => .inl rfl) (.inr ⟨_, vs.toArray, _, hk, rfl, rfl, rfl, by rw [List.size_toArray, lenV]; exact hl, by simpa using rv⟩) (fun b u z => by have z' : (none : Option HO) = some u := z; cases z') (fun b z => absurd rfl z) fun z => absurd rfl z
  | none =>
    refine core (fun b => if b = a then some (.frz { cls := .type "list", data := .seq vs.toArray } (.lst (ns.map V.int))) else none) (fun b => ?_) (.inl (.inr ⟨{ cls := .type "list", data := .seq vs.toArray }, if_pos rfl⟩)) (fun b u z => ?_) (fun b z => ?_) fun _ => hk
    · by_cases hb : b = a
      · exact .inr ⟨_, _, if_pos hb⟩
      · exact .inl (if_neg hb)
    · by_cases hb : b = a
      · have z' := (if_pos hb).symm.trans z
        cases z'
        subst hb
        exact ⟨ha, by rw [List.length_map]; exact hl, vs, _, rv, ha⟩
      · have z' := (if_neg hb).symm.trans z
        cases z'
    · by_cases hb : b = a
      · exact hb
      · exact absurd (if_neg hb) z
end L2

namespace L2
open PySem PySem.Spec PyProof.Rows

/-- the goal that k_head leaves (case hc), from the law's promise. F gives the function object fd (K's own) once, then the promise over every base -/
theorem walk_of {l : PySem.W.OpenLaw} {n k : Nat} {q : Program} {loose : List Str} {XP : (Str → Option Value) → Heap → Prop} {YP : World → Heap → Prop} {d : DefRec} {K : Params → PySem.W.Frag} {CX : World → CXT} {sp : World → Sp} {x : Str}
    (hn : l.most = some n) (hn2 : n ≤ sizeLine) (hdf : d.params.defaults = []) (hr : Room k callerA)
    (hY : ∀ (w : World) (h : Heap), YP w h → (K w.params).In h)
    (F : ∀ (w : World) (mg : Str → Option Value) (fa : Addr) (h : Heap), (K w.params).In h → h.Ns mainGlobals mg → mg d.name = some (.ref fa) →
      ∃ fd : FuncData, (∀ (s : Shared) (u : Value), BindsTo s fd ⟨[u], []⟩ [(x, u)]) ∧
        ∀ base : Heap, (K w.params).In base → base.Ns mainGlobals mg → FnOk l.prog w (K w.params) mg base (CX w) k fa fd [x] (sp w))
    (hsp : ∀ (w : World) (H : Hp) (a : Addr) (ns : List Int), ns.length ≤ n → Only H → SqL (K w.params) H a (ns.map V.int) → sp w [.ref a] H (fun v _ => v = .bl true) fun _ _ _ => False)
    (hCX : ∀ (w : World) (H : Hp) (s : Shared) (e : Value) (s' : Shared), CX w [] H s (fun _ _ _ => False) e s' → False) :
    PySem.W.WalkO q loose XP YP l.row.toRowW d [] (fun f vs => PySem.call f vs) := by
  refine Att.attach_call hn hdf fun w s₀ s₁ mg mb fa o pm cd doc a vs ns G Y ho hd hcd hmg hobj hints hlen hg => ?_
  have KX := hY w _ Y
  obtain ⟨fd, hb, hF⟩ := F w mg fa _ KX G.T.g hmg
  exact law_call KX G.T.g G.T.b G.T.builtins G.T.nolimit hg hobj hints (Nat.le_trans hlen hn2) hr hF hb (fun H hO hS => hsp w H a ns hlen hO hS) fun H e s' => hCX w H s₁ e s'
end L2

/- THE LAST THEOREM (shape; LID, My.* are yours):
   My.Adr: a structure of the addresses that your layer names (classes, functions); My.Txt K t: a structure (Prop) of the equations over K;
   My.txt_mk : {K} {implicit addresses ..} (e1 : nsIn K mainGlobals "law" = some (some (.ref f))) (e2 : K.lookup f = some ⟨oc, od, .func (fnOf "law" "law" params body scope dV kV doc pm an cdv ct), sl⟩) (e3 : codeIn K cdv "law" = true) .. : ∃ t, My.Txt K t

set_option maxRecDepth 100000 in
set_option maxHeartbeats 0 in
theorem PySem.Challenge.cw_LID_holds : PySem.Challenge.rw_LID.Holds := by
  w_on; o_law; k_head; (case hw => w_witness2)
  k_fill
  refine L2.walk_of (l := PySem.Challenge.rw_LID) (n := 63) (k := 40) (x := "script") (CX := fun w => ..) (sp := fun _ => My.sp_law) rfl (by decide) rfl ⟨rfl, by decide, by decide⟩ (fun w h Y => PySem.W.kIn_of Y) ?F ?S ?C
  case F =>
    intro w mg fa h KX G hmg
    have T : ∃ t, My.Txt (L2.KOf KX) t := by
      dsimp only [L2.KOf]                          -- K must stand as «<heap const> w.params» for k_is
      refine' My.txt_mk ?e1 ?e2 ?e3 ..
      (case e1 => PySem.W.k_is)                    -- in the order: a name -> its address -> its object -> its parts
      (case e2 => PySem.W.k_is)
      ..
    obtain ⟨t, T⟩ := T
    have e0 := hmg.symm.trans (PySem.W.mg_of KX G T.law)
    cases e0                                       -- fa is the law's own address
    exact ⟨_, fun s u => .of_eq rfl, fun base kb nb => My.law_fn T kb nb⟩     -- if «.of_eq rfl» comes too early: refine' ⟨_, ?b, fun base kb nb => My.law_fn T kb nb⟩; exact fun s u => .of_eq rfl
  case S => exact fun w H a ns hl hO hS => ..
  case C => exact ..
(the tactic k_is has no namespace: write k_is) -/

/-! SHORT WORDS over the layer: a def of the text, its body, what a loop and a test want. -/
namespace L2
open PySem PySem.Spec PyProof.Rows

/-! ### the text by places -/
/-- the j-th statement of a class's body -/
def inClass (s : Stmt) (j : Nat) : Stmt := match s with
  | .ClassDef _ _ _ body _ _ _ _ _ _ _ => body.getD j (.Pass ⟨0, 0, 0, 0⟩)
  | _ => .Pass ⟨0, 0, 0, 0⟩
def defArgs (s : Stmt) : Arguments := match s with
  | .FunctionDef _ a _ _ _ _ _ _ _ _ => a
  | _ => { posonlyargs := [], args := [], vararg := none, kwonlyargs := [], kw_defaults := [], kwarg := none, defaults := [] }
def defBody (s : Stmt) : List Stmt := match s with
  | .FunctionDef _ _ b _ _ _ _ _ _ _ => b
  | _ => []
def defScope (s : Stmt) : Scope := match s with
  | .FunctionDef _ _ _ _ _ _ sc _ _ _ => sc
  | _ => { kind := .function, names := [], isGenerator := false, isCoroutine := false }

/-! ### no exception leaves a def -/
abbrev CX0 : CXT := fun _ _ _ _ _ _ => False
abbrev E0 : XK := fun _ _ _ => False
theorem pass0 {X : Cx} : Passes CX0 X E0 := fun _ _ _ _ _ _ _ h => h.elim

/-! ### a def (or method) of the text as it stands behind the top -/
structure Fun (K : PySem.W.Frag) (x qual : Str) (st : Stmt) (f : Addr) (fd : FuncData) : Prop where
  ex : ∃ (oc : Value) (od : Option Addr) (kV doc pm : Value) (an : Option Addr) (cdv ct : Value) (osl : Array (Option Value)),
    fd = PySem.W.fnOf x qual (defArgs st) (defBody st) (defScope st) .none kV doc pm an cdv ct ∧ K.lookup f = some ⟨oc, od, .func fd, osl⟩ ∧ PySem.W.codeIn K cdv qual = true
  kp : PySem.W.keepIn K (.ref f) = true
section
variable {P : Program} {w : World} {K : PySem.W.Frag} {mg : Str → Option Value} {base : Heap}
/-- THE RULE for a def: its body as a term of rules, and the reading of that term -/
theorem Fun.ok {x qual : Str} {st : Stmt} {f : Addr} {fd : FuncData} {N ps : List Str} {k : Nat} {sp : Sp} (F : Fun K x qual st f fd) (S : FnScope N ps (defScope st)) (len : ∀ vs H Q E, sp vs H Q E → vs.length = ps.length)
    (hbody : ∀ (cdv : Value) (A : Around) (outer : List Env) (s : Shared) (H : Hp) (vs : List V) (Q : VK) (E : XK), Room k (A.deeper (envOfC qual (defScope st) s.heap.objs.size f cdv)) → sp vs H Q E →
      ∃ t, PSs (cxOf CX0 P w K mg base N qual (defScope st) f cdv A outer s H E).nox (defBody st) t ∧ t { nx := fun _ H' => Q .non H', rt := Q } (start N vs) H) : FnOk P w K mg base CX0 (k + 1) f fd ps sp := by
  obtain ⟨oc, od, kV, doc, pm, an, cdv, ct, osl, rfl, lk, hcd⟩ := F.ex
  refine fn_of lk hcd S len fun A outer s H vs Q E hr hsp => ?_
  obtain ⟨t, h, q⟩ := hbody cdv A outer s H vs Q E hr hsp
  exact ⟨t, h.nox, q⟩
/-- how its arguments bind (no defaults): h is «fun _ _ _ _ _ _ us hl => match us, hl with | [_, _], _ => rfl», one _ a parameter -/
theorem Fun.binds {x qual : Str} {st : Stmt} {f : Addr} {fd : FuncData} {ps : List Str} (F : Fun K x qual st f fd)
    (h : ∀ (kV doc pm : Value) (an : Option Addr) (cdv ct : Value) (us : List Value), us.length = ps.length → bindArgs (PySem.W.fnOf x qual (defArgs st) (defBody st) (defScope st) .none kV doc pm an cdv ct) ⟨us, []⟩ = pure (ps.zip us)) : Binds K fd ps [] := by
  obtain ⟨oc, od, kV, doc, pm, an, cdv, ct, osl, rfl, lk, hcd⟩ := F.ex
  exact .all (h kV doc pm an cdv ct)
theorem fun_mk {x qual : Str} {st : Stmt} {f : Addr} {oc : Value} {od an : Option Addr} {osl : Array (Option Value)} {kV doc pm cdv ct : Value} (l : K.lookup f = some ⟨oc, od, .func (PySem.W.fnOf x qual (defArgs st) (defBody st) (defScope st) .none kV doc pm an cdv ct), osl⟩)
    (c : PySem.W.codeIn K cdv qual = true) (k : PySem.W.keepIn K (.ref f) = true) : Fun K x qual st f (PySem.W.fnOf x qual (defArgs st) (defBody st) (defScope st) .none kV doc pm an cdv ct) := ⟨⟨oc, od, kV, doc, pm, an, cdv, ct, osl, rfl, l, c⟩, k⟩
end
theorem small1000 {n : Nat} (h : n ≤ 1000) : n < sizeLine := Nat.lt_of_le_of_lt h (by decide)

/-! ### expressions in short: the name that stands in the i-th slot -/
section
variable {X : Cx}
theorem pv (i : Nat) {x : Str} {pos : Pos} (hN : X.N[i]? = some x := by rfl) (hv : Vis X.env.scope x := by first | exact Or.inl rfl | exact Or.inr (Or.inl rfl) | exact Or.inr (Or.inr rfl)) (hd : (x == ("__debug__" : Str)) = false := by decide)
    (hcd : (x == ("__classdict__" : Str)) = false := by decide) : PE X (.Name x pos) (tVar i) := pe_var hN hv hd hcd
end

/-! ### tests -/
theorem iteF {A B : Prop} (h : B) : if false = true then A else B := by
  rw [if_neg Bool.false_ne_true]
  exact h
theorem iteT {A B : Prop} (h : A) : if true = true then A else B := by
  rw [if_pos rfl]
  exact h
theorem ite2 {c A B : Prop} [Decidable c] (h1 : c → A) (h2 : ¬ c → B) : if c then A else B := by
  by_cases h : c
  · rw [if_pos h]
    exact h1 h
  · rw [if_neg h]
    exact h2 h
/-! ### heaps -/
/-- all that was tracked is as it was -/
def Same (H H' : Hp) : Prop := ∀ b o, H b = some o → H' b = some o
theorem Same.refl (H : Hp) : Same H H := fun _ _ h => h
theorem Same.trans {H H1 H2 : Hp} (a : Same H H1) (b : Same H1 H2) : Same H H2 := fun c o h => b c o (a c o h)
theorem Same.free {H H' : Hp} (e : Same H H') {l : Addr} (h : H' l = Option.none) : H l = Option.none := by
  cases q : H l with
  | none => rfl
  | some o =>
    rw [e l o q] at h
    cases h
theorem Same.seq {K : PySem.W.Frag} {H H' : Hp} {a : Addr} {xs : List V} (e : Same H H') (h : SqL K H a xs) : SqL K H' a xs := by
  rcases h with (h | ⟨o, h⟩) | h
  · exact .inl (.inl (e _ _ h))
  · exact .inl (.inr ⟨o, e _ _ h⟩)
  · exact .inr h

end L2

namespace L2
open PySem PySem.Spec PyProof.Rows
section
variable {X : Cx}
end
/-! ### a dict's pairs: keys that differ -/
section
variable {κ : Type} [DecidableEq κ]
theorem valV_not {kvs : List (κ × V)} {k : κ} (h : valV kvs k = none) : ¬ k ∈ kvs.map (·.1) := by
  intro m
  obtain ⟨p, hp, e⟩ := List.mem_map.mp m
  have q : (kvs.any fun kv => decide (kv.1 = k)) = true := List.any_eq_true.mpr ⟨p, hp, decide_eq_true e⟩
  rw [valV_any, h] at q
  exact absurd q (by simp)
theorem nd_snoc : ∀ {l : List κ} {k : κ}, l.Nodup → ¬ k ∈ l → (l ++ [k]).Nodup
  | [], k, _, _ => by simp
  | a :: r, k, h, hk => by
    obtain ⟨h1, h2⟩ := List.nodup_cons.mp h
    show (a :: (r ++ [k])).Nodup
    refine List.nodup_cons.mpr ⟨fun m => ?_, nd_snoc h2 fun m => hk (List.mem_cons.mpr (Or.inr m))⟩
    rcases List.mem_append.mp m with q | q
    · exact h1 q
    · exact hk (List.mem_cons.mpr (Or.inl (List.mem_singleton.mp q).symm))
theorem nd_putK {kvs : List (κ × V)} {k : κ} (v : V) (hn : (kvs.map (·.1)).Nodup) (h : valV kvs k = none) : ((putK kvs k v).map (·.1)).Nodup := by
  rw [putK_new v h, List.map_append]
  exact nd_snoc hn (valV_not h)
end
end L2

set_option Elab.async false

set_option Elab.async false
set_option linter.all false
set_option maxRecDepth 100000
set_option maxHeartbeats 4000000
/-! COMPREHENSIONS over the hand layer: [elt for tg in iter], [elt for tg in iter if c], and name = [..] -/
namespace L2
open PySem PySem.Spec PyProof.Rows

/-! ### what a block's closure is -/
def clos (cells : List (Str × Addr)) : List (Str × NameKind) → List (Str × Addr) → List (Str × Addr)
  | [], acc => acc
  | (n, k) :: r, acc => clos cells r (if k == .free then (n, (cells.lookup n).getD 0) :: acc else acc)
theorem clos_go {env : Env} : ∀ (names : List (Str × NameKind)) (acc : List (Str × Addr)), (∀ x ∈ names, x.2 = .free → ∃ c, env.cells.lookup x.1 = some c) →
    (forIn (m := Sem) names acc fun x r => if (x.2 == NameKind.free) = true then (do let a ← cellOf env x.1; pure (ForInStep.yield ((x.1, a) :: r))) else pure (ForInStep.yield r)) = pure (clos env.cells names acc)
  | [], acc, _ => rfl
  | (n, k) :: r, acc, h => by
    have hr : ∀ x ∈ r, x.2 = .free → ∃ c, env.cells.lookup x.1 = some c := fun x hx => h x (List.mem_cons_of_mem _ hx)
    rw [List.forIn_cons]
    by_cases hk : k = .free
    · subst hk
      obtain ⟨c, hc⟩ := h (n, .free) List.mem_cons_self rfl
      have hc : env.cells.lookup n = some c := hc
      have e : cellOf env n = pure c := by unfold cellOf; rw [hc]
      have q := clos_go r ((n, c) :: acc) hr
      show ((do let a ← cellOf env n; pure (ForInStep.yield ((n, a) :: acc))) >>= _) = _
      rw [e]
      refine Eq.trans ?goalA (Eq.trans q ?goalB)
      case goalA => rfl
      case goalB =>
        show _ = pure (clos env.cells r ((n, (env.cells.lookup n).getD 0) :: acc))
        rw [hc]
        rfl
    · have hb : (k == NameKind.free) = false := by simpa using hk
      have q := clos_go r acc hr
      show ((if (k == NameKind.free) = true then _ else _) >>= _) = pure (clos env.cells r (if k == .free then _ else acc))
      rw [hb]
      exact q
theorem closureFor_eq {scope : Scope} {env : Env} (h : ∀ x ∈ scope.names, x.2 = .free → ∃ c, env.cells.lookup x.1 = some c) : closureFor scope env = pure (clos env.cells scope.names []) := by
  have q := clos_go scope.names [] h
  unfold closureFor
  show (forIn scope.names [] _ >>= fun cs => pure cs) = _
  refine Eq.trans (congrArg (fun t => t >>= fun cs => pure cs) (Eq.trans ?_ q)) ?_
  · rfl
  · rfl
theorem clos_lookup {cells : List (Str × Addr)} : ∀ (names : List (Str × NameKind)) (acc : List (Str × Addr)), (∀ y ∈ names, y.2 = .free → ∃ c, cells.lookup y.1 = some c) → (∀ x c, acc.lookup x = some c → cells.lookup x = some c) →
    ∀ x c, (clos cells names acc).lookup x = some c → cells.lookup x = some c
  | [], acc, _, h2 => h2
  | (n, k) :: r, acc, h1, h2 => by
    have hr : ∀ x ∈ r, x.2 = .free → ∃ c, cells.lookup x.1 = some c := fun x hx => h1 x (List.mem_cons_of_mem _ hx)
    refine clos_lookup r _ hr ?_
    intro x c e
    by_cases hk : k = .free
    · subst hk
      obtain ⟨c', hc⟩ := h1 (n, .free) List.mem_cons_self rfl
      have hc : cells.lookup n = some c' := hc
      rw [show (if (NameKind.free == NameKind.free) = true then (n, (cells.lookup n).getD 0) :: acc else acc) = (n, (cells.lookup n).getD 0) :: acc from rfl, hc] at e
      rw [List.lookup_cons] at e
      cases q : x == n with
      | true =>
        rw [q] at e
        have e1 : x = n := by simpa using q
        have e2 : c' = c := Option.some.inj e
        rw [e1, hc, e2]
      | false =>
        rw [q] at e
        exact h2 x c e
    · have hb : (k == NameKind.free) = false := by simpa using hk
      rw [hb] at e
      exact h2 x c e
theorem clos_has {cells : List (Str × Addr)} : ∀ (names : List (Str × NameKind)) (acc : List (Str × Addr)) (x : Str), ((x, NameKind.free) ∈ names ∨ ∃ c, acc.lookup x = some c) → ∃ c, (clos cells names acc).lookup x = some c
  | [], acc, x, h => h.elim (fun z => nomatch z) id
  | (n, k) :: r, acc, x, h => by
    refine clos_has r _ x ?_
    rcases h with h | ⟨c, h⟩
    · rcases List.mem_cons.mp h with e | e
      · have e1 : x = n := congrArg Prod.fst e
        have e2 : NameKind.free = k := congrArg Prod.snd e
        subst e2
        subst e1
        exact .inr ⟨(cells.lookup x).getD 0, by show List.lookup x ((x, _) :: acc) = _; rw [List.lookup_cons, beq_self_eq_true]⟩
      · exact .inl e
    · right
      by_cases hk : (k == NameKind.free) = true
      · rw [if_pos hk, List.lookup_cons]
        cases x == n with
        | true => exact ⟨_, rfl⟩
        | false => exact ⟨c, h⟩
      · rw [if_neg hk]
        exact ⟨c, h⟩

/-! ### an untracked record of ours is tracked; a tracked list is let go -/
section
variable {X : Cx} {pins : List (Addr × Obj)} {σ : St} {H : Hp} {s : Shared} {a : Addr} {o : HO}
theorem Inv.track (I : Inv X pins σ H s) (hn : H a = none) (h0 : X.s₀.heap.objs.size ≤ a) (hL : a ≠ X.env.locals) (h2 : ∀ x c, X.env.cells.lookup x = some c → c ≠ a) (h3 : ∀ p ∈ X.pn ++ pins, p.1 ≠ a)
    (new : ObjOk X.prog X.w (upd H a o) s.heap a o) : Inv X pins σ (upd H a o) s := by
  have old : ∀ b u, X.s₀.heap.get? b = some u → b ≠ a := fun b u e => Nat.ne_of_lt (Nat.lt_of_lt_of_le (Heap.lt_size e) h0)
  have trk : ∀ b u, H b = some u → b ≠ a := fun b u e z => by rw [z, hn] at e; cases e
  refine ⟨I.ok, I.os, I.bare, ⟨I.base.keep, I.base.slot, fun b u e n hx => ?_, I.base.there, fun b xs e => ?_, fun b u v e => ?_, fun b ps e => ?_⟩, I.loc, I.cell, ?_, fun x c e => ?_, fun p hp => ?_, fun b u e => ?_, I.len⟩
  · rw [upd_ne (old b u e)]; exact I.base.free b u e n hx
  · have q := I.base.tups b xs e; rw [upd_ne (trk _ _ q)]; exact q
  · have q := I.base.frzs b u v e; rw [upd_ne (trk _ _ q)]; exact q
  · obtain ⟨m, q⟩ := I.base.tbls b ps e; exact ⟨m, by rw [upd_ne (trk _ _ q)]; exact q⟩
  · rw [upd_ne (Ne.symm hL)]; exact I.free
  · rw [upd_ne (h2 x c e)]; exact I.freeC x c e
  · obtain ⟨e1, e2, e3⟩ := I.pin p hp
    exact ⟨e1, by rw [upd_ne (h3 p hp)]; exact e2, e3⟩
  · by_cases hb : b = a
    · subst hb; rw [upd_same] at e; cases e; exact new
    · rw [upd_ne hb] at e
      exact (I.hok b u e).stay (fun c v _ q => q) (fun c q => by rw [upd_ne (trk _ _ q)]; exact q) fun c xs q => by rw [upd_ne (trk _ _ q)]; exact q
theorem Inv.untrack {ys : List V} (I : Inv X pins σ (upd H a (.lst ys)) s) (hn : H a = none) : Inv X pins σ H s := by
  have off : ∀ b, upd H a (.lst ys) b = none → H b = none := fun b e => by
    by_cases hb : b = a
    · rw [hb, upd_same] at e; cases e
    · rw [upd_ne hb] at e; exact e
  have off2 : ∀ b u, upd H a (.lst ys) b = some u → u ≠ .lst ys → H b = some u := fun b u e ne => by
    by_cases hb : b = a
    · rw [hb, upd_same] at e; cases e; exact absurd rfl ne
    · rw [upd_ne hb] at e; exact e
  refine ⟨I.ok, I.os, I.bare, ⟨I.base.keep, I.base.slot, fun b u e n hx => off _ (I.base.free b u e n hx), I.base.there, fun b xs e => off2 _ _ (I.base.tups b xs e) (by intro z; cases z), fun b u v e => off2 _ _ (I.base.frzs b u v e) (by intro z; cases z), fun b ps e => ?_⟩, I.loc, I.cell, off _ I.free, fun x c e => off _ (I.freeC x c e), fun p hp => ?_, fun b u e => ?_, I.len⟩
  · obtain ⟨m, q⟩ := I.base.tbls b ps e; exact ⟨m, off2 _ _ q (by intro z; cases z)⟩
  · obtain ⟨e1, e2, e3⟩ := I.pin p hp
    exact ⟨e1, off _ e2, e3⟩
  · have hb : b ≠ a := fun z => by rw [z, hn] at e; cases e
    exact (I.hok b u (by rw [upd_ne hb]; exact e)).stay (fun c v _ q => q) (fun c q => off2 _ _ q (by intro z; cases z)) fun c xs q => off2 _ _ q (by intro z; cases z)
end

/-! ### the names of a block: those of the def first, the block's own behind; ms: which of them keep their values inside -/
def maskS : List Bool → St → St
  | [], _ => []
  | _ :: bs, [] => none :: maskS bs []
  | b :: bs, v :: σ => cond b v none :: maskS bs σ
theorem maskS_length : ∀ (ms : List Bool) (σ : St), (maskS ms σ).length = ms.length
  | [], _ => rfl
  | _ :: bs, [] => by show (maskS bs []).length + 1 = bs.length + 1; rw [maskS_length bs []]
  | b :: bs, v :: σ => by show (maskS bs σ).length + 1 = bs.length + 1; rw [maskS_length bs σ]
theorem maskS_get : ∀ {ms : List Bool} {σ : St} {i : Nat} {v : V}, (maskS ms σ)[i]? = some (some v) → ms[i]? = some true ∧ σ[i]? = some (some v)
  | [], _, i, v, h => by simp [maskS] at h
  | b :: bs, [], 0, v, h => by simp [maskS] at h
  | b :: bs, [], i + 1, v, h => by
    have h' : (maskS bs [])[i]? = some (some v) := h
    have q := (maskS_get (ms := bs) (σ := []) (i := i) h').2
    simp at q
  | true :: bs, w :: σ, 0, v, h => ⟨rfl, h⟩
  | false :: bs, w :: σ, 0, v, h => by simp [maskS] at h
  | b :: bs, w :: σ, i + 1, v, h => by
    have h' : (maskS bs σ)[i]? = some (some v) := h
    exact maskS_get (ms := bs) (σ := σ) (i := i) h'
def okMask (sc : Scope) : List Str → List Str → List Bool → Bool
  | [], _, [] => true
  | x :: N, y :: NX, true :: ms => decide (x = y) && decide (sc.names.lookup x ≠ some .local) && okMask sc N NX ms
  | _ :: N, NX, false :: ms => okMask sc N NX.tail ms
  | _, _, _ => false
theorem okMask_len {sc : Scope} : ∀ {N NX : List Str} {ms : List Bool}, okMask sc N NX ms = true → ms.length = N.length
  | [], _, [], _ => rfl
  | x :: N, y :: NX, true :: ms, h => by
    rw [okMask, Bool.and_eq_true] at h
    rw [List.length_cons, List.length_cons, okMask_len h.2]
  | x :: N, [], false :: ms, h => by
    rw [okMask] at h
    rw [List.length_cons, List.length_cons, okMask_len h]
  | x :: N, y :: NX, false :: ms, h => by
    rw [okMask] at h
    rw [List.length_cons, List.length_cons, okMask_len h]
  | [], _, _ :: _, h => by simp [okMask] at h
  | _ :: _, _, [], h => by simp [okMask] at h
  | _ :: _, [], true :: _, h => by simp [okMask] at h
theorem okMask_at {sc : Scope} : ∀ {N NX : List Str} {ms : List Bool} {i : Nat} {x : Str}, okMask sc N NX ms = true → N[i]? = some x → ms[i]? = some true → NX[i]? = some x ∧ sc.names.lookup x ≠ some .local
  | x :: N, y :: NX, true :: ms, 0, z, h, h1, h2 => by
    rw [okMask, Bool.and_eq_true, Bool.and_eq_true] at h
    have e : x = z := Option.some.inj h1
    have e2 : x = y := of_decide_eq_true h.1.1
    subst e
    exact ⟨by rw [← e2]; rfl, of_decide_eq_true h.1.2⟩
  | x :: N, y :: NX, true :: ms, i + 1, z, h, h1, h2 => by
    rw [okMask, Bool.and_eq_true] at h
    exact okMask_at (i := i) h.2 h1 h2
  | x :: N, NX, false :: ms, 0, z, h, h1, h2 => by simp at h2
  | x :: N, [], false :: ms, i + 1, z, h, h1, h2 => by
    rw [okMask] at h
    have q := (okMask_at (i := i) h h1 h2).1
    simp at q
  | x :: N, y :: NX, false :: ms, i + 1, z, h, h1, h2 => by
    rw [okMask] at h
    exact okMask_at (i := i) h h1 h2
  | [], _, [], i, z, h, h1, h2 => by simp at h1
  | [], _, _ :: _, i, z, h, h1, h2 => by simp [okMask] at h
  | _ :: _, _, [], i, z, h, h1, h2 => by simp [okMask] at h
  | _ :: _, [], true :: _, i, z, h, h1, h2 => by simp [okMask] at h
/-- what is asked of a block's scope: closed, by decide +kernel -/
structure CompScope (out sc : Scope) (NX N : List Str) (ms : List Bool) : Prop where
  kind : sc.kind = .function
  nocell : ∀ x ∈ sc.names, x.2 ≠ .cell
  own : ∀ x ∈ sc.names, x.2 = .local → sc.names.lookup x.1 = some .local
  fre : ∀ x ∈ sc.names, x.2 = .free → out.names.lookup x.1 = some .cell ∨ out.names.lookup x.1 = some .free
  nd : N.Nodup
  mask : okMask sc N NX ms = true
/-- a target that stores in the slots ks alone -/
def Sets (g : TG) (ks : List Nat) : Prop := ∀ (x : V) (σ : St) (H : Hp) (Q Q' : St → Hp → Prop), g x σ H Q → (∀ σ2 H2, (σ2.length = σ.length ∧ ∀ i, i ∉ ks → σ2[i]? = σ[i]?) → Q σ2 H2 → Q' σ2 H2) → g x σ H Q'
def SetsL (g : TGs) (ks : List Nat) : Prop := ∀ (x : List V) (σ : St) (H : Hp) (Q Q' : St → Hp → Prop), g x σ H Q → (∀ σ2 H2, (σ2.length = σ.length ∧ ∀ i, i ∉ ks → σ2[i]? = σ[i]?) → Q σ2 H2 → Q' σ2 H2) → g x σ H Q'
theorem sets_name (i : Nat) : Sets (gName i) [i] := fun x σ H Q Q' h k => k _ _ ⟨List.length_set, fun j hj => by
  rw [List.getElem?_set_ne (fun z => hj (by simp [z]))]⟩ h
theorem sets_nil : SetsL gNil [] := fun x σ H Q Q' h k => ⟨h.1, k _ _ ⟨rfl, fun _ _ => rfl⟩ h.2⟩
theorem sets_cons {t : TG} {u : TGs} {ks js : List Nat} (h1 : Sets t ks) (h2 : SetsL u js) : SetsL (gCons t u) (ks ++ js) := fun x σ H Q Q' h k => by
  obtain ⟨v, r, e, q⟩ := h
  refine ⟨v, r, e, h1 v σ H _ _ q fun σ2 H2 f1 q2 => h2 r σ2 H2 _ _ q2 fun σ3 H3 f2 q3 => k σ3 H3 ⟨f2.1.trans f1.1, fun i hi => ?_⟩ q3⟩
  rw [List.mem_append, not_or] at hi
  rw [f2.2 i hi.2, f1.2 i hi.1]
theorem sets_tup {K : PySem.W.Frag} {n : Nat} {t : TGs} {ks : List Nat} (h : SetsL t ks) : Sets (gTup K n t) ks := fun x σ H Q Q' q k => by
  obtain ⟨a, xs, e1, e2, e3, q⟩ := q
  exact ⟨a, xs, e1, e2, e3, h xs σ H _ _ q k⟩
/-! ### the block's context -/
def cxComp (X : Cx) (sc : Scope) (N : List Str) (C : Addr) (ex : List Addr) (s : Shared) (H : Hp) : Cx :=
  { X with N := N, s₀ := s, H₀ := H, env := compEnvC sc (clos X.env.cells sc.names []) C X.env, outer := X.stack, ex := ex, fn := fun _ => false, pn := [], xe := fun _ _ => False }
/-- tests of a comprehension -/
def PTs (X : Cx) (ifs : List Expr) (t : TT) : Prop :=
  ∀ (pins : List (Addr × Obj)) (s : Shared) (σ : St) (H : Hp) (Q : Bool → Hp → Prop), Inv X pins σ H s → t σ H Q →
    wpAny (model X.prog X.w) X.A (forIn ifs true fun c r => if r = true then do let ok ← isTrue c X.env (eval c X.env); pure (ForInStep.yield ok) else pure (ForInStep.yield r)) (TP X pins σ Q) X.xe s
def tYes : TT := fun _ H Q => Q true H
theorem pts_nil {X : Cx} : PTs X [] tYes := fun pins s σ H Q I h => wpAny_tests_nil ⟨H, I, h⟩
theorem pts_one {X : Cx} {c : Expr} {t : TT} (h : PT X c t) : PTs X [c] t := fun pins s σ H Q I q => wpAny_tests_one (h pins s σ H Q I q)

/-- the reading of a comprehension: W, what holds ahead of the turn i (the items made so far, the heap) -/
def tComp (ms : List Bool) (wi : TI) (g : TG) (tc : TT) (te : TE) : TE := fun σ H Q => wi σ H fun J H1 =>
  ∃ W : Nat → Nat → List V → Hp → Prop, (∃ m, W 0 m [] H1) ∧ ∀ i m ys H, W i m ys H →
    (J.stop i H ∧ ∀ D, H D = none → Q (.ref D) (upd H D (.lst ys))) ∨
    (J.go i H ∧ ys.length < sizeLine ∧ ∃ N : List V → Hp → Prop, (∀ ys' H', N ys' H' → ∃ m', m' < m ∧ W (i + 1) m' ys' H') ∧
      ∀ x H', J.yld i H x H' → g x (maskS ms σ) H' fun σ2 H2 => tc σ2 H2 fun b H3 => if b = true then te σ2 H3 fun v H4 => N (ys ++ [v]) H4 else N ys H3)
section
variable {prog : Program} {w : World} {A : Around} {R : Result → Shared → Prop} {s : Shared}
theorem codeAny_compLoop_own {elt target iter : Expr} {ifs : List Expr} {scope : Scope} {pos : Pos} {it acc : Value} {env : Env} (I : Nat → Shared → Prop)
    (turn : ∀ n s, I n s → wpAny (model prog w) A (pyNext it) (fun r s₁ => match r with
      | none => R (.ok .next) s₁
      | some v => wpAny (model prog w) A (letOwnedTupleGo target it v) (fun _ s₁' => wpAny (model prog w) A (assign target env v) (fun _ s₂ =>
          wpAny (model prog w) A (forIn ifs true fun c r => if r = true then do let ok ← isTrue c env (eval c env); pure (ForInStep.yield ok) else pure (ForInStep.yield r)) (fun ok s₃ =>
            if ok = true then wpAny (model prog w) A (eval elt env) (fun x s₄ =>
              wpAny (model prog w) A (call (.builtin "list.append") [acc, x]) (fun _ s₅ => ∃ m, m < n ∧ I m s₅) (fun _ _ => False) s₄) (fun _ _ => False) s₃
            else ∃ m, m < n ∧ I m s₃) (fun _ _ => False) s₂) (fun _ _ => False) s₁') (fun _ _ => False) s₁) (fun _ _ => False) s)
    (n : Nat) (h : I n s) :
    codeAny (model prog w) A (.compLoop (.ListComp elt [⟨target, iter, ifs, 0⟩] scope pos) 0 it acc env) R s := by
  have fe : ∀ {α : Type} {t : Sem α} {Q : α → Shared → Prop} {E : Value → Shared → Prop} {s : Shared}, wpAny (model prog w) A t Q (fun _ _ => False) s → wpAny (model prog w) A t Q E s := fun h => wpAny_mono h (fun _ _ q => q) fun _ _ f => f.elim
  refine codeAny_loop rfl I (fun n s hI => ?_) n h
  show wpAny _ A ((compTurn (.ListComp elt [⟨target, iter, ifs, 0⟩] scope pos) 0 it acc env).onRaise (fun x => do noteFrame x env; theTreesLotGoes x)) _ _ s
  refine wpAny_noted ?_
  rw [compTurn_list]
  refine wpAny_bind (wpAny_standAt (wpAny_bind (wpAny_mono (turn n s hI) (fun r s₁ h₁ => ?_) fun _ _ f => f.elim)))
  cases r with
  | none => exact wpAny_pure h₁
  | some v =>
    refine wpAny_bind (wpAny_mono h₁ (fun _ s₁' h₁' => ?_) fun _ _ f => f.elim)
    refine wpAny_bind (wpAny_mono h₁' (fun _ s₂ h₂ => wpAny_bind (wpAny_mono h₂ (fun ok s₃ h₃ => ?_) fun _ _ f => f.elim)) fun _ _ f => f.elim)
    cases ok with
    | false => exact wpAny_pure ⟨rfl, h₃⟩
    | true =>
      exact wpAny_bind (wpAny_bind (wpAny_mono h₃ (fun x s₄ h₄ => wpAny_bind (wpAny_mono h₄ (fun _ s₅ h₅ => wpAny_pure (wpAny_pure ⟨rfl, h₅⟩)) fun _ _ f => f.elim)) fun _ _ f => f.elim))
end

/-! ### the rule -/
section
variable {X : Cx} {pins : List (Addr × Obj)} {σ : St} {H : Hp} {s s1 : Shared} {out sc : Scope} {N : List Str} {ms : List Bool}
theorem CompScope.cells (S : CompScope out sc X.N N ms) (ho : X.env.scope = out) (ok : X.Ok) : ∀ x ∈ sc.names, x.2 = .free → ∃ c, X.env.cells.lookup x.1 = some c := fun x hx hf => by
  subst ho
  exact ok.has x.1 (S.fre x hx hf)
theorem lookup_mem {α β : Type} [BEq α] [LawfulBEq α] : ∀ {l : List (α × β)} {x : α} {y : β}, l.lookup x = some y → (x, y) ∈ l
  | [], _, _, h => by simp at h
  | (a, b) :: r, x, y, h => by
    rw [List.lookup_cons] at h
    cases q : x == a with
    | true =>
      rw [q] at h
      have e1 : x = a := by simpa using q
      have e2 : b = y := Option.some.inj h
      rw [e1, e2]
      exact List.mem_cons_self
    | false =>
      rw [q] at h
      exact List.mem_cons_of_mem _ (lookup_mem h)
/-- the names of a block as relabelled: local stays; what is seen and not local was free -/
theorem relabel_lookup {env : Env} : ∀ {names : List (Str × NameKind)} {x : Str} {k : NameKind}, (∀ y ∈ names, y.2 ≠ .cell) →
    (names.map fun (n, k) => if (k == NameKind.free && env.scope.kind == .function && env.kindOf n == some .cell) then (n, NameKind.cell) else (n, k)).lookup x = some k → (k = .cell ∨ k = .free) → names.lookup x = some .free
  | [], _, _, _, h, _ => by simp at h
  | (n, k') :: r, x, k, hc, h, hk => by
    have hc' : ∀ y ∈ r, y.2 ≠ .cell := fun y hy => hc y (List.mem_cons_of_mem _ hy)
    have ih := @relabel_lookup env r x k hc'
    have hk' : k' ≠ .cell := hc (n, k') List.mem_cons_self
    replace h : List.lookup x ((if (k' == NameKind.free && env.scope.kind == .function && env.kindOf n == some .cell) = true then (n, NameKind.cell) else (n, k')) :: _) = some k := h
    cases hx : x == n with
    | true =>
      by_cases hb : (k' == NameKind.free && env.scope.kind == .function && env.kindOf n == some .cell) = true
      · rw [Bool.and_eq_true, Bool.and_eq_true] at hb
        have e : k' = .free := by simpa using hb.1.1
        rw [List.lookup_cons, hx, e]
      · rw [if_neg hb, List.lookup_cons, hx] at h
        have e : k' = k := Option.some.inj h
        rw [List.lookup_cons, hx, e]
        rcases hk with z | z
        · exact absurd (e.trans z) hk'
        · rw [z]
    | false =>
      have h2 : List.lookup x (r.map fun (n, k) => if (k == NameKind.free && env.scope.kind == .function && env.kindOf n == some .cell) then (n, NameKind.cell) else (n, k)) = some k := by
        by_cases hb : (k' == NameKind.free && env.scope.kind == .function && env.kindOf n == some .cell) = true
        · rw [if_pos hb, List.lookup_cons, hx] at h; exact h
        · rw [if_neg hb, List.lookup_cons, hx] at h; exact h
      rw [List.lookup_cons, hx]
      exact ih h2 hk
theorem relabel_local {env : Env} : ∀ {names : List (Str × NameKind)} {x : Str},
    (names.map fun (n, k) => if (k == NameKind.free && env.scope.kind == .function && env.kindOf n == some .cell) then (n, NameKind.cell) else (n, k)).lookup x = some .local → names.lookup x = some .local
  | [], _, h => by simp at h
  | (n, k') :: r, x, h => by
    have ih := @relabel_local env r x
    replace h : List.lookup x ((if (k' == NameKind.free && env.scope.kind == .function && env.kindOf n == some .cell) = true then (n, NameKind.cell) else (n, k')) :: _) = some .local := h
    cases hx : x == n with
    | true =>
      by_cases hb : (k' == NameKind.free && env.scope.kind == .function && env.kindOf n == some .cell) = true
      · rw [if_pos hb, List.lookup_cons, hx] at h
        have e : NameKind.cell = .local := Option.some.inj h
        cases e
      · rw [if_neg hb, List.lookup_cons, hx] at h
        rw [List.lookup_cons, hx]
        exact h
    | false =>
      rw [List.lookup_cons, hx]
      refine ih ?_
      by_cases hb : (k' == NameKind.free && env.scope.kind == .function && env.kindOf n == some .cell) = true
      · rw [if_pos hb, List.lookup_cons, hx] at h; exact h
      · rw [if_neg hb, List.lookup_cons, hx] at h; exact h
/-- a block is entered: its frame at C (the accumulator stands apart) -/
theorem Inv.block (I : Inv X pins σ H s) (S : CompScope out sc X.N N ms) (ho : X.env.scope = out) {C : Addr} {ex : List Addr} {t' : Nat} {h1 : Heap} {m : Str → Option Value} (hex : ∀ b ∈ ex, FpOk X pins H b) (hlt : ∀ b ∈ ex, b < s.heap.objs.size)
    (hC : s.heap.objs.size ≤ C) (hn : h1.Ns C m) (kp : ∀ b o, s.heap.get? b = some o → h1.get? b = some o) : Inv (cxComp X sc N C ex s H) [] (maskS ms σ) H { s with heap := h1, toks := t' } := by
  have hcells := S.cells ho I.ok
  have clk : ∀ x c, (clos X.env.cells sc.names []).lookup x = some c → X.env.cells.lookup x = some c := clos_lookup sc.names [] hcells (fun x c e => by simp at e)
  have seen : ∀ x, ((relabel sc X.env).names.lookup x = some .cell ∨ (relabel sc X.env).names.lookup x = some .free) → sc.names.lookup x = some .free := fun x hx => by
    rcases hx with z | z
    · exact relabel_lookup S.nocell z (.inl rfl)
    · exact relabel_lookup S.nocell z (.inr rfl)
  have hasC : ∀ x, sc.names.lookup x = some .free → ∃ c, (clos X.env.cells sc.names []).lookup x = some c := fun x hx => clos_has sc.names [] x (.inl (lookup_mem hx))
  have ok : (cxComp X sc N C ex s H).Ok := by
    refine ⟨I.ok.mod, S.kind, I.ok.glob, I.ok.blt, hC, fun x y c e1 e2 => I.ok.inj x y c (clk x c e1) (clk y c e2), fun x hx => hasC x (seen x hx), fun x c e => (by cases e), I.ok.hd, I.ok.frames, .inl rfl, fun b hb => ⟨?_, fun x c e => (hex b hb).2.2.2.2.1 x c (clk x c e)⟩, I.bs, ?_, fun b o e hb => ?_, fun b hb hb' => ?_, I.stack, I.stkFree⟩
    · exact Nat.ne_of_lt (Nat.lt_of_lt_of_le (hlt b hb) hC)
    · exact Nat.le_trans I.ok.bsz I.sz
    · rcases (hex b hb).2.2.2.1 with z | z
      · exact I.ok.noex b o e z
      · exact absurd (Nat.lt_of_lt_of_le (Heap.lt_size (I.ok.bs b o e).1) z) (Nat.lt_irrefl _)
    · rcases List.mem_cons.mp (I.stkSub b hb') with z | z
      · exact (hex b hb).2.1 z
      · exact (hex b hb).2.2.1 z
  obtain ⟨m0, _, hl0⟩ := I.loc
  refine ⟨ok, rfl, I.bare, Un.kept kp, ⟨m, hn, fun i x v e1 e2 e3 => ?_⟩, fun x c e => ?_, I.hok.fresh hC, fun x c e => I.freeC x c (clk x c e), fun p hp => absurd hp (by show p ∉ ([] ++ [] : List (Addr × Obj)); simp), I.hok.kept kp, ?_⟩
  · obtain ⟨g1, g2⟩ := maskS_get e2
    obtain ⟨g3, g4⟩ := okMask_at S.mask e1 g1
    have e3 : (relabel sc X.env).names.lookup x = some .local ∨ (relabel sc X.env).names.lookup x = some .cell ∨ (relabel sc X.env).names.lookup x = some .free := e3
    rcases e3 with z | z
    · exact absurd (relabel_local z) g4
    · have q := seen x z
      have w := S.fre (x, .free) (lookup_mem q) rfl
      have w : X.env.scope.names.lookup x = some .cell ∨ X.env.scope.names.lookup x = some .free := by rw [ho]; exact w
      obtain ⟨u, r, l⟩ := hl0 i x v g3 g2 (.inr w)
      refine ⟨u, r, ?_⟩
      rcases l with ⟨l, _⟩ | ⟨_, c, hc, o, hco, hcd⟩
      · have l : X.env.scope.names.lookup x = some .local := l
        rcases w with w | w <;> (rw [l] at w; cases w)
      · obtain ⟨c', hc'⟩ := hasC x q
        have e : c' = c := Option.some.inj ((clk x c' hc').symm.trans hc)
        subst e
        exact .inr ⟨z, c', hc', o, kp _ _ hco, hcd⟩
  · obtain ⟨v, o, hco, hcd⟩ := I.cell x c (clk x c e)
    exact ⟨v, o, kp _ _ hco, hcd⟩
  · rw [maskS_length, okMask_len S.mask]; rfl
variable {elt iter tg : Expr} {ifs : List Expr} {pos : Pos} {wi : TI} {g : TG} {tc : TT} {te : TE} {ks : List Nat}
/-- the block runs: RR is what is wanted at its end -/
theorem comp_core {E : Value → Shared → Prop} {RR : Value → Addr → Result → Shared → Prop} {it : Addr} {fp : List Addr} {tn : Nat → Heap → Prop} {J : It} {Qv : VK} (S : CompScope out sc X.N N ms) (ho : X.env.scope = out) (hc : X.calm = true) (hks : ∀ k ∈ ks, ms[k]? = some false) (hst : Sets g ks)
    (hg : ∀ C ex s H, PG (cxComp X sc N C ex s H) tg g) (ht : ∀ C ex s H, PTs (cxComp X sc N C ex s H) ifs tc) (he : ∀ C ex s H, PE (cxComp X sc N C ex s H) elt te)
    (I : Inv X pins σ H s) (T : Turn X.prog X.w X.K tg J fp it tn) (st0 : tn 0 s.heap) (f0 : ∀ b ∈ fp, FpOk X pins H b)
    (h : ∃ W : Nat → Nat → List V → Hp → Prop, (∃ m, W 0 m [] H) ∧ ∀ i m ys H, W i m ys H →
      (J.stop i H ∧ ∀ D, H D = none → Qv (.ref D) (upd H D (.lst ys))) ∨
      (J.go i H ∧ ys.length < sizeLine ∧ ∃ N : List V → Hp → Prop, (∀ ys' H', N ys' H' → ∃ m', m' < m ∧ W (i + 1) m' ys' H') ∧
        ∀ x H', J.yld i H x H' → g x (maskS ms σ) H' fun σ2 H2 => tc σ2 H2 fun b H3 => if b = true then te σ2 H3 fun v H4 => N (ys ++ [v]) H4 else N ys H3))
    (hRR : ∀ D C H' s' m', Inv X pins σ H' s' → H' C = none → s.heap.objs.size ≤ C → s'.heap.Ns C m' → Qv (.ref D) H' → RR (.ref D) C (.ok .next) s') :
    wpAny (model X.prog X.w) X.A (newList []) (fun acc s₃ => wpAny (model X.prog X.w) X.A (newFunctionEnv sc X.env.globals (clos X.env.cells sc.names []) [] X.env.qual none .none (some X.env)) (fun cenv s₄ =>
      codeAny (model X.prog X.w) X.A (.compStart (.ListComp elt [⟨tg, iter, ifs, 0⟩] sc pos) 0 (.ref it) acc { cenv with scope := relabel sc X.env }) (RR acc cenv.locals) s₄) E s₃) E s := by
  obtain ⟨W, ⟨m0, w0⟩, turn⟩ := h
  refine wpAny_newObj_type (wpAny_newFunctionEnv S.nocell (by intro y hy; simp at hy) (fun h₁ hns₁ hsb₁ => ?_) S.kind)
  dsimp only at hns₁ hsb₁ ⊢
  generalize hH2 : s.heap.push { cls := .type "list", dict := none, data := .seq ([] : List Value).toArray } = H2 at hns₁ hsb₁ ⊢
  generalize hDe : s.heap.objs.size = D at hns₁ hsb₁ ⊢
  generalize hCe : H2.objs.size = C at hns₁ hsb₁ ⊢
  have hCD : C = D + 1 := by rw [← hCe, ← hH2, Heap.size_push, hDe]
  have hDs : s.heap.objs.size ≤ D := Nat.le_of_eq hDe
  have hCs : s.heap.objs.size ≤ C := by omega
  have hDC : D ≠ C := by omega
  have below : ∀ b, b < s.heap.objs.size → b ≠ C ∧ b ≠ D := fun b hb => ⟨by omega, by omega⟩
  have old : ∀ b o, s.heap.get? b = some o → h₁.get? b = some o := fun b o e => hsb₁.extBut b o (below b (Heap.lt_size e)).1 (Heap.get?_push_of_some _ (hH2 ▸ Heap.get?_push_of_some _ e))
  have objD : h₁.get? D = some { cls := .type "list", dict := none, data := .seq ([] : List Value).toArray } := hsb₁.extBut _ _ hDC (Heap.get?_push_of_some _ (hH2 ▸ hDe ▸ Heap.get?_push_size _ rfl))
  have flt : ∀ b ∈ fp, b < s.heap.objs.size := fun b hb => by
    obtain ⟨o, e, _⟩ := T.obj 0 _ st0 b hb
    exact Heap.lt_size e
  have hcells := S.cells ho I.ok
  have clk : ∀ x c, (clos X.env.cells sc.names []).lookup x = some c → c < s.heap.objs.size := fun x c e => by
    obtain ⟨v, o, hco, _⟩ := I.cell x c (clos_lookup sc.names [] hcells (fun x c e => by simp at e) x c e)
    exact Heap.lt_size hco
  generalize hX : cxComp X sc N C fp s H = Y
  have hgY : PG Y tg g := hX ▸ hg C fp s H
  have htY : PTs Y ifs tc := hX ▸ ht C fp s H
  have heY : PE Y elt te := hX ▸ he C fp s H
  have Yprog : Y.prog = X.prog := by rw [← hX]; rfl
  have Yw : Y.w = X.w := by rw [← hX]; rfl
  have YK : Y.K = X.K := by rw [← hX]; rfl
  have Ycalm : Y.calm = true := by rw [← hX]; exact hc
  have YA : Y.A = X.A := by rw [← hX]; rfl
  have Yxe : Y.xe = fun _ _ => False := by rw [← hX]; rfl
  have Ypn : Y.pn = [] := by rw [← hX]; rfl
  have Yex : Y.ex = fp := by rw [← hX]; rfl
  have Ys0 : Y.s₀ = s := by rw [← hX]; rfl
  have YH0 : Y.H₀ = H := by rw [← hX]; rfl
  have Yfs : Y.fs = frs X.stack := by rw [← hX]; rfl
  have YL : Y.env.locals = C := by rw [← hX]; rfl
  have Ycl : Y.env.cells = clos X.env.cells sc.names [] := by rw [← hX]; rfl
  have Yenv : Y.env = { (newEnv sc C X.env.globals (clos X.env.cells sc.names []) X.env.qual none .none (some X.env) 0) with scope := relabel sc X.env } := by rw [← hX]; rfl
  have IY0 : ∀ t', Inv Y [] (maskS ms σ) H { s with heap := h₁, toks := t' } := fun t' => by rw [← hX]; exact I.block S ho f0 flt hCs hns₁ old
  have fpY : ∀ {H' : Hp} {ps : List (Addr × Obj)}, (∀ b ∈ fp, H' b = none) → (∀ p ∈ ps, p.1 = D) → ∀ b ∈ fp, FpOk Y ps H' b := fun {H' ps} hn hp b hb => by
    refine ⟨hn b hb, by rw [YL]; exact (below b (flt b hb)).1, fun z => ?_, .inl (by rw [Yex]; exact hb), fun x c e z => ?_, fun p hp' z => ?_⟩
    · rw [Yfs] at z
      rcases List.mem_cons.mp (I.stkSub b z) with y | y
      · exact (f0 b hb).2.1 y
      · exact (f0 b hb).2.2.1 y
    · rw [Ycl] at e
      exact (f0 b hb).2.2.2.2.1 x c (clos_lookup sc.names [] hcells (fun x c e => by simp at e) x c e) z
    · rw [Ypn] at hp'
      exact (below b (flt b hb)).2 (z.symm.trans (hp p hp'))
  have dY : ∀ {H' : Hp} {ps : List (Addr × Obj)}, H' D = none → (∀ p ∈ ps, p.1 ∈ fp) → FpOk Y ps H' D := fun {H' ps} hn hp => by
    refine ⟨hn, by rw [YL]; exact hDC, fun z => ?_, .inr (by rw [Ys0]; exact hDs), fun x c e z => ?_, fun p hp' z => ?_⟩
    · rw [Yfs] at z
      have q : H D = none := I.stkFree D z
      rcases List.mem_cons.mp (I.stkSub D z) with y | y
      · exact (below _ I.lt).2 y.symm
      · exact I.nofs hDs y
    · rw [Ycl] at e
      exact (below c (clk x c e)).2 z
    · rw [Ypn] at hp'
      exact (below p.1 (flt p.1 (hp p hp'))).2 z
  have wk : ∀ {σ6 : St}, (σ6.length = (maskS ms σ).length ∧ ∀ i, i ∉ ks → σ6[i]? = (maskS ms σ)[i]?) → (∀ (i : Nat) v, (maskS ms σ)[i]? = some (some v) → σ6[i]? = some (some v)) := fun {σ6} hf i v e => by
    rw [hf.2 i (fun z => ?_)]
    · exact e
    · have q := (maskS_get e).1
      rw [hks i z] at q
      cases q
  have loop : ∀ t', codeAny (model X.prog X.w) X.A (.compLoop (.ListComp elt [⟨tg, iter, ifs, 0⟩] sc pos) 0 (.ref it) (.ref D) Y.env) (RR (.ref D) C) { s with heap := h₁, toks := t' } := fun t' => by
    refine codeAny_compLoop_own (fun n s' => ∃ i ys H', Inv Y [] (maskS ms σ) H' s' ∧ tn i s'.heap ∧ (∀ b ∈ fp, H' b = none) ∧ H' D = none ∧ (∃ (its : List Value) (n : Nat), Vals ys its ∧ s'.heap.get? D = some { cls := .type "list", data := .seq its.toArray n }) ∧ ys.length ≤ sizeLine ∧ W i n ys H') ?_ m0
      ⟨0, [], H, IY0 t', T.keep _ _ _ st0 (fun b _ o e => old b o e), fun b hb => (f0 b hb).1, I.hok.fresh hDs, ⟨[], _, .nil, objD⟩, Nat.zero_le _, w0⟩
    rintro n s3 ⟨i, ys, H3, I3, st3, fr3, hD3, ⟨its, nn, vs3, ob3⟩, hl3, w3⟩
    rcases turn i n ys H3 w3 with ⟨stop, qn⟩ | ⟨go, hlen, NN, hN, step⟩
    · have z := T.done Y Yprog Yw YK Ycalm i (pinsAt [D] s3.heap) s3 (maskS ms σ) H3 (fun _ _ => False) (I3.pinned (fp := [D]) (pins := []) (fun b hb => ?c1) (fun b hb => ?c2)) (fpY fr3 (fun p hp => ?c3)) st3 stop
      case c1 => rw [List.mem_singleton.mp hb]; exact dY hD3 (fun p hp => absurd hp (by simp))
      case c2 => rw [List.mem_singleton.mp hb]; exact ⟨_, ob3, fun v e => by cases e⟩
      case c3 => exact List.mem_singleton.mp (of_pinsAt hp).1
      rw [YA] at z
      refine wpAny_mono z (fun r s4 hr4 => ?_) fun _ _ f => f
      obtain ⟨hr, I4⟩ := hr4
      subst hr
      obtain ⟨obD, hD4, _⟩ := I4.pin (D, _) (List.mem_append_right _ (mem_pinsAt (List.mem_singleton.mpr rfl) ob3))
      have b4 := I4.base
      rw [Yfs, Yex, YH0, Ys0] at b4
      have hok4 := I4.hok
      rw [Yprog, Yw] at hok4
      have I5 : Inv X pins σ H3 s4 := I.call' (ch := fp) (by rw [I4.os, Ys0]) b4 hok4 I4.bare (fun b hb => ⟨(f0 b hb).2.2.2.1, (f0 b hb).2.1, (f0 b hb).2.2.2.2.1, (f0 b hb).2.2.2.2.2⟩)
      have nC : H3 C = none := by rw [← YL]; exact I4.free
      obtain ⟨m4, hm4, _⟩ := I4.loc
      rw [YL] at hm4
      refine hRR D C (upd H3 D (.lst ys)) s4 m4 (I5.track hD4 (Nat.le_trans I.sz hDs) (fun z => (below _ I.lt).2 z.symm) (fun x c e => ?_) (fun p hp => ?_) ⟨hl3, its, nn, vs3, obD⟩) (by rw [upd_ne (Ne.symm hDC)]; exact nC) hCs hm4 (qn D hD4)
      · obtain ⟨v, o, hco, _⟩ := I.cell x c e
        exact (below c (Heap.lt_size hco)).2
      · exact (below _ (Heap.lt_size (I.pin p hp).1)).2
    · have z := T.item Y Yprog Yw YK Ycalm i (pinsAt [D] s3.heap) s3 (maskS ms σ) H3 (fun _ _ => False) (I3.pinned (fp := [D]) (pins := []) (fun b hb => ?c1) (fun b hb => ?c2)) (fpY fr3 (fun p hp => ?c3)) st3 go
      case c1 => rw [List.mem_singleton.mp hb]; exact dY hD3 (fun p hp => absurd hp (by simp))
      case c2 => rw [List.mem_singleton.mp hb]; exact ⟨_, ob3, fun v e => by cases e⟩
      case c3 => exact List.mem_singleton.mp (of_pinsAt hp).1
      rw [YA] at z
      refine wpAny_mono z (fun r s4 hr4 => ?_) fun _ _ f => f
      obtain ⟨u, hr, h4⟩ := hr4
      subst hr
      refine wpAny_mono h4 (fun _ s5 h5 => ?_) fun _ _ f => f
      obtain ⟨x, H5, I5, r5, y5, st5, fr5⟩ := h5
      have I5' := I5.pinned (fpY fr5 (fun p hp => List.mem_singleton.mp (of_pinsAt hp).1)) (T.obj _ _ st5)
      have q5 := hst x (maskS ms σ) H5 _ (fun σ2 H2 => (σ2.length = (maskS ms σ).length ∧ ∀ i, i ∉ ks → σ2[i]? = (maskS ms σ)[i]?) ∧ (tc σ2 H2 fun b H3 => if b = true then te σ2 H3 fun v H4 => NN (ys ++ [v]) H4 else NN ys H3)) (step x H5 y5) (fun σ2 H2 f q => ⟨f, q⟩)
      have z5 := hgY _ s5 (maskS ms σ) H5 x u _ I5' r5 q5
      rw [Yprog, Yw, YA, Yxe] at z5
      refine wpAny_mono z5 (fun _ s6 h6 => ?_) fun _ _ f => f
      obtain ⟨σ6, H6, I6, f6, q6⟩ := h6
      have z6 := htY _ s6 σ6 H6 _ I6 q6
      rw [Yprog, Yw, YA, Yxe] at z6
      refine wpAny_mono z6 (fun b s7 h7 => ?_) fun _ _ f => f
      obtain ⟨H7, I7, q7⟩ := h7
      -- what the pins say behind
      have back : ∀ {H8 : Hp} {s8 : Shared}, Inv Y (([] ++ pinsAt [D] s3.heap) ++ pinsAt fp s5.heap) σ6 H8 s8 → (∀ b ∈ fp, H8 b = none) ∧ H8 D = none ∧ s8.heap.get? D = some { cls := .type "list", data := .seq its.toArray nn } ∧ (∀ b ∈ fp, ∀ o, s5.heap.get? b = some o → s8.heap.get? b = some o) ∧ Inv Y (pinsAt fp s5.heap) σ6 H8 s8 := fun {H8 s8} I8 => by
        obtain ⟨obD, hD8, _⟩ := I8.pin (D, _) (List.mem_append_right _ (List.mem_append_left _ (List.mem_append_right _ (mem_pinsAt (List.mem_singleton.mpr rfl) ob3))))
        refine ⟨fun b hb => ?_, hD8, obD, fun b hb o e => (I8.pin (b, o) (List.mem_append_right _ (List.mem_append_right _ (mem_pinsAt hb e)))).1, I8.pins_of fun p hp => I8.pin p (List.mem_append_right _ (List.mem_append_right _ hp))⟩
        obtain ⟨o, e, _⟩ := T.obj _ _ st5 b hb
        exact (I8.pin (b, o) (List.mem_append_right _ (List.mem_append_right _ (mem_pinsAt hb e)))).2.1
      cases b with
      | false =>
        have q7 : NN ys H7 := q7
        obtain ⟨m', hm', w'⟩ := hN _ _ q7
        obtain ⟨k1, k2, k3, k4, k5⟩ := back I7
        show ∃ m, m < n ∧ _
        exact ⟨m', hm', i + 1, ys, H7, (k5.pins_of (fun p hp => absurd hp (by simp))).weak f6.1.symm (wk f6), T.keep _ _ _ st5 k4, k1, k2, ⟨its, nn, vs3, k3⟩, hl3, w'⟩
      | true =>
        have q7 : te σ6 H7 fun v H4 => NN (ys ++ [v]) H4 := q7
        have z7 := heY _ s7 σ6 H7 _ I7 q7
        rw [Yprog, Yw, YA, Yxe] at z7
        show wpAny _ _ _ _ _ _
        refine wpAny_mono z7 (fun v s8 h8 => ?_) fun _ _ f => f
        obtain ⟨v8, H8, I8, r8, q8⟩ := h8
        obtain ⟨k1, k2, k3, k4, k5⟩ := back I8
        have I9 : Inv Y (pinsAt fp s5.heap) σ6 (upd H8 D (.lst ys)) s8 := k5.track k2 (by rw [Ys0]; exact hDs) (by rw [YL]; exact hDC) (fun x c e z => (below c (clk x c (by rw [Ycl] at e; exact e))).2 z) (fun p hp => by
          rw [Ypn] at hp
          exact (below p.1 (flt p.1 (of_pinsAt hp).1)).2) ⟨hl3, its, nn, vs3, k3⟩
        have z8 := mt_append (X := Y) (pinsAt fp s5.heap) s8 σ6 (upd H8 D (.lst ys)) (.ref D) [v8] (.ref D) [v] (fun _ H9 => H9 = upd (upd H8 D (.lst ys)) D (.lst (ys ++ [v8]))) I9 rfl (.cons r8 .nil) ⟨D, ys, v8, rfl, rfl, upd_same, hlen, rfl⟩
        rw [Yprog, Yw, YA, Yxe] at z8
        refine wpAny_mono z8 (fun _ s9 h9 => ?_) fun _ _ f => f
        obtain ⟨_, H9, I9', _, e9⟩ := h9
        subst e9
        rw [upd_upd] at I9'
        have I10 := I9'.untrack k2
        obtain ⟨m', hm', w'⟩ := hN _ _ q8
        have ok9 : ObjOk Y.prog Y.w _ s9.heap D (.lst (ys ++ [v8])) := I9'.hok D _ upd_same
        obtain ⟨l9, its9, n9, vs9, ob9⟩ := ok9
        refine ⟨m', hm', i + 1, ys ++ [v8], H8, (I10.pins_of (fun p hp => absurd hp (by simp))).weak f6.1.symm (wk f6), T.keep _ _ _ st5 (fun b hb o e => ?_), k1, k2, ⟨its9, n9, vs9, ob9⟩, l9, w'⟩
        exact (I10.pin (b, o) (List.mem_append_right _ (mem_pinsAt hb e))).1
  have z := fun t' => codeAny_compStart_list (loop t') (T.self _ 0 _ _ _ (T.keep _ _ _ st0 (fun b _ o e => old b o e)) (loop t'))
  rw [Yenv] at z
  exact z _

/-- [elt for tg in iter (if c)] -/
theorem pe_comp {NX : List Str} (S : CompScope out sc NX N ms) (ho : X.env.scope = out) (hnx : X.N = NX) (hc : X.calm = true) (hi : PI X tg iter wi) (hst : Sets g ks) (hks : ∀ k ∈ ks, ms[k]? = some false)
    (hg : ∀ C ex s H, PG (cxComp X sc N C ex s H) tg g) (ht : ∀ C ex s H, PTs (cxComp X sc N C ex s H) ifs tc) (he : ∀ C ex s H, PE (cxComp X sc N C ex s H) elt te)
    (hs : ∀ x, foldedSetIterable iter X.env x = pure x := by intro _; rfl) : PE X (.ListComp elt [⟨tg, iter, ifs, 0⟩] sc pos) (tComp ms wi g tc te) := by
  intro pins s σ H Q I h
  subst hnx
  rw [eval_ListComp]
  refine wpAny_comprehension_free (use := none) (g := ⟨tg, iter, ifs, 0⟩) (gs := []) rfl hs (closureFor_eq (S.cells ho I.ok)) S.kind S.own (thn (hi pins s σ H _ I h) fun v s1 h1 => thn h1 fun itv s2 h2 => ?_)
  obtain ⟨it, fp, tn, J, H2, e, I2, T, st2, f2, hW⟩ := h2
  subst e
  refine comp_core (Qv := Q) S ho hc hks hst hg ht he I2 T st2 f2 hW ?_
  intro D C H' s' m' I' nC hC hm q
  refine ⟨m', hm, fun h' sb => ⟨.ref D, H', ?_, rfl, q⟩⟩
  exact I'.turned (t' := s'.toks) (it := C) (fun b o hb e => sb.extBut b o hb e) nC (Ne.symm (Nat.ne_of_lt (Nat.lt_of_lt_of_le I2.lt hC))) (.inr (Nat.le_trans I2.sz hC)) (fun x c e => by
    obtain ⟨v, o, hco, _⟩ := I2.cell x c e
    exact Nat.ne_of_lt (Nat.lt_of_lt_of_le (Heap.lt_size hco) hC)) (fun p hp => Nat.ne_of_lt (Nat.lt_of_lt_of_le (Heap.lt_size (I2.pin p hp).1) hC))
/-- name = [elt for tg in iter (if c)] -/
theorem ps_comp {NX : List Str} {i : Nat} {y : Str} {py spos : Pos} (S : CompScope out sc NX N ms) (ho : X.env.scope = out) (hnx : X.N = NX) (hc : X.calm = true) (hN : X.N.Nodup) (hy : X.N[i]? = some y) (hx : Loc X.env.scope y) (hi : PI X tg iter wi) (hst : Sets g ks) (hks : ∀ k ∈ ks, ms[k]? = some false)
    (hg : ∀ C ex s H, PG (cxComp X sc N C ex s H) tg g) (ht : ∀ C ex s H, PTs (cxComp X sc N C ex s H) ifs tc) (he : ∀ C ex s H, PE (cxComp X sc N C ex s H) elt te)
    (hsw : swapsWith (.ListComp elt [⟨tg, iter, ifs, 0⟩] sc pos) (some (.Name y py)) spos.line X.env = pure true)
    (hs : ∀ x, foldedSetIterable iter X.env x = pure x := by intro _; rfl) (hf : X.fn y = true ∨ X.env.scope.names.lookup y = some .local := by first | exact .inl rfl | exact .inr rfl | assumption) :
    PS X (.Assign [.Name y py] (.ListComp elt [⟨tg, iter, ifs, 0⟩] sc pos) spos) (tAsg (tComp ms wi g tc te) (gName i)) := by
  intro pins s σ H Dn I h
  subst hnx
  rw [exec_Assign_Name_used _ _ _ _ hsw]
  refine wpAny_bind (wpAny_standAt (wpAny_bind ?_))
  show wpAny _ X.A (do let _ ← comprehension (.ListComp elt [⟨tg, iter, ifs, 0⟩] sc pos) sc X.env _ (newList []) false (eval iter X.env) (some (assign (.Name y py) X.env))) _ _ s
  refine wpAny_bind (wpAny_mono (wpAny_comprehension_free (use := some (assign (.Name y py) X.env)) (g := ⟨tg, iter, ifs, 0⟩) (gs := []) (Q := fun _ s' => SP X pins Dn .next s') rfl hs (closureFor_eq (S.cells ho I.ok)) S.kind S.own (thn (hi pins s σ H _ I h) fun v s1 h1 => thn h1 fun itv s2 h2 => ?_))
    (fun _ s' hq => wpAny_pure (wpAny_pure hq)) fun _ _ e => e)
  obtain ⟨it, fp, tn, J, H2, e, I2, T, st2, f2, hW⟩ := h2
  subst e
  refine comp_core (Qv := fun x H1 => gName i x σ H1 Dn.nx) S ho hc hks hst hg ht he I2 T st2 f2 hW ?_
  intro D C H' s' m' I' nC hC hm q
  have cne : ∀ x c, X.env.cells.lookup x = some c → c ≠ C := fun x c e => by
    obtain ⟨v, o, hco, _⟩ := I2.cell x c e
    exact Nat.ne_of_lt (Nat.lt_of_lt_of_le (Heap.lt_size hco) hC)
  have lne : C ≠ X.env.locals := Ne.symm (Nat.ne_of_lt (Nat.lt_of_lt_of_le I2.lt hC))
  show wpAny _ X.A (assign (.Name y py) X.env (.ref D)) _ _ _
  refine wpAny_assign_Name (store_ok2 (v := .ref D) I' hN hy hx rfl (fun s'' I'' hsb => ?_) hf)
  obtain ⟨a, sba, ha⟩ := hsb
  have aC : C ≠ a := by
    rcases ha with z | z
    · rw [z]; exact lne
    · exact Ne.symm (cne y a z)
  refine ⟨m', hm.sameBut sba aC, fun h' sb => ⟨_, H', ?_, q⟩⟩
  exact I''.turned (t' := s''.toks) (it := C) (fun b o hb e => sb.extBut b o hb e) nC lne (.inr (Nat.le_trans I2.sz hC)) cne (fun p hp => Nat.ne_of_lt (Nat.lt_of_lt_of_le (Heap.lt_size (I2.pin p hp).1) hC))
end

/-! ### the forms one uses: what holds ahead of the turn i, of the items made and the heap -/
theorem comp_list {K : PySem.W.Frag} {a : Addr} {xs : List V} {B : V → List V → (List V → Hp → Prop) → Hp → Prop} {Z : List V → Hp → Prop} {H : Hp} (Pv : Nat → List V → Hp → Prop) (h0 : Pv 0 [] H) (hl : ∀ i ys H, i ≤ xs.length → Pv i ys H → SqL K H a xs)
    (hy : ∀ i ys H, i < xs.length → Pv i ys H → ys.length < sizeLine) (hs : ∀ i x ys H, xs[i]? = some x → Pv i ys H → B x ys (Pv (i + 1)) H) (hd : ∀ ys H, Pv xs.length ys H → Z ys H) :
    ∃ W : Nat → Nat → List V → Hp → Prop, (∃ m, W 0 m [] H) ∧ ∀ i m ys H, W i m ys H →
      ((Itl K a).stop i H ∧ Z ys H) ∨ ((Itl K a).go i H ∧ ys.length < sizeLine ∧ ∃ N : List V → Hp → Prop, (∀ ys' H', N ys' H' → ∃ m', m' < m ∧ W (i + 1) m' ys' H') ∧ ∀ x H', (Itl K a).yld i H x H' → B x ys N H') := by
  refine ⟨fun i m ys H => m = xs.length - i ∧ i ≤ xs.length ∧ Pv i ys H, ⟨xs.length, by simp, Nat.zero_le _, h0⟩, ?_⟩
  rintro i m ys H ⟨rfl, hi, p⟩
  have q := hl i ys H hi p
  by_cases hlt : i < xs.length
  · refine .inr ⟨⟨xs, xs[i], q, by simp [hlt]⟩, hy i ys H hlt p, Pv (i + 1), fun ys' H' p' => ⟨xs.length - (i + 1), by omega, rfl, hlt, p'⟩, fun x H' y => ?_⟩
    obtain ⟨e, y⟩ := y
    subst e
    exact hs i x ys _ (y xs q) p
  · have e : i = xs.length := by omega
    subst e
    exact .inl ⟨⟨xs, q, Nat.le_refl _⟩, hd ys H p⟩
theorem comp_tup {K : PySem.W.Frag} {a : Addr} {xs : List V} {B : V → List V → (List V → Hp → Prop) → Hp → Prop} {Z : List V → Hp → Prop} {H : Hp} (Pv : Nat → List V → Hp → Prop) (h0 : Pv 0 [] H) (hl : ∀ i ys H, i ≤ xs.length → Pv i ys H → SqT K H a xs)
    (hy : ∀ i ys H, i < xs.length → Pv i ys H → ys.length < sizeLine) (hs : ∀ i x ys H, xs[i]? = some x → Pv i ys H → B x ys (Pv (i + 1)) H) (hd : ∀ ys H, Pv xs.length ys H → Z ys H) :
    ∃ W : Nat → Nat → List V → Hp → Prop, (∃ m, W 0 m [] H) ∧ ∀ i m ys H, W i m ys H →
      ((Itt K a).stop i H ∧ Z ys H) ∨ ((Itt K a).go i H ∧ ys.length < sizeLine ∧ ∃ N : List V → Hp → Prop, (∀ ys' H', N ys' H' → ∃ m', m' < m ∧ W (i + 1) m' ys' H') ∧ ∀ x H', (Itt K a).yld i H x H' → B x ys N H') := by
  refine ⟨fun i m ys H => m = xs.length - i ∧ i ≤ xs.length ∧ Pv i ys H, ⟨xs.length, by simp, Nat.zero_le _, h0⟩, ?_⟩
  rintro i m ys H ⟨rfl, hi, p⟩
  have q := hl i ys H hi p
  by_cases hlt : i < xs.length
  · refine .inr ⟨⟨xs, xs[i], q, by simp [hlt]⟩, hy i ys H hlt p, Pv (i + 1), fun ys' H' p' => ⟨xs.length - (i + 1), by omega, rfl, hlt, p'⟩, fun x H' y => ?_⟩
    obtain ⟨e, y⟩ := y
    subst e
    exact hs i x ys _ (y xs q) p
  · have e : i = xs.length := by omega
    subst e
    exact .inl ⟨⟨xs, q, Nat.le_refl _⟩, hd ys H p⟩
theorem comp_range {lo : Int} {n : Nat} {B : V → List V → (List V → Hp → Prop) → Hp → Prop} {Z : List V → Hp → Prop} {H : Hp} (Pv : Nat → List V → Hp → Prop) (h0 : Pv 0 [] H)
    (hy : ∀ i ys H, i < n → Pv i ys H → ys.length < sizeLine) (hs : ∀ i ys H, i < n → Pv i ys H → B (.int (lo + i)) ys (Pv (i + 1)) H) (hd : ∀ ys H, Pv n ys H → Z ys H) :
    ∃ W : Nat → Nat → List V → Hp → Prop, (∃ m, W 0 m [] H) ∧ ∀ i m ys H, W i m ys H →
      ((Itr lo n).stop i H ∧ Z ys H) ∨ ((Itr lo n).go i H ∧ ys.length < sizeLine ∧ ∃ N : List V → Hp → Prop, (∀ ys' H', N ys' H' → ∃ m', m' < m ∧ W (i + 1) m' ys' H') ∧ ∀ x H', (Itr lo n).yld i H x H' → B x ys N H') := by
  refine ⟨fun i m ys H => m = n - i ∧ i ≤ n ∧ Pv i ys H, ⟨n, by simp, Nat.zero_le _, h0⟩, ?_⟩
  rintro i m ys H ⟨rfl, hi, p⟩
  by_cases hlt : i < n
  · refine .inr ⟨hlt, hy i ys H hlt p, Pv (i + 1), fun ys' H' p' => ⟨n - (i + 1), by omega, rfl, hlt, p'⟩, fun x H' y => ?_⟩
    obtain ⟨e, y⟩ := y
    subst e y
    exact hs i ys _ hlt p
  · have e : i = n := by omega
    subst e
    exact .inl ⟨Nat.le_refl _, hd ys H p⟩
end L2

set_option Elab.async false
set_option linter.all false
set_option maxRecDepth 100000
set_option maxHeartbeats 4000000
/-! DATA: None, bools, ints, texts, tuples and lists of these, however deep; ==, != and in over them -/
namespace L2
open PySem PySem.Spec PyProof.Rows

inductive Dt where
  | non | bl (b : Bool) | int (i : Int) | str (x : Str) | tup (l : List Dt) | lst (l : List Dt)

mutual
def dEq : Dt → Dt → Bool
  | .non, .non => true
  | .bl a, .bl b => a == b
  | .bl a, .int b => (if a then 1 else 0) == b
  | .int a, .bl b => a == (if b then 1 else 0)
  | .int a, .int b => a == b
  | .str a, .str b => a == b
  | .tup l, .tup m => dEqs l m
  | .lst l, .lst m => dEqs l m
  | _, _ => false
def dEqs : List Dt → List Dt → Bool
  | [], [] => true
  | a :: l, b :: m => dEq a b && dEqs l m
  | _, _ => false
end
mutual
theorem dEq_refl : ∀ d : Dt, dEq d d = true
  | .non => by rw [dEq]
  | .bl a => by rw [dEq]; exact beq_self_eq_true a
  | .int a => by rw [dEq]; exact beq_self_eq_true a
  | .str a => by rw [dEq]; exact beq_self_eq_true a
  | .tup l => by rw [dEq]; exact dEqs_refl l
  | .lst l => by rw [dEq]; exact dEqs_refl l
theorem dEqs_refl : ∀ l : List Dt, dEqs l l = true
  | [] => by rw [dEqs]
  | a :: l => by rw [dEqs, dEq_refl a, dEqs_refl l]; rfl
end
mutual
def dep : Dt → Nat
  | .tup l => deps l + 1
  | .lst l => deps l + 1
  | _ => 0
def deps : List Dt → Nat
  | [] => 0
  | a :: l => max (dep a) (deps l)
end
mutual
def Is (K : PySem.W.Frag) (H : Hp) : Dt → V → Prop
  | .non, v => v = .non
  | .bl b, v => v = .bl b
  | .int i, v => v = .int i
  | .str x, v => v = .str x
  | .tup l, v => ∃ a xs, v = .ref a ∧ SqT K H a xs ∧ Iss K H l xs
  | .lst l, v => ∃ a xs, v = .ref a ∧ SqL K H a xs ∧ Iss K H l xs
def Iss (K : PySem.W.Frag) (H : Hp) : List Dt → List V → Prop
  | [], vs => vs = []
  | d :: l, vs => ∃ v r, vs = v :: r ∧ Is K H d v ∧ Iss K H l r
end
theorem Iss.length {K : PySem.W.Frag} {H : Hp} : ∀ {l : List Dt} {vs : List V}, Iss K H l vs → vs.length = l.length
  | [], vs, h => by rw [Iss] at h; rw [h]; rfl
  | d :: l, vs, h => by
    rw [Iss] at h
    obtain ⟨v, r, rfl, _, h2⟩ := h
    rw [List.length_cons, List.length_cons, Iss.length h2]
theorem Iss.nil {K : PySem.W.Frag} {H : Hp} : Iss K H [] [] := by rw [Iss]
theorem Iss.cons {K : PySem.W.Frag} {H : Hp} {d : Dt} {l : List Dt} {v : V} {r : List V} (h1 : Is K H d v) (h2 : Iss K H l r) : Iss K H (d :: l) (v :: r) := by rw [Iss]; exact ⟨v, r, rfl, h1, h2⟩
theorem Iss.get {K : PySem.W.Frag} {H : Hp} : ∀ {l : List Dt} {vs : List V} {i : Nat} {v : V}, Iss K H l vs → vs[i]? = some v → ∃ d, l[i]? = some d ∧ Is K H d v
  | [], vs, i, v, h, e => by rw [Iss] at h; rw [h] at e; simp at e
  | d :: l, vs, 0, v, h, e => by
    rw [Iss] at h
    obtain ⟨w, r, rfl, h1, h2⟩ := h
    have e : w = v := Option.some.inj e
    subst e
    exact ⟨d, rfl, h1⟩
  | d :: l, vs, i + 1, v, h, e => by
    rw [Iss] at h
    obtain ⟨w, r, rfl, h1, h2⟩ := h
    exact Iss.get h2 (i := i) e
theorem Iss.snoc {K : PySem.W.Frag} {H : Hp} {d : Dt} {v : V} (h1 : Is K H d v) : ∀ {l : List Dt} {vs : List V}, Iss K H l vs → Iss K H (l ++ [d]) (vs ++ [v])
  | [], vs, h => by rw [Iss] at h; rw [h]; exact .cons h1 .nil
  | e :: l, vs, h => by
    rw [Iss] at h
    obtain ⟨w, r, rfl, h2, h3⟩ := h
    exact .cons h2 (Iss.snoc h1 h3)
/-- ints, texts: flat data -/
theorem Iss.ints {K : PySem.W.Frag} {H : Hp} : ∀ ns : List Int, Iss K H (ns.map Dt.int) (ns.map V.int)
  | [] => .nil
  | n :: ns => .cons (by rw [Is]) (Iss.ints ns)
theorem Iss.strs {K : PySem.W.Frag} {H : Hp} : ∀ ns : List Str, Iss K H (ns.map Dt.str) (ns.map V.str)
  | [] => .nil
  | n :: ns => .cons (by rw [Is]) (Iss.strs ns)
/-- data stay where lists and tuples stay -/
theorem Same.tup {K : PySem.W.Frag} {H H' : Hp} {a : Addr} {xs : List V} (e : Same H H') (h : SqT K H a xs) : SqT K H' a xs := by
  rcases h with (h | ⟨o, h⟩) | h
  · exact .inl (.inl (e _ _ h))
  · exact .inl (.inr ⟨o, e _ _ h⟩)
  · exact .inr h
mutual
theorem Is.same {K : PySem.W.Frag} {H H' : Hp} (s : Same H H') : ∀ {d : Dt} {v : V}, Is K H d v → Is K H' d v
  | .non, v, h => by rw [Is] at h ⊢; exact h
  | .bl b, v, h => by rw [Is] at h ⊢; exact h
  | .int i, v, h => by rw [Is] at h ⊢; exact h
  | .str x, v, h => by rw [Is] at h ⊢; exact h
  | .tup l, v, h => by
    rw [Is] at h ⊢
    obtain ⟨a, xs, e, h1, h2⟩ := h
    exact ⟨a, xs, e, s.tup h1, Iss.same s h2⟩
  | .lst l, v, h => by
    rw [Is] at h ⊢
    obtain ⟨a, xs, e, h1, h2⟩ := h
    exact ⟨a, xs, e, s.seq h1, Iss.same s h2⟩
theorem Iss.same {K : PySem.W.Frag} {H H' : Hp} (s : Same H H') : ∀ {l : List Dt} {vs : List V}, Iss K H l vs → Iss K H' l vs
  | [], vs, h => by rw [Iss] at h ⊢; exact h
  | d :: l, vs, h => by
    rw [Iss] at h ⊢
    obtain ⟨v, r, e, h1, h2⟩ := h
    exact ⟨v, r, e, Is.same s h1, Iss.same s h2⟩
end
/-! ### equality -/
def ej (l m : List Dt) (j : Nat) : Bool := match l[j]?, m[j]? with
  | some a, some b => dEq a b
  | _, _ => false
theorem dEqs_all : ∀ l m : List Dt, ((List.range (min l.length m.length)).all (ej l m) && l.length == m.length) = dEqs l m
  | [], [] => by rw [dEqs]; rfl
  | [], b :: m => by simp [dEqs]
  | a :: l, [] => by simp [dEqs]
  | a :: l, b :: m => by
    rw [dEqs, ← dEqs_all l m]
    have e : min (a :: l).length (b :: m).length = min l.length m.length + 1 := by simp only [List.length_cons]; omega
    rw [e, List.range_succ_eq_map, List.all_cons, List.all_map]
    have e2 : (ej (a :: l) (b :: m) ∘ Nat.succ) = ej l m := by funext j; rfl
    have e3 : ej (a :: l) (b :: m) 0 = dEq a b := rfl
    have e4 : ((a :: l).length == (b :: m).length) = (l.length == m.length) := by simp
    rw [e2, e3, e4, Bool.and_assoc]
section
variable {X : Cx} {pins : List (Addr × Obj)} {σ : St} {H : Hp} {s : Shared}
theorem Inv.tupleD {K : PySem.W.Frag} (I : Inv X pins σ H s) (hK : X.K = K) {l : List Dt} {v : V} {u : Value} (h : Is K H (.tup l) v) (r : RelV v u) : ∃ (a : Addr) (xs : List V) (its : List Value), v = .ref a ∧ u = .ref a ∧ SqT K H a xs ∧ Iss K H l xs ∧ Vals xs its ∧ s.heap.IsTuple a its.toArray := by
  subst hK
  rw [Is] at h
  obtain ⟨a, xs, rfl, h1, h2⟩ := h
  obtain ⟨its, h3, h4, _⟩ := I.tuple h1
  exact ⟨a, xs, its, rfl, r, h1, h2, h3, h4⟩
theorem Inv.listD {K : PySem.W.Frag} (I : Inv X pins σ H s) (hK : X.K = K) {l : List Dt} {v : V} {u : Value} (h : Is K H (.lst l) v) (r : RelV v u) : ∃ (a : Addr) (xs : List V) (its : List Value), v = .ref a ∧ u = .ref a ∧ SqL K H a xs ∧ Iss K H l xs ∧ Vals xs its ∧ s.heap.IsList a its.toArray := by
  subst hK
  rw [Is] at h
  obtain ⟨a, xs, rfl, h1, h2⟩ := h
  obtain ⟨its, h3, h4, _⟩ := I.list h1
  exact ⟨a, xs, its, rfl, r, h1, h2, h3, h4.isList⟩
mutual
/-- one thing is two data: they are alike -/
theorem eq_same (I : Inv X pins σ H s) : ∀ (d e : Dt) {v : V}, Is X.K H d v → Is X.K H e v → dEq d e = true
  | .tup l, .tup m, v, h1, h2 => by
    rw [Is] at h1; rw [Is] at h2
    obtain ⟨a, xs, rfl, q1, q2⟩ := h1
    obtain ⟨b, ys, e, q3, q4⟩ := h2
    cases e
    have e := I.tuple_inj q1 q3
    subst e
    rw [dEq]
    exact eqs_same I l m q2 q4
  | .lst l, .lst m, v, h1, h2 => by
    rw [Is] at h1; rw [Is] at h2
    obtain ⟨a, xs, rfl, q1, q2⟩ := h1
    obtain ⟨b, ys, e, q3, q4⟩ := h2
    cases e
    have e := I.list_inj q1 q3
    subst e
    rw [dEq]
    exact eqs_same I l m q2 q4
  | .tup l, .lst m, v, h1, h2 => by
    rw [Is] at h1; rw [Is] at h2
    obtain ⟨a, xs, rfl, q1, q2⟩ := h1
    obtain ⟨b, ys, e, q3, q4⟩ := h2
    cases e
    obtain ⟨i1, _, k1, _⟩ := I.tuple q1
    obtain ⟨i2, _, k2, _⟩ := I.list q3
    exact absurd rfl (SeqAt.ne_of_list_tuple k2.isList k1)
  | .lst l, .tup m, v, h1, h2 => by
    rw [Is] at h1; rw [Is] at h2
    obtain ⟨a, xs, rfl, q1, q2⟩ := h1
    obtain ⟨b, ys, e, q3, q4⟩ := h2
    cases e
    obtain ⟨i1, _, k1, _⟩ := I.tuple q3
    obtain ⟨i2, _, k2, _⟩ := I.list q1
    exact absurd rfl (SeqAt.ne_of_list_tuple k2.isList k1)
  | .non, e, v, h1, h2 => by
    rw [Is] at h1; subst h1
    cases e <;> rw [Is] at h2 <;> first | rfl | (exfalso; first | (cases h2; done) | (obtain ⟨_, _, z, _⟩ := h2; cases z))
  | .bl b, e, v, h1, h2 => by
    rw [Is] at h1; subst h1
    cases e <;> rw [Is] at h2 <;> first | (cases h2; rw [dEq]; exact beq_self_eq_true _) | (exfalso; first | (cases h2; done) | (obtain ⟨_, _, z, _⟩ := h2; cases z))
  | .int b, e, v, h1, h2 => by
    rw [Is] at h1; subst h1
    cases e <;> rw [Is] at h2 <;> first | (cases h2; rw [dEq]; exact beq_self_eq_true _) | (exfalso; first | (cases h2; done) | (obtain ⟨_, _, z, _⟩ := h2; cases z))
  | .str b, e, v, h1, h2 => by
    rw [Is] at h1; subst h1
    cases e <;> rw [Is] at h2 <;> first | (cases h2; rw [dEq]; exact beq_self_eq_true _) | (exfalso; first | (cases h2; done) | (obtain ⟨_, _, z, _⟩ := h2; cases z))
  | .tup l, .non, v, h1, h2 => by rw [Is] at h1; rw [Is] at h2; obtain ⟨_, _, z, _⟩ := h1; rw [h2] at z; cases z
  | .tup l, .bl _, v, h1, h2 => by rw [Is] at h1; rw [Is] at h2; obtain ⟨_, _, z, _⟩ := h1; rw [h2] at z; cases z
  | .tup l, .int _, v, h1, h2 => by rw [Is] at h1; rw [Is] at h2; obtain ⟨_, _, z, _⟩ := h1; rw [h2] at z; cases z
  | .tup l, .str _, v, h1, h2 => by rw [Is] at h1; rw [Is] at h2; obtain ⟨_, _, z, _⟩ := h1; rw [h2] at z; cases z
  | .lst l, .non, v, h1, h2 => by rw [Is] at h1; rw [Is] at h2; obtain ⟨_, _, z, _⟩ := h1; rw [h2] at z; cases z
  | .lst l, .bl _, v, h1, h2 => by rw [Is] at h1; rw [Is] at h2; obtain ⟨_, _, z, _⟩ := h1; rw [h2] at z; cases z
  | .lst l, .int _, v, h1, h2 => by rw [Is] at h1; rw [Is] at h2; obtain ⟨_, _, z, _⟩ := h1; rw [h2] at z; cases z
  | .lst l, .str _, v, h1, h2 => by rw [Is] at h1; rw [Is] at h2; obtain ⟨_, _, z, _⟩ := h1; rw [h2] at z; cases z
theorem eqs_same (I : Inv X pins σ H s) : ∀ (l m : List Dt) {vs : List V}, Iss X.K H l vs → Iss X.K H m vs → dEqs l m = true
  | [], [], vs, h1, h2 => by rw [dEqs]
  | [], b :: m, vs, h1, h2 => by rw [Iss] at h1; rw [Iss] at h2; obtain ⟨_, _, z, _⟩ := h2; rw [h1] at z; cases z
  | a :: l, [], vs, h1, h2 => by rw [Iss] at h1; rw [Iss] at h2; obtain ⟨_, _, z, _⟩ := h1; rw [h2] at z; cases z
  | a :: l, b :: m, vs, h1, h2 => by
    rw [Iss] at h1; rw [Iss] at h2
    obtain ⟨v, r, rfl, q1, q2⟩ := h1
    obtain ⟨v', r', e, q3, q4⟩ := h2
    cases e
    rw [dEqs, eq_same I a b q1 q3, eqs_same I l m q2 q4]
    rfl
end
theorem dep_le {d : Dt} : ∀ {l : List Dt} {j : Nat}, l[j]? = some d → dep d ≤ deps l
  | [], j, h => by simp at h
  | a :: l, 0, h => by
    have e : a = d := Option.some.inj h
    subst e
    rw [deps]; omega
  | a :: l, j + 1, h => by
    have q := dep_le (l := l) (j := j) h
    rw [deps]; omega
/-- the items' answers -/
theorem items_eq {A : Around} {l m : List Dt} {xs ys : List V} {us vs : List Value} (ih : ∀ (j : Nat) (d e : Dt) {x y : V} {u v : Value}, l[j]? = some d → m[j]? = some e → Is X.K H d x → Is X.K H e y → RelV x u → RelV y v → SeqAt.EqAt A s u v (dEq d e))
    (h1 : Iss X.K H l xs) (h2 : Iss X.K H m ys) (r1 : Vals xs us) (r2 : Vals ys vs) : ∀ j (q1 : j < us.toArray.size) (q2 : j < vs.toArray.size), SeqAt.EqAt A s us.toArray[j] vs.toArray[j] (ej l m j) := by
  intro j q1 q2
  have q1' : j < us.length := by simpa using q1
  have q2' : j < vs.length := by simpa using q2
  have e1 : us.toArray[j] = us[j] := by simp
  have e2 : vs.toArray[j] = vs[j] := by simp
  rw [e1, e2]
  have lx : j < xs.length := by rw [r1.length]; exact q1'
  have ly : j < ys.length := by rw [r2.length]; exact q2'
  obtain ⟨u, hu, ru⟩ := r1.get (List.getElem?_eq_getElem lx)
  obtain ⟨v, hv, rv⟩ := r2.get (List.getElem?_eq_getElem ly)
  obtain ⟨d, hd, id⟩ := h1.get (List.getElem?_eq_getElem lx)
  obtain ⟨e, he, ie⟩ := h2.get (List.getElem?_eq_getElem ly)
  have e3 : us[j] = u := by rw [List.getElem?_eq_getElem q1'] at hu; exact Option.some.inj hu
  have e4 : vs[j] = v := by rw [List.getElem?_eq_getElem q2'] at hv; exact Option.some.inj hv
  have e5 : ej l m j = dEq d e := by unfold ej; rw [hd, he]
  rw [e3, e4, e5]
  exact ih j d e hd he id ie ru rv
theorem eqs_tup {l m : List Dt} {xs ys : List V} {us vs : List Value} (h1 : Iss X.K H l xs) (h2 : Iss X.K H m ys) (r1 : Vals xs us) (r2 : Vals ys vs) : ((List.range (min us.toArray.size vs.toArray.size)).all (ej l m) && us.toArray.size == vs.toArray.size) = dEqs l m := by
  have e1 : us.toArray.size = l.length := by rw [List.size_toArray, ← r1.length, h1.length]
  have e2 : vs.toArray.size = m.length := by rw [List.size_toArray, ← r2.length, h2.length]
  rw [e1, e2, dEqs_all]
/-- == of data, the answer that is asked for -/
theorem eqAt_D (I : Inv X pins σ H s) : ∀ (n : Nat) (A : Around) (d e : Dt) {x y : V} {u v : Value}, dep d ≤ n → A.units + n + 1 < cLine → Is X.K H d x → Is X.K H e y → RelV x u → RelV y v → SeqAt.EqAt A s u v (dEq d e) := by
  intro n
  induction n with
  | zero =>
    intro A d e x y u v hn hu h1 h2 r1 r2
    have hu0 : A.units < cLine := by omega
    cases d with
    | tup l => rw [dep] at hn; omega
    | lst l => rw [dep] at hn; omega
    | _ => 
      rw [Is] at h1; subst h1
      cases e with
      | tup m =>
        obtain ⟨a, xs, its, rfl, rfl, q1, q2, q3, q4⟩ := I.tupleD rfl h2 r2
        first
          | (cases r1; exact SeqAt.EqAt.none_tuple q4 hu0)
          | (cases r1; exact SeqAt.EqAt.bool_tuple _ q4 hu0)
          | (obtain ⟨t, rfl⟩ := r1; exact SeqAt.EqAt.int_tuple _ t q4 hu0)
          | (obtain ⟨t, rfl⟩ := r1; exact SeqAt.EqAt.str_tuple _ t q4 hu0)
      | lst m =>
        obtain ⟨a, xs, its, rfl, rfl, q1, q2, q3, q4⟩ := I.listD rfl h2 r2
        first
          | (cases r1; exact SeqAt.EqAt.none_list q4 hu0)
          | (cases r1; exact SeqAt.EqAt.bool_list _ q4 hu0)
          | (obtain ⟨t, rfl⟩ := r1; exact SeqAt.EqAt.int_list _ t q4 hu0)
          | (obtain ⟨t, rfl⟩ := r1; exact SeqAt.EqAt.str_list _ t q4 hu0)
      | _ =>
        rw [Is] at h2; subst h2
        exact eqAt_V r1 r2 rfl rfl
  | succ n ih =>
    intro A d e x y u v hn hu h1 h2 r1 r2
    have hu0 : A.units < cLine := by omega
    have hu1 : A.in1.units + n + 1 < cLine := by show A.units + 1 + n + 1 < cLine; omega
    cases d with
    | tup l =>
      obtain ⟨a, xs, its, rfl, rfl, q1, q2, q3, q4⟩ := I.tupleD rfl h1 r1
      rw [dep] at hn
      cases e with
      | tup m =>
        obtain ⟨b, ys, ist, rfl, rfl, p1, p2, p3, p4⟩ := I.tupleD rfl h2 r2
        by_cases hab : a = b
        · subst hab
          rw [eq_same I _ _ h1 h2]
          exact SeqAt.EqAt.same _
        · refine SeqAt.EqAt.of_refs hab ?_
          have z := SeqAt.RcAt.tuples q4 p4 hu0 (items_eq (X := X) (fun j d e {x y u v} hd _ g1 g2 g3 g4 => ih A.in1 d e (Nat.le_trans (dep_le hd) (by omega)) hu1 g1 g2 g3 g4) q2 p2 q3 p3)
          rw [eqs_tup q2 p2 q3 p3] at z
          rw [dEq]
          exact z
      | lst m =>
        obtain ⟨b, ys, ist, rfl, rfl, p1, p2, p3, p4⟩ := I.listD rfl h2 r2
        exact SeqAt.EqAt.tuple_list q4 p4 hu0
      | non => rw [Is] at h2; subst h2; cases r2; exact SeqAt.EqAt.tuple_none q4 hu0
      | bl b => rw [Is] at h2; subst h2; cases r2; exact SeqAt.EqAt.tuple_bool _ q4 hu0
      | int i => rw [Is] at h2; subst h2; obtain ⟨t, rfl⟩ := r2; exact SeqAt.EqAt.tuple_int _ t q4 hu0
      | str i => rw [Is] at h2; subst h2; obtain ⟨t, rfl⟩ := r2; exact SeqAt.EqAt.tuple_str _ t q4 hu0
    | lst l =>
      obtain ⟨a, xs, its, rfl, rfl, q1, q2, q3, q4⟩ := I.listD rfl h1 r1
      rw [dep] at hn
      cases e with
      | lst m =>
        obtain ⟨b, ys, ist, rfl, rfl, p1, p2, p3, p4⟩ := I.listD rfl h2 r2
        by_cases hab : a = b
        · subst hab
          rw [eq_same I _ _ h1 h2]
          exact SeqAt.EqAt.same _
        · refine SeqAt.EqAt.of_refs hab ?_
          rw [dEq]
          have ei := eqs_tup q2 p2 q3 p3
          by_cases hz : its.toArray.size = ist.toArray.size
          · have z := SeqAt.RcAt.lists q4 p4 hz hu0 (items_eq (X := X) (fun j d e {x y u v} hd _ g1 g2 g3 g4 => ih A.in1 d e (Nat.le_trans (dep_le hd) (by omega)) hu1 g1 g2 g3 g4) q2 p2 q3 p3)
            rw [← hz, Nat.min_self, beq_self_eq_true, Bool.and_true] at ei
            rw [ei] at z
            exact z
          · have hz' : (its.toArray.size == ist.toArray.size) = false := by simpa using hz
            rw [hz', Bool.and_false] at ei
            rw [← ei]
            exact SeqAt.RcAt.lists_lengths q4 p4 (by simpa using hz) hu0
      | tup m =>
        obtain ⟨b, ys, ist, rfl, rfl, p1, p2, p3, p4⟩ := I.tupleD rfl h2 r2
        exact SeqAt.EqAt.list_tuple q4 p4 hu0
      | non => rw [Is] at h2; subst h2; cases r2; exact SeqAt.EqAt.list_none q4 hu0
      | bl b => rw [Is] at h2; subst h2; cases r2; exact SeqAt.EqAt.list_bool _ q4 hu0
      | int i => rw [Is] at h2; subst h2; obtain ⟨t, rfl⟩ := r2; exact SeqAt.EqAt.list_int _ t q4 hu0
      | str i => rw [Is] at h2; subst h2; obtain ⟨t, rfl⟩ := r2; exact SeqAt.EqAt.list_str _ t q4 hu0
    | _ =>
      rw [Is] at h1; subst h1
      cases e with
      | tup m =>
        obtain ⟨a, xs, its, rfl, rfl, q1, q2, q3, q4⟩ := I.tupleD rfl h2 r2
        first
          | (cases r1; exact SeqAt.EqAt.none_tuple q4 hu0)
          | (cases r1; exact SeqAt.EqAt.bool_tuple _ q4 hu0)
          | (obtain ⟨t, rfl⟩ := r1; exact SeqAt.EqAt.int_tuple _ t q4 hu0)
          | (obtain ⟨t, rfl⟩ := r1; exact SeqAt.EqAt.str_tuple _ t q4 hu0)
      | lst m =>
        obtain ⟨a, xs, its, rfl, rfl, q1, q2, q3, q4⟩ := I.listD rfl h2 r2
        first
          | (cases r1; exact SeqAt.EqAt.none_list q4 hu0)
          | (cases r1; exact SeqAt.EqAt.bool_list _ q4 hu0)
          | (obtain ⟨t, rfl⟩ := r1; exact SeqAt.EqAt.int_list _ t q4 hu0)
          | (obtain ⟨t, rfl⟩ := r1; exact SeqAt.EqAt.str_list _ t q4 hu0)
      | _ =>
        rw [Is] at h2; subst h2
        exact eqAt_V r1 r2 rfl rfl
end
end L2

set_option Elab.async false
set_option linter.all false
set_option maxRecDepth 100000
set_option maxHeartbeats 4000000
/-! MORE RULES over the hand layer: == and in over data, insert, [::-1], sum, enumerate, whole slices of tuples, sums of tuples, isinstance, classes without __init__ -/
namespace L2
open PySem PySem.Spec PyProof.Rows
section
variable {X : Cx} {a b e o : Expr} {ta tb te : TE} {pos : Pos}
/-! ### ==, !=, in, not in -/
def seqD : Dt → Bool
  | .tup _ => true
  | .lst _ => true
  | _ => false
def rEqD (K : PySem.W.Frag) : R2 := fun x y H Q => ∃ d e, Is K H d x ∧ Is K H e y ∧ seqD d = true ∧ seqD e = true ∧ dep d ≤ 50 ∧ Q (.bl (dEq d e)) H
def rNeD (K : PySem.W.Frag) : R2 := fun x y H Q => ∃ d e, Is K H d x ∧ Is K H e y ∧ seqD d = true ∧ seqD e = true ∧ dep d ≤ 50 ∧ Q (.bl (!dEq d e)) H
theorem eqD_core {pins : List (Addr × Obj)} {s : Shared} {σ : St} {H : Hp} {d e : Dt} {x y : V} {v u : Value} (hu : X.A.units + 60 < cLine) (I : Inv X pins σ H s) (h1 : Is X.K H d x) (h2 : Is X.K H e y) (g1 : seqD d = true) (g2 : seqD e = true) (g3 : dep d ≤ 50) (rx : RelV x v) (ry : RelV y u) :
    SeqAt.RcAt X.A s v u (dEq d e) ∧ SeqAt.RcNeAt X.A s v u (!dEq d e) := by
  have hu0 : X.A.units < cLine := by omega
  have hu1 : X.A.in1.units + 50 + 1 < cLine := by show X.A.units + 1 + 50 + 1 < cLine; omega
  cases d with
  | tup l =>
    obtain ⟨a, xs, its, rfl, rfl, q1, q2, q3, q4⟩ := I.tupleD rfl h1 rx
    rw [dep] at g3
    cases e with
    | tup m =>
      obtain ⟨b, ys, ist, rfl, rfl, p1, p2, p3, p4⟩ := I.tupleD rfl h2 ry
      have it := items_eq (X := X) (A := X.A.in1) (fun j d e {x y u v} hd _ g1 g2 g3 g4 => eqAt_D I 50 X.A.in1 d e (Nat.le_trans (dep_le hd) (by omega)) hu1 g1 g2 g3 g4) q2 p2 q3 p3
      have z1 := SeqAt.RcAt.tuples q4 p4 hu0 it
      have z2 := SeqAt.RcNeAt.tuples q4 p4 hu0 it
      rw [eqs_tup q2 p2 q3 p3] at z1 z2
      rw [dEq]
      exact ⟨z1, z2⟩
    | lst m =>
      obtain ⟨b, ys, ist, rfl, rfl, p1, p2, p3, p4⟩ := I.listD rfl h2 ry
      exact ⟨SeqAt.RcAt.tuple_list q4 p4 hu0, SeqAt.RcNeAt.tuple_list q4 p4 hu0⟩
    | _ => cases g2
  | lst l =>
    obtain ⟨a, xs, its, rfl, rfl, q1, q2, q3, q4⟩ := I.listD rfl h1 rx
    rw [dep] at g3
    cases e with
    | lst m =>
      obtain ⟨b, ys, ist, rfl, rfl, p1, p2, p3, p4⟩ := I.listD rfl h2 ry
      have it := items_eq (X := X) (A := X.A.in1) (fun j d e {x y u v} hd _ g1 g2 g3 g4 => eqAt_D I 50 X.A.in1 d e (Nat.le_trans (dep_le hd) (by omega)) hu1 g1 g2 g3 g4) q2 p2 q3 p3
      rw [dEq]
      have ei := eqs_tup q2 p2 q3 p3
      by_cases hz : its.toArray.size = ist.toArray.size
      · have z1 := SeqAt.RcAt.lists q4 p4 hz hu0 it
        have z2 := SeqAt.RcNeAt.lists q4 p4 hz hu0 it
        rw [← hz, Nat.min_self, beq_self_eq_true, Bool.and_true] at ei
        rw [ei] at z1 z2
        exact ⟨z1, z2⟩
      · have hz' : (its.toArray.size == ist.toArray.size) = false := by simpa using hz
        rw [hz', Bool.and_false] at ei
        rw [← ei]
        exact ⟨SeqAt.RcAt.lists_lengths q4 p4 (by simpa using hz) hu0, SeqAt.RcNeAt.lists_lengths q4 p4 (by simpa using hz) hu0⟩
    | tup m =>
      obtain ⟨b, ys, ist, rfl, rfl, p1, p2, p3, p4⟩ := I.tupleD rfl h2 ry
      exact ⟨SeqAt.RcAt.list_tuple q4 p4 hu0, SeqAt.RcNeAt.list_tuple q4 p4 hu0⟩
    | _ => cases g2
  | _ => cases g1
theorem op_eqD (hu : X.A.units + 60 < cLine) : OpR X (compareOp .Eq) (rEqD X.K) := by
  intro pins s σ H x y v u Q I rx ry h
  obtain ⟨d, e, h1, h2, g1, g2, g3, q⟩ := h
  exact (eqD_core hu I h1 h2 g1 g2 g3 rx ry).1 _ _ _ _ ⟨.bl (dEq d e), H, I, rfl, q⟩
theorem op_neD (hu : X.A.units + 60 < cLine) : OpR X (compareOp .NotEq) (rNeD X.K) := by
  intro pins s σ H x y v u Q I rx ry h
  obtain ⟨d, e, h1, h2, g1, g2, g3, q⟩ := h
  exact (eqD_core hu I h1 h2 g1 g2 g3 rx ry).2 _ _ _ _ ⟨.bl (!dEq d e), H, I, rfl, q⟩
end
section
variable {X : Cx} {a b e o : Expr} {ta tb te : TE} {pos : Pos}
open Classical in
/-! ### xs.insert(i, e), 0 ≤ i -/
/-! ### xs[::-1] -/
def tRev (K : PySem.W.Frag) (te : TE) (tk : TO) : TE := fun σ H Q => te σ H fun x H1 => tk σ H1 fun o H2 => o = some (-1) ∧ ∃ a xs, x = .ref a ∧ SqL K H2 a xs ∧ ∀ p, H2 p = none → Q (.ref p) (upd H2 p (.lst xs.reverse))
theorem pe_rev {k : Expr} {tk : TO} {p2 : Pos} (he : PE X e te) (hk : PO X (some k) tk) : PE X (.Subscript e (.Slice none none (some k) p2) pos) (tRev X.K te tk) := by
  intro pins s σ H Q I h
  refine Subscript_ (thn (he pins s σ H _ I h) fun v s1 ⟨x, H1, I1, r1, q1⟩ => ?_)
  refine wpAny_Slice ?_
  rw [evalPart_none]
  refine wpAny_pure (wpAny_pure (thn (hk pins s1 σ H1 _ I1 q1) fun vk s2 ⟨o, H2, I2, pk, q2⟩ => ?_))
  obtain ⟨rfl, a, xs, rfl, hx, q⟩ := q2
  cases r1
  have I4 : Inv X pins σ H2 { s2 with heap := s2.heap.push { cls := .type "slice", data := .fields #[.none, .none, vk] } } := I2.kept (t' := s2.toks) fun b ob q => Heap.get?_push_of_some _ q
  obtain ⟨its, r, ht, hz⟩ := I4.list hx
  have hlen := r.length
  show wpAny (model X.prog X.w) X.A (subscriptTail e (.Slice none none (some k) p2) (.ref a) (.ref s2.heap.objs.size)) (EP X pins σ Q) X.xe { s2 with heap := s2.heap.push { cls := .type "slice", data := .fields #[.none, .none, vk] } }
  refine tail_any (ops := [.ref a, .ref s2.heap.objs.size]) ht.isList.typeIs slot_list_getitem.lookup ?_ (by with_unfolding_all rfl)
  refine wpAny_getItem_list_slice ht.isList (Heap.IsSliceOf.new ..) .none .none pk (by simp) ?_ (by rw [List.size_toArray]; omega)
  rw [PySem.W.krv_pick]
  refine ⟨.ref _, _, I4.laid (t' := s2.toks) (o := .lst xs.reverse) (fun b ob q => Heap.get?_push_of_some _ q) (Nat.le_refl _) ?_, rfl, q _ (I4.hok.fresh (Nat.le_refl _))⟩
  exact ⟨by rw [List.length_reverse]; exact hz, _, 0, r.reverse, Heap.get?_push_size _ rfl⟩
/-! ### sum(xs) of ints -/
/-! ### slices of tuples, the whole among them; sums of tuples, empty ones among them -/
theorem getItem_tuple_whole {prog : Program} {w : World} {A : Around} {E : Value → Shared → Prop} {s : Shared} {t sl : Addr} {items : Array Value} {vl vu : Value} {lo hi : Option Int} {Q : Value → Shared → Prop} (ht : IsTup s.heap t items) (hs : s.heap.IsSliceOf sl vl vu .none) (pl : IsPart vl lo) (pu : IsPart vu hi)
    (hw : HT.sIx items.size 0 lo = 0 ∧ HT.sIx items.size items.size hi = items.size) (h : Q (.ref t) s) : wpAny (model prog w) A (getItem (.ref t) (.ref sl)) Q E s := by
  obtain ⟨os, hos, hcs, hds⟩ := id hs
  have hTs : s.TypeIs (.ref sl) "slice" := ⟨os, hos, hcs⟩
  unfold getItem
  try with_reducible refine wpAny_holding ?_
  first | refine wpAny_bind (wpAny_pure ?_) | skip
  refine wpAny_bind (wpAny_sequenceKey ht.typeIs (by decide) ?_)
  refine wpAny_bind (wpAny_callSpecial?_slot (name := Str.ofString "__getitem__") ht.typeIs PyProof.Rows.slot_tuple_getitem
    (wpAny_call_entry PyProof.Rows.slot_tuple_getitem ht.typeIs entry_tuple_getitem ?_ (args_tuple_getitem _ _)))
  show wpAny _ _ (Builtin.Tuple.tupleItemsOf (.ref t) >>= _) _ _ s
  refine wpAny_bind (tupleItemsOf_ ht ?_)
  refine wpAny_bind (wpAny_typeOf hTs ?_)
  rw [if_pos (by decide)]
  refine wpAny_bind (HT.sliceApplied_gen hs pl pu ?_)
  show wpAny _ _ (if (((HT.sIx items.size 0 lo : Nat) : Int) == 0 && (1 : Int) == 1 && (HT.sIx items.size items.size hi - HT.sIx items.size 0 lo) == items.size) = true then _ else _) _ _ s
  rw [if_pos (by rw [hw.1, hw.2]; simp)]
  refine wpAny_bind ?_
  unfold Builtin.Tuple.tupleIsExact
  refine wpAny_bind (wpAny_typeOf ht.typeIs (wpAny_pure ?_))
  exact wpAny_bind (wpAny_rule (wpAny_pure ⟨_, rfl, wpAny_pure h⟩))
theorem sl_tupW : SlR X (fun x lo hi H Q => ∃ a xs, x = .ref a ∧ SqT X.K H a xs ∧ (HT.sIx xs.length 0 lo = 0 ∧ HT.sIx xs.length xs.length hi = xs.length) ∧ Q (.ref a) H) := by
  intro pins s σ H x v vl vu lo hi sl Q I rx hs pl pu h
  obtain ⟨a, xs, rfl, hx, hw, q⟩ := h
  cases rx
  obtain ⟨its, r, ht, hz⟩ := I.tuple hx
  have hlen : its.toArray.size = xs.length := by rw [List.size_toArray]; exact r.length.symm
  refine ⟨"tuple", _, PyProof.Rows.slot_tuple_getitem.lookup, ht.typeIs, ?_⟩
  exact getItem_tuple_whole ht hs pl pu (by rw [hlen]; exact hw) ⟨.ref a, H, I, rfl, q⟩
/-- t[lo:hi] of a tuple: some tuple with these items, what was tracked stays -/
theorem sl_tupA : SlR X (fun x lo hi H Q => ∃ a xs, x = .ref a ∧ SqT X.K H a xs ∧ ∀ p H', Same H H' → SqT X.K H' p (cutV xs lo hi) → Q (.ref p) H') := by
  intro pins s σ H x v vl vu lo hi sl Q I rx hs pl pu h
  obtain ⟨a, xs, ex, hx, q⟩ := h
  by_cases hw : HT.sIx xs.length 0 lo = 0 ∧ HT.sIx xs.length xs.length hi = xs.length
  · refine sl_tupW pins s σ H x v vl vu lo hi sl Q I rx hs pl pu ⟨a, xs, ex, hx, hw, q a H (Same.refl H) ?_⟩
    have e : cutV xs lo hi = xs := by
      unfold cutV
      rw [hw.1, hw.2, Nat.sub_zero, List.drop_zero, List.take_of_length_le (Nat.le_refl _)]
    rw [e]
    exact hx
  · refine sl_tup pins s σ H x v vl vu lo hi sl Q I rx hs pl pu ⟨a, xs, ex, hx, hw, fun p hp => q p _ (fun b o e => ?_) (SqT.of upd_same)⟩
    rw [upd_ne (ne_of_none e hp)]
    exact e
/-- t + u of tuples: some tuple with these items, what was tracked stays -/
theorem op_catTA : OpR X (binaryOp .Add) (fun x y H Q => ∃ a b xs ys, x = .ref a ∧ y = .ref b ∧ SqT X.K H a xs ∧ SqT X.K H b ys ∧ xs.length + ys.length ≤ sizeLine ∧ ∀ p H', Same H H' → SqT X.K H' p (xs ++ ys) → Q (.ref p) H') := by
  intro pins s σ H x y v u Q I rx ry h
  obtain ⟨a, b, xs, ys, rfl, rfl, ha, hb, hz, q⟩ := h
  by_cases hx : xs = []
  · subst hx
    cases rx
    cases ry
    obtain ⟨its, r1, p1, _⟩ := I.tuple ha
    obtain ⟨its2, r2, p2, _⟩ := I.tuple hb
    have e1 : its = [] := r1.nil_iff.mpr rfl
    subst e1
    obtain ⟨⟨cls, dd, data, sl⟩, ho, hc, n, hd⟩ := id p1
    obtain ⟨⟨cls2, dd2, data2, sl2⟩, ho2, hc2, n2, hd2⟩ := id p2
    simp only at hc hd hc2 hd2
    subst hc hd hc2 hd2
    exact concat_meets ⟨_, ho, rfl⟩ ⟨_, ho2, rfl⟩ noFill_tuple_add seq_tuple_add PySem.F.slot_tuple_add PySem.F.entry_tuple_add (PySem.F.args_tuple_add_2 _ _)
      (tuple_addW0 a b _ its2.toArray n n2 dd dd2 sl sl2 (by simp)) ⟨ho, ho2, ⟨.ref b, H, I, rfl, q b H (Same.refl H) (by rw [List.nil_append]; exact hb)⟩⟩
  · refine op_catT pins s σ H _ _ v u Q I rx ry ⟨a, b, xs, ys, rfl, rfl, ha, hb, hx, hz, fun e => q a H (Same.refl H) (by rw [e, List.append_nil]; exact ha), fun _ p hp => q p _ (fun b o e => ?_) (SqT.of upd_same)⟩
    rw [upd_ne (ne_of_none e hp)]
    exact e
/-! ### isinstance(x, T), T a built-in type or an own class -/
theorem call_isinst : CallR X (.builtin "isinstance") (fun xs H Q => ∃ x n t b, xs = [x, .ty n] ∧ TyOf X.K H x t ∧ PySem.W.kitOne X.K t (.type n) = some b ∧ Q (.bl b) H) := by
  intro pins s σ H xs us Q I r h
  obtain ⟨x, n, t, b, rfl, ty, e, q⟩ := h
  obtain ⟨u, w', rfl, ru, rw'⟩ := vals2 r
  cases (show w' = Value.type n from rw')
  exact isinst_ok I ru ty e fun tk => ⟨.bl b, H, I.tok tk, rfl, q⟩
theorem call_isinstC : CallR X (.builtin "isinstance") (fun xs H Q => ∃ x C t b, xs = [x, .ref C] ∧ TyOf X.K H x t ∧ PySem.W.kitOne X.K t (.ref C) = some b ∧ Q (.bl b) H) := by
  intro pins s σ H xs us Q I r h
  obtain ⟨x, C, t, b, rfl, ty, e, q⟩ := h
  obtain ⟨u, w', rfl, ru, rw'⟩ := vals2 r
  cases (show w' = Value.ref C from rw')
  exact isinst_ok I ru ty e fun tk => ⟨.bl b, H, I.tok tk, rfl, q⟩
/-! ### C() of a class without __init__ -/
structure Mk0 (K : PySem.W.Frag) (C : Addr) : Prop where
  makes : PySem.W.makesIn K C = true
  init : PySem.W.findIn K (.ref C) "__init__" = some (some (.builtin "object.__init__"))
  kp : PySem.W.keepIn K (.ref C) = true
def tMake0 (C : Addr) : TE := fun _ H Q => ∀ x dx, H x = none → H dx = none → dx ≠ x → Q (.ref x) (upd (upd H dx (.own x)) x (.ins C dx []))
theorem pe_make00 {C : Addr} {x : Str} {p : Pos} (M : Mk0 X.K C) (hg : Gl X x) (hm : X.mg x = some (.ref C)) (hdb : (x == ("__debug__" : Str)) = false := by decide) : PE X (.Call (.Name x p) [] [] pos) (tMake0 C) := by
  intro pins s σ H Q I h
  refine wpAny_Call_Name_kw (ld_glob I hg hm ?_ hdb)
  refine PySem.W.callWith_K0 I.kIn M.kp (wpAny_call ?_)
  have hq := h (s.heap.objs.size + 1) s.heap.objs.size (I.hok.fresh (Nat.le_succ _)) (I.hok.fresh (Nat.le_refl _)) (Nat.ne_of_lt (Nat.lt_succ_self _))
  have I2 := Inv.made (C := C) I
  have Y := PySem.W.makes_of (M := model X.prog X.w) I.kIn M.makes
  refine make_map0 I.kIn M.makes M.init (fun self => PySem.W.Looks.of_pure (PySem.W.oi_bind self)) ?_
  obtain ⟨hh, g, d, t, os⟩ := s
  have e : ((hh.push PySem.W.emptyDict).push (PySem.W.instObj C hh.objs.size)).get? (hh.objs.size + 1) = some (PySem.W.instObj C hh.objs.size) := by
    have := Heap.get?_push_size (hh.push PySem.W.emptyDict) (o := PySem.W.instObj C hh.objs.size) rfl
    rw [Heap.size_push] at this
    exact this
  have t1 : PySem.W.Looks (model X.prog X.w) ((hh.push PySem.W.emptyDict).push (PySem.W.instObj C hh.objs.size)) (typeOf (.ref (hh.objs.size + 1))) (.ref C) := (PySem.W.Looks.ld e).andThen .now
  have t2 : PySem.W.Looks (model X.prog X.w) ((hh.push PySem.W.emptyDict).push (PySem.W.instObj C hh.objs.size)) (isInstance (.ref (hh.objs.size + 1)) (.type "object")) true := t1.andThen (Y.top.keeps fun b o e => Heap.get?_push_of_some _ (Heap.get?_push_of_some _ e))
  refine codeAny_call_builtin PySem.W.oi_plain PySem.W.entry_oi (@PySem.W.check_slot (model X.prog X.w) _ _ _ "object.__init__" "object" "__init__" (.ref (hh.objs.size + 1)) [] [] _ PySem.W.oi_kind PySem.W.oi_split t2 (PySem.W.oi_args (.ref (hh.objs.size + 1))) ?_)
  rw [PySem.W.oi_run]
  exact wpAny_pure ⟨rfl, V.ref (hh.objs.size + 1), _, I2, rfl, hq⟩
end
/-! ### for i, x in enumerate(xs) -/
/-- records at ch turn, a new tuple is laid -/
theorem Inv.tupled {X : Cx} {pins : List (Addr × Obj)} {σ : St} {H : Hp} {s : Shared} {h' : Heap} {t' : Nat} {ch : List Addr} {ys : List V} {its : List Value} (I : Inv X pins σ H s) (hch : ∀ b ∈ ch, FpOk X pins H b) (k : ∀ b o, b ∉ ch → s.heap.get? b = some o → h'.get? b = some o)
    (hz : ys.length ≤ sizeLine) (rv : Vals ys its) (ht : IsTup h' s.heap.objs.size its.toArray) : Inv X pins σ (upd H s.heap.objs.size (.tup ys)) { s with heap := h', toks := t' } := by
  have hn : H s.heap.objs.size = none := I.hok.fresh (Nat.le_refl _)
  have trk : ∀ b u, H b = some u → b ≠ s.heap.objs.size := fun b u e z => by rw [z, hn] at e; cases e
  have nch : ∀ b u, H b = some u → b ∉ ch := fun b u e z => by rw [(hch b z).1] at e; cases e
  have old : ∀ b o, s.heap.get? b = some o → b ≠ s.heap.objs.size := fun b o e => Nat.ne_of_lt (Heap.lt_size e)
  refine I.step (g' := s.gens) (d' := s.drawn) (t' := t') (ch := ch) (fun b hb => ⟨(hch b hb).2.2.2.1, (hch b hb).2.1, (hch b hb).2.2.2.2.1, (hch b hb).2.2.2.2.2⟩) (fun b o _ _ hc e _ => k b o hc e) (fun b o _ _ hc e _ => ⟨o.slots, k b o hc e⟩) (fun b o _ e n => by rw [upd_ne (old b o e)]; exact n)
    (fun b o hc e => ⟨o, k b o hc e⟩) (fun b xs e => by rw [upd_ne (trk _ _ e)]; exact e) (fun b o u e => by rw [upd_ne (trk _ _ e)]; exact e) (fun b ps e => ⟨#[], by rw [upd_ne (trk _ _ e), e]; simp⟩) (fun m hm => ?_) (fun b u e => ?_) I.bare
  · obtain ⟨o, es, ep, ho, r⟩ := hm
    exact ⟨o, es, ep, k _ o (fun z => (hch _ z).2.1 rfl) ho, r⟩
  · by_cases hb : b = s.heap.objs.size
    · subst hb
      rw [upd_same] at e
      cases e
      exact ⟨hz, its, rv, ht⟩
    · rw [upd_ne hb] at e
      refine (I.hok b u e).stay (fun c v hc q => k c v ?_ q) (fun c q => by rw [upd_ne (trk _ _ q)]; exact q) fun c xs q => by rw [upd_ne (trk _ _ q)]; exact q
      rcases hc with z | z
      · rw [z]; exact nch b u e
      · exact nch c _ z
section
variable {X : Cx} {a : Expr} {ta : TA} {elts : List Expr} {x1 : Nat} {tpos p pos : Pos}
end
/-! ### displays of written texts, ints: by one look -/
def strsOf : List Expr → Option (List Str)
  | [] => some []
  | .Constant (.str x) _ _ :: r => (strsOf r).map (x :: ·)
  | _ => none
theorem pa_strs {X : Cx} : ∀ {es : List Expr} {xs : List Str}, strsOf es = some xs → PA X es (fun _ H Q => Q (xs.map V.str) H)
  | [], xs, h => by
    cases (Option.some.inj h : [] = xs)
    exact pa_nil
  | e :: r, xs, h => by
    cases e with
    | Constant c j pos =>
      cases c with
      | str x =>
        have h : (strsOf r).map (x :: ·) = some xs := h
        cases q : strsOf r with
        | none => rw [q] at h; cases h
        | some ys =>
          rw [q] at h
          cases (Option.some.inj h : x :: ys = xs)
          exact pa_cons (te := tC (.str x)) pe_str (pa_strs q)
      | _ => cases h
    | _ => cases h
/-! ### a cut: what holds behind a statement, a test, an expression, said once -/
def tCut (t : TS) : TS := fun D σ H => ∃ I : St → Hp → Prop, t { D with nx := I } σ H ∧ ∀ σ' H', I σ' H' → D.nx σ' H'
theorem ps_cut {X : Cx} {st : Stmt} {t : TS} (h : PS X st t) : PS X st (tCut t) := by
  intro pins s σ H D I0 h0
  obtain ⟨I, h1, h2⟩ := h0
  refine thn (h pins s σ H _ I0 h1) fun f s' q => ?_
  cases f with
  | next => obtain ⟨σ', H', q1, q2⟩ := q; exact ⟨σ', H', q1, h2 _ _ q2⟩
  | brk => exact q
  | cont => exact q
  | ret u => exact q
def tCutT (t : TT) : TT := fun σ H Q => ∃ I : Bool → Hp → Prop, t σ H I ∧ ∀ b H', I b H' → Q b H'
theorem pt_cut {X : Cx} {e : Expr} {t : TT} (h : PT X e t) : PT X e (tCutT t) := by
  intro pins s σ H Q I0 h0
  obtain ⟨I, h1, h2⟩ := h0
  exact thn (h pins s σ H _ I0 h1) fun b s' ⟨H', q1, q2⟩ => ⟨H', q1, h2 _ _ q2⟩
end L2

set_option Elab.async false
set_option linter.all false
set_option maxRecDepth 100000
set_option maxHeartbeats 4000000
/-! STILL MORE RULES: texts joined, cut, found; dicts copied and compared; great products; a method of a class that the reading names -/
namespace L2
open PySem PySem.Spec PyProof.Rows
section
variable {X : Cx} {a b e o : Expr} {ta tb te : TE} {pos : Pos}
/-! ### products of great numbers -/
theorem bits_of {n : Nat} {i : Int} (h : i.natAbs < 2 ^ n) : Builtin.Int.intBits i ≤ n := PySem.intBits_le_iff.mpr h
def CBig (i j : Int) : Prop := ∃ m n : Nat, m ≤ 100000 ∧ n ≤ 100000 ∧ i.natAbs < 2 ^ m ∧ j.natAbs < 2 ^ n
theorem op_mulB : OpR X (binaryOp .Mult) (rI CBig fun i j => .int (i * j)) := opI fun _ _ _ _ _ _ _ hc q => by
  obtain ⟨m, n, hm, hn, h1, h2⟩ := hc
  exact mul_int q (.of_bits (Nat.le_trans (bits_of h1) (by omega)) (Nat.le_trans (bits_of h2) (by omega)))
/-! ### ' '.join(xs) -/
theorem strsAre_of : ∀ {ys : List Str} {us : List Value}, Vals (ys.map V.str) us → StrsAre us ys
  | [], us, h => by cases h; exact .nil
  | y :: ys, us, h => by
    cases h with
    | cons r rr =>
      obtain ⟨t, rfl⟩ := r
      exact .cons _ _ (strsAre_of rr)
def rJoin (K : PySem.W.Frag) : V → List V → Hp → VK → Prop := fun x vs H Q => ∃ z p ys, x = .str z ∧ vs = [.ref p] ∧ SqL K H p (ys.map V.str) ∧ (ys.map (·.length)).sum + ys.length * z.length ≤ 16777216 ∧ Q (.str (Txt.join z ys)) H
theorem mt_join : MtR X "str.join" (rJoin X.K) := by
  intro pins s σ H x vs v us Q I rx rv h
  obtain ⟨z, p, ys, rfl, rfl, hx, hl, q⟩ := h
  obtain ⟨t, rfl⟩ := rx
  obtain ⟨u, rfl, ru⟩ := vals1 rv
  cases ru
  obtain ⟨its, r, pl, hz⟩ := I.list hx
  exact join_list pl.isList (strsAre_of r) hl fun t' k => ⟨.str (Txt.join z ys), H, I.tok k, ⟨_, rfl⟩, q⟩
/-! ### x.index(y), y one sign that is there -/
/-! ### x[lo:hi] of a text -/
theorem part_of {v : Value} {o : Option Int} (h : IsPart v o) : ∃ l : Option (Int × Tok), v = partValue l ∧ l.map (·.1) = o := by
  cases h with
  | none => exact ⟨none, rfl, rfl⟩
  | int i t => exact ⟨some (i, t), rfl, rfl⟩
theorem sl_str : SlR X (fun x lo hi H Q => ∃ z, x = .str z ∧ z.length ≤ sizeLine ∧ Q (.str (Txt.slice z lo hi)) H) := by
  intro pins s σ H x v vl vu lo hi sl Q I rx hs pl pu h
  obtain ⟨z, rfl, hz, q⟩ := h
  obtain ⟨t, rfl⟩ := rx
  obtain ⟨l, rfl, el⟩ := part_of pl
  obtain ⟨u, rfl, eu⟩ := part_of pu
  refine ⟨"str", _, F.slot_str_getitem.lookup, typeIs_str s z t, ?_⟩
  refine wpAny_getItem_str_slice (l := l) (u := u) (st := none) hs rfl ?_
  unfold sliceMade slicePicked
  rw [el, eu]
  have e : ∀ t' k, EP X pins σ Q (.str (Txt.slice z lo hi) t') { s with toks := k } := fun t' k => ⟨.str (Txt.slice z lo hi), H, I.tok k, ⟨_, rfl⟩, q⟩
  have hl := Txt.slice_le z lo hi
  unfold Txt.slice at e hl
  refine post_val_or_made (fun hc => ?_) e
  rw [if_neg (show ¬ (((1 : Int) == 1 && (Builtin.Str.strSliceIndices lo hi 1 z.length).length == z.length) = true) from hc)] at hl
  exact Nat.le_trans hl hz
/-! ### list + list, either one read -/
theorem op_catL : OpR X (binaryOp .Add) (fun x y H Q => ∃ l b xs zs, x = .ref l ∧ y = .ref b ∧ SqL X.K H l xs ∧ SqL X.K H b zs ∧ xs.length + zs.length ≤ sizeLine ∧ ∀ p, H p = none → Q (.ref p) (upd H p (.lst (xs ++ zs)))) := by
  intro pins s σ H x y v u Q I rx ry h
  obtain ⟨l, b, xs, zs, rfl, rfl, hH, hB, hz, q⟩ := h
  cases rx
  cases ry
  obtain ⟨its, r, pl, z1⟩ := I.list hH
  obtain ⟨its2, r2, pl2, z2⟩ := I.list hB
  have hl := r.length
  have hl2 := r2.length
  obtain ⟨⟨cls, dd, data, sl⟩, ho, hc, n, hd⟩ := pl.isList
  obtain ⟨⟨cls2, dd2, data2, sl2⟩, ho2, hc2, n2, hd2⟩ := pl2.isList
  simp only at hc hd hc2 hd2
  subst hc hd hc2 hd2
  refine concat_meets ⟨_, ho, rfl⟩ ⟨_, ho2, rfl⟩ noFill_list_add seq_list_add PySem.F.slot_list_add PySem.F.entry_list_add (PySem.F.args_list_add_2 _ _) (list_addW l b its.toArray its2.toArray n n2 dd dd2 sl sl2 (by rw [List.size_toArray, List.size_toArray]; omega)) ⟨ho, ho2, ?_⟩
  have ea : its.toArray ++ its2.toArray = (its ++ its2).toArray := by simp
  rw [ea]
  exact ⟨.ref _, _, I.lnew (t' := s.toks) (r.append r2) (by rw [List.length_append]; omega), rfl, q _ I.fresh⟩
/-! ### dict(d): a copy -/
/-! ### two dicts of the same pairs are alike -/
end
/-! ### o.m(..), the class of o named in the reading -/
/-- a method m of the class C that keeps the promise sp, with room k -/
structure MOk (P : Program) (w : World) (K : PySem.W.Frag) (mg : Str → Option Value) (base : Heap) (k : Nat) (C : Addr) (m : Str) (sp : Sp) : Prop where
  cl : Cls K C
  run : ∃ (f : Addr) (fd : FuncData) (ps : List Str), Meth K C m f ∧ FnOk P w K mg base CX0 k f fd ps sp ∧ Binds K fd ps []
def tMethP (P : Program) (w : World) (K : PySem.W.Frag) (mg : Str → Option Value) (base : Heap) (k : Nat) (m : Str) (ta : TE) (t : TA) : TE := fun σ H Q => ta σ H fun x H1 => ∃ a C dx fs sp, x = .ref a ∧ H1 a = some (.ins C dx fs) ∧ fs.lookup m = none ∧ MOk P w K mg base k C m sp ∧
  t σ H1 fun vs H2 => sp (x :: vs) H2 Q E0
section
variable {X : Cx} {m : Str} {pos apos : Pos} {e o : Expr} {es : List Expr} {ta : TE} {t : TA} {k : Nat}
theorem pe_methP {pl : Sem Bool} (he : PE X o ta) (hr : Room k X.A) (ha : PA X (e :: es) t)
    (hst : starEach (e :: es) X.env = (false, eval e X.env) :: starEach es X.env := by rfl) (hpl : (backTo pos (starEach es X.env)).any (·.1) = false := by rfl)
    (ht : eval (.Call (.Attribute o m apos) (e :: es) [] pos) X.env = (do
      let ov ← eval o X.env
      standAt apos.atName
      let (f, first) ← holding [ov] (getMethod ov m pl)
      callWith pos f first (backTo pos (starEach (e :: es) X.env)) (backToKw pos (keywordEach [] X.env))) := by rfl) :
    PE X (.Call (.Attribute o m apos) (e :: es) [] pos) (tMethP X.prog X.w X.K X.mg X.base k m ta t) := by
  intro pins s σ H Q I h
  refine PySem.W.methodCall_KW (pl := pl) (thn (he pins s σ H _ I h) fun u s1 ⟨x, H1, I1, rx, a, C, dx, fs, sp, ex, ea, l, M, q⟩ => ?_) ht
  subst ex
  obtain rfl : u = Value.ref a := rx
  obtain ⟨c, f, fd, ps, hm, F, hb⟩ := M
  refine getmeth_ok I1 ea c hm l ?_
  refine PySem.W.callWith_K (first := [.ref a]) (h₀ := X.base) I.ok.mod.kin hm.kp (thn (ha pos pins s1 σ H1 _ I1 q) fun us s2 ⟨vs, H2, I2, r, q2⟩ => ⟨I2.kIn, ?_⟩) hst hpl
  exact run_fn (us := .ref a :: us) (vs := .ref a :: vs) (dvs := []) F hr hb .nil pass0 I2 (.cons rfl r) (by rw [List.append_nil]; exact q2)
theorem pe_methP0 {pl : Sem Bool} (he : PE X o ta) (hr : Room k X.A)
    (ht : eval (.Call (.Attribute o m apos) [] [] pos) X.env = (do
      let ov ← eval o X.env
      standAt apos.atName
      let (f, first) ← holding [ov] (getMethod ov m pl)
      callWith pos f first (backTo pos (starEach [] X.env)) (backToKw pos (keywordEach [] X.env))) := by rfl) :
    PE X (.Call (.Attribute o m apos) [] [] pos) (tMethP X.prog X.w X.K X.mg X.base k m ta tNil) := by
  intro pins s σ H Q I h
  refine PySem.W.methodCall_KW (pl := pl) (thn (he pins s σ H _ I h) fun u s1 ⟨x, H1, I1, rx, a, C, dx, fs, sp, ex, ea, l, M, q⟩ => ?_) ht
  subst ex
  obtain rfl : u = Value.ref a := rx
  obtain ⟨c, f, fd, ps, hm, F, hb⟩ := M
  refine getmeth_ok I1 ea c hm l ?_
  exact PySem.W.callWith_K0 (first := [.ref a]) I1.kIn hm.kp (run_fn (us := [.ref a]) (vs := [.ref a]) (dvs := []) F hr hb .nil pass0 I1 (.cons rfl .nil) q)
end
end L2

set_option Elab.async false
set_option linter.all false
set_option maxRecDepth 100000
set_option maxHeartbeats 4000000
/-! xs.count(y), xs.index(y) of flat items -/
namespace L2
open PySem PySem.Spec PyProof.Rows
section
variable {X : Cx}
end
end L2

set_option Elab.async false
set_option linter.all false
set_option maxRecDepth 100000
set_option maxHeartbeats 4000000
/-! range with a step, zip of lists and tuples, x.split(y) -/
namespace L2
open PySem PySem.Spec PyProof.Rows
/-! ### range(a, b, c), c above 0 -/
section
variable {X : Cx} {tg : Expr}
end
/-- // by a positive divisor below 2 ** 64 -/
theorem op_fdivB {X : Cx} : OpR X (binaryOp .FloorDiv) (rI (fun _ j => 0 < j ∧ j < 18446744073709551616) fun i j => .int (i / j)) := opI fun i j _ _ _ _ _ hc q => by
  have h1 : (0 : Int) < j := hc.1
  have h2 : j < 18446744073709551616 := hc.2
  refine floordiv_int (by omega) (by rw [Int.fdiv_eq_ediv_of_nonneg i (by omega)]; exact q) (.inl (PyProof.noPylong_of_log2 ?_))
  have h3 : j.natAbs < 2 ^ 64 := by show j.natAbs < 18446744073709551616; omega
  exact Nat.lt_trans ((Nat.log2_lt (by omega)).mpr h3) (by decide)
/-! ### x.split(y) -/
def rSplit : V → List V → Hp → VK → Prop := fun x vs H Q => ∃ z y : Str, x = .str z ∧ vs = [.str y] ∧ (y.length == 0) = false ∧ z.length ≤ sizeLine ∧ (Builtin.Str.partsBetween z (Builtin.Str.occurrences z y 0 z.length (z.length + 1)) y.length).length ≤ sizeLine ∧
  ∀ p, H p = none → Q (.ref p) (upd H p (.lst ((Txt.split z y).map V.str)))
theorem vals_strs : ∀ l : List (Str × Tok), Vals ((l.map (·.1)).map V.str) (strValues l)
  | [] => .nil
  | (x, t) :: l => .cons ⟨t, rfl⟩ (vals_strs l)
theorem mt_split {X : Cx} : MtR X "str.split" rSplit := by
  intro pins s σ H x vs v us Q I rx rv h
  obtain ⟨z, y, rfl, rfl, hy, hz, hn, q⟩ := h
  obtain ⟨t, rfl⟩ := rx
  obtain ⟨u, rfl, ru⟩ := vals1 rv
  obtain ⟨t', rfl⟩ := ru
  have one : (1 : Nat) ≤ sizeLine := by decide
  cases h1 : (decide (z.length < y.length) || decide (Builtin.Str.strKind z < Builtin.Str.strKind y)) with
  | true =>
    have e : Txt.split z y = [z] := if_pos h1
    rw [e] at q
    exact call_meets F.slot_str_split (typeIs_str _ _ _) F.entry_str_split (F.args_str_split_2 _ _) (meets_str_split_cannot_occur z y t t' h1) ⟨.ref _, _, I.lnew (ys := [.str z]) (its := [.str z t]) (t' := s.toks) (.cons ⟨t, rfl⟩ .nil) one, rfl, q _ I.fresh⟩
  | false =>
    cases hf : (Builtin.Str.occurrences z y 0 z.length (z.length + 1)).isEmpty with
    | true =>
      have e : Txt.split z y = [z] := (if_neg (ne_true_of_eq_false h1)).trans (if_pos hf)
      rw [e] at q
      exact call_meets F.slot_str_split (typeIs_str _ _ _) F.entry_str_split (F.args_str_split_2 _ _) (meets_str_split_not_found z y t t' h1 hy hf) ⟨.ref _, _, I.lnew (ys := [.str z]) (its := [.str z t]) (t' := s.toks) (.cons ⟨t, rfl⟩ .nil) one, rfl, q _ I.fresh⟩
    | false =>
      have e : Txt.split z y = Builtin.Str.partsBetween z (Builtin.Str.occurrences z y 0 z.length (z.length + 1)) y.length := (if_neg (ne_true_of_eq_false h1)).trans (if_neg (ne_true_of_eq_false hf))
      rw [e] at q
      refine call_meets F.slot_str_split (typeIs_str _ _ _) F.entry_str_split (F.args_str_split_2 _ _) (meets_str_split_sep z y t t' h1 hy hf hz hn) ?_
      have ev := vals_strs (numbered s.toks (Builtin.Str.partsBetween z (Builtin.Str.occurrences z y 0 z.length (z.length + 1)) y.length))
      rw [numbered_texts, ← strsFrom_eq] at ev
      exact ⟨.ref _, _, I.lnew ev (by rw [List.length_map]; exact hn), rfl, q _ I.fresh⟩
end L2

set_option Elab.async false
set_option linter.all false
set_option maxRecDepth 100000
set_option maxHeartbeats 4000000
/-! for x, y in zip(xs, ys): each a list or a tuple -/
namespace L2
open PySem PySem.Spec PyProof.Rows
/-- an iterator over a list (true) or a tuple (false), and what it goes over -/
def SIt : Bool → Heap → Addr → Addr → Nat → Prop
  | true, h, it, l, i => h.IsListIter it l i
  | false, h, it, l, i => h.IsTupleIter it l i
def SSq : Bool → Heap → Addr → Array Value → Prop
  | true, h, l, v => h.IsList l v
  | false, h, l, v => h.IsTuple l v
theorem SIt.ext : ∀ {b : Bool} {h h' : Heap} {it c l : Addr} {i : Nat}, SIt b h it l i → Heap.ExtBut c h h' → it ≠ c → SIt b h' it l i
  | true, _, _, _, _, _, _, x, e, n => Heap.IsListIter.extBut x e n
  | false, _, _, _, _, _, _, x, e, n => Heap.IsTupleIter.extBut x e n
theorem SSq.ext : ∀ {b : Bool} {h h' : Heap} {l c : Addr} {v : Array Value}, SSq b h l v → Heap.ExtBut c h h' → l ≠ c → SSq b h' l v
  | true, _, _, _, _, _, x, e, n => Heap.IsList.extBut x e n
  | false, _, _, _, _, _, x, e, n => Heap.IsTuple.extBut x e n
theorem SIt.at_ : ∀ {b : Bool} {h h' : Heap} {it l : Addr} {i : Nat}, SIt b h it l i → (∀ o, h.get? it = some o → h'.get? it = some o) → SIt b h' it l i
  | true, _, _, _, _, _, ⟨o, ho, r⟩, e => ⟨o, e _ ho, r⟩
  | false, _, _, _, _, _, ⟨o, ho, r⟩, e => ⟨o, e _ ho, r⟩
theorem SIt.obj : ∀ {b : Bool} {h : Heap} {it l : Addr} {i : Nat}, SIt b h it l i → ∃ o, h.get? it = some o ∧ ∀ v, o.data ≠ .cell v
  | true, _, _, _, _, ⟨o, ho, _, d⟩ => ⟨o, ho, fun v z => by rw [d] at z; cases z⟩
  | false, _, _, _, _, ⟨o, ho, _, d⟩ => ⟨o, ho, fun v z => by rw [d] at z; cases z⟩
section
variable {prog : Program} {w : World} {A : Around} {E : Value → Shared → Prop} {s : Shared}
theorem nx_item {b : Bool} {it l : Addr} {i : Nat} {its : Array Value} {x : Value} {Q : Value → Shared → Prop} (hit : SIt b s.heap it l i) (hl : SSq b s.heap l its) (hx : its[i]? = some x)
    (hQ : ∀ h', SIt b h' it l (i + 1) → Heap.SameBut it s.heap h' → Q x { s with heap := h' }) : wpAny (model prog w) A (Builtin.SmallTypes.nextOf (.ref it)) Q E s := by
  cases b with
  | true => exact wpAny_nextOf_list_item hit hl hx hQ
  | false =>
    obtain ⟨o, ho, hc, hd⟩ := hit
    obtain ⟨ot, hot, _, nt, hdt⟩ := hl
    have ty : s.TypeIs (.ref it) "tuple_iterator" := ⟨o, ho, hc⟩
    unfold Builtin.SmallTypes.nextOf
    refine wpAny_bind (wpAny_callSpecial?_slot (name := Str.ofString "__next__") ty F.slot_tuple_iterator_next (wpAny_call_entry F.slot_tuple_iterator_next ty F.entry_tuple_iterator_next ?_ (F.args_tuple_iterator_next_1 _)))
    show wpAny _ _ (field (Value.ref it) 0 >>= _) _ _ _; refine wpAny_bind (wpAny_field ho hd (x := .ref l) rfl ?_)
    show wpAny _ _ (if (Value.ref l == Value.none) = true then _ else _) _ _ _; rw [if_neg (show ¬ ((Value.ref l == Value.none) = true) from Bool.false_ne_true)]
    show wpAny _ _ (field (Value.ref it) 1 >>= _) _ _ _; refine wpAny_bind (wpAny_field ho hd (x := .int i 0) rfl ?_)
    show wpAny _ _ (seqItems? (Value.ref l) >>= _) _ _ _; refine wpAny_bind (wpAny_seqItems hot hdt ?_)
    simp only [Int.toNat_natCast, hx]
    refine wpAny_bind (wpAny_setField ho hd (by simp) (wpAny_pure ⟨x, rfl, wpAny_pure (hQ _ ⟨_, Heap.get?_update_self _ ho (Obj.isFreed_of_fields (Obj.data_mapFields hd _)), (Obj.cls_mapFields ..).trans hc, ?_⟩ (Heap.SameBut.update ..))⟩))
    rw [Obj.data_mapFields hd]; simp [rawInt]
theorem nx_end {b : Bool} {it l : Addr} {i : Nat} {its : Array Value} {Q : Value → Shared → Prop} (hh : A.handled = none) (hit : SIt b s.heap it l i) (hl : SSq b s.heap l its) (hx : its[i]? = none)
    (hE : ∀ h' e, Heap.ExtBut it s.heap h' → (∃ o, h'.get? e = some o ∧ o.cls = .type "StopIteration") → E (.ref e) { s with heap := h' }) : wpAny (model prog w) A (Builtin.SmallTypes.nextOf (.ref it)) Q E s := by
  cases b with
  | true => exact wpAny_nextOf_list_end hh hit hl hx hE
  | false =>
    obtain ⟨o, ho, hc, hd⟩ := hit
    obtain ⟨ot, hot, _, nt, hdt⟩ := hl
    have ty : s.TypeIs (.ref it) "tuple_iterator" := ⟨o, ho, hc⟩
    unfold Builtin.SmallTypes.nextOf
    refine wpAny_bind (wpAny_callSpecial?_slot (name := Str.ofString "__next__") ty F.slot_tuple_iterator_next (wpAny_call_entry F.slot_tuple_iterator_next ty F.entry_tuple_iterator_next ?_ (F.args_tuple_iterator_next_1 _)))
    show wpAny _ _ (field (Value.ref it) 0 >>= _) _ _ _; refine wpAny_bind (wpAny_field ho hd (x := .ref l) rfl ?_)
    show wpAny _ _ (if (Value.ref l == Value.none) = true then _ else _) _ _ _; rw [if_neg (show ¬ ((Value.ref l == Value.none) = true) from Bool.false_ne_true)]
    show wpAny _ _ (field (Value.ref it) 1 >>= _) _ _ _; refine wpAny_bind (wpAny_field ho hd (x := .int i 0) rfl ?_)
    show wpAny _ _ (seqItems? (Value.ref l) >>= _) _ _ _; refine wpAny_bind (wpAny_seqItems hot hdt ?_)
    simp only [Int.toNat_natCast, hx]; refine wpAny_bind (wpAny_rule (wpAny_bind (wpAny_setField ho hd (by simp) ?_)))
    show wpAny _ _ (newExc (Value.type "StopIteration") [] >>= _) _ _ _; refine wpAny_bind ?_
    simp only [newExc, newTuple]; refine wpAny_bind (wpAny_newObj_type ?_ (by size_fits))
    refine wpAny_bind (m := firstArgMember _ _) (wpAny_of_eq (a := Value.none) (by first | rfl | (simp only [firstArgMember]; rfl)) (wpAny_newObj_type ?_ (by size_fits)))
    simp only [raiseNew]; refine wpAny_bind (wpAny_handled ?_)
    first | rw [hh] | rw [show A.in1.handled = none from hh]
    exact wpAny_bind (wpAny_pure (wpAny_throw (hE _ _ (((Heap.SameBut.update ..).extBut.push _).push _) ⟨_, Heap.get?_push_size _ rfl, rfl⟩)))
variable {z TI TO i1 i2 l1 l2 : Addr} {b1 b2 : Bool} {k1 k2 : Nat} {xs ys : Array Value}
theorem zp_item {x y a b : Value} {Q : Value → Shared → Prop} (D : ZipApart z TI TO i1 i2 l1 l2) (hz : IsZip s.heap z TI TO .none) (hTI : IsPair s.heap TI (.ref i1) (.ref i2)) (hTO : IsPair s.heap TO a b)
    (h1 : SIt b1 s.heap i1 l1 k1) (h2 : SIt b2 s.heap i2 l2 k2) (hl1 : SSq b1 s.heap l1 xs) (hl2 : SSq b2 s.heap l2 ys) (hx : xs[k1]? = some x) (hy : ys[k2]? = some y)
    (hQ : ∀ h', IsZip h' z TI TO (rawInt s.heap.objs.size) → IsPair h' TO x y → SIt b1 h' i1 l1 (k1 + 1) → SIt b2 h' i2 l2 (k2 + 1) → IsPair h' s.heap.objs.size x y → h'.objs.size = s.heap.objs.size + 1 →
      (∀ c o, c ≠ z → c ≠ TO → c ≠ i1 → c ≠ i2 → s.heap.get? c = some o → h'.get? c = some o) → Q (.ref s.heap.objs.size) { s with heap := h' }) :
    wpAny (model prog w) A (Builtin.«zip.__next__» ⟨[.ref z], []⟩) (fun fin s' => ∃ v, fin = .done (.ret v) ∧ Q v s') E s := by
  show wpAny _ _ (field (Value.ref z) 2 >>= _) _ _ _; refine wpAny_bind (wpAny_field hz rfl (x := .bool false) rfl ?_)
  show wpAny _ _ (field (Value.ref z) 3 >>= _) _ _ _; refine wpAny_bind (wpAny_field hz rfl (x := .ref TI) rfl (wpAny_bind (wpAny_seqItems hTI rfl ?_)))
  show wpAny _ _ (Builtin.SmallTypes.ownedTupleIsFree (Value.ref z) >>= _) _ _ _; unfold Builtin.SmallTypes.ownedTupleIsFree
  refine wpAny_bind (wpAny_bind (wpAny_field hz rfl (x := .none) rfl (wpAny_pure ?_))); simp only [if_true]
  refine wpAny_bind (wpAny_rule (wpAny_bind (wpAny_field hz rfl (x := .ref TO) rfl (wpAny_bind (wpAny_setField_rec hz (by simp) fun hA hzA sA => ?_)))))
  have hzA : IsZip hA z TI TO .ellipsis := hzA
  refine wpAny_bind ?_; simp only [List.zipIdx_cons, List.zipIdx_nil, List.forIn_cons, List.forIn_nil]
  refine wpAny_bind (wpAny_bind (wpAny_onRaise ?_)); show wpAny _ _ (Builtin.SmallTypes.nextOf (Value.ref i1) >>= _) _ _ _
  refine wpAny_bind (nx_item (h1.ext sA.extBut D.i1z) (hl1.ext sA.extBut D.l1z) hx fun hB iB sB => wpAny_pure ?_)
  have tB : IsPair hB TO a b := sB.extBut _ _ D.TOi1 (sA.extBut _ _ D.TOz hTO)
  refine wpAny_bind (wpAny_seqItems tB rfl (wpAny_bind (wpAny_updateSeq_pair tB fun hC tC sC => ?_)))
  have tC : IsPair hC TO x b := tC
  refine wpAny_bind (wpAny_letGo (wpAny_pure ?_)); refine wpAny_bind (wpAny_bind (wpAny_onRaise ?_)); show wpAny _ _ (Builtin.SmallTypes.nextOf (Value.ref i2) >>= _) _ _ _
  refine wpAny_bind (nx_item (((h2.ext sA.extBut D.i2z).ext sB.extBut D.i12.symm).ext sC.extBut D.TOi2.symm) (((hl2.ext sA.extBut D.l2z).ext sB.extBut D.l2i1).ext sC.extBut D.l2TO) hy fun hD iD sD => wpAny_pure ?_)
  have tD : IsPair hD TO x b := sD.extBut _ _ D.TOi2 tC
  refine wpAny_bind (wpAny_seqItems tD rfl (wpAny_bind (wpAny_updateSeq_pair tD fun hF tF sF => ?_)))
  have tF : IsPair hF TO x y := tF
  refine wpAny_bind (wpAny_letGo (wpAny_pure (wpAny_pure ?_))); refine wpAny_bind (wpAny_seqItems tF rfl (wpAny_bind (wpAny_newTuple ?_)))
  have sz : hF.objs.size = s.heap.objs.size := by rw [sF.1, sD.1, sC.1, sB.1, sA.1]
  have zF : IsZip hF z TI TO .ellipsis := sF.extBut _ _ D.TOz.symm (sD.extBut _ _ D.i2z.symm (sC.extBut _ _ D.TOz.symm (sB.extBut _ _ D.i1z.symm hzA)))
  have kF : ∀ c o, c ≠ z → c ≠ TO → c ≠ i1 → c ≠ i2 → s.heap.get? c = some o → hF.get? c = some o := fun c o n1 n2 n3 n4 e => sF.extBut _ _ n2 (sD.extBut _ _ n4 (sC.extBut _ _ n2 (sB.extBut _ _ n3 (sA.extBut _ _ n1 e))))
  have iF1 : SIt b1 hF i1 l1 (k1 + 1) := ((iB.ext sC.extBut D.TOi1.symm).ext sD.extBut D.i12).ext sF.extBut D.TOi1.symm
  have iF2 : SIt b2 hF i2 l2 (k2 + 1) := iD.ext sF.extBut D.TOi2.symm
  have ltz : z < hF.objs.size := Heap.lt_size zF
  show wpAny _ _ (Builtin.SmallTypes.ownedTupleHandOut (Value.ref z) (.ref hF.objs.size) >>= _) _ _ _; unfold Builtin.SmallTypes.ownedTupleHandOut
  refine wpAny_bind ?_
  have zG : IsZip (hF.push { cls := .type "tuple", data := .seq #[x, y] }) z TI TO .ellipsis := Heap.get?_push_of_some _ zF
  refine wpAny_bind (wpAny_setField_rec zG (by simp) fun hI zI sI => ?_)
  have zI : IsZip hI z TI TO (rawInt hF.objs.size) := zI
  refine wpAny_setField_rec zI (by simp) fun hJ zJ sJ => ?_
  have zJ : IsZip hJ z TI TO (rawInt hF.objs.size) := zJ
  have up : ∀ c o, c ≠ z → hF.get? c = some o → hJ.get? c = some o := fun c o n e => sJ.extBut _ _ n (sI.extBut _ _ n (Heap.get?_push_of_some _ e))
  have tJ : IsPair hJ hF.objs.size x y := sJ.extBut _ _ (Nat.ne_of_gt ltz) (sI.extBut _ _ (Nat.ne_of_gt ltz) (Heap.get?_push_size _ rfl))
  have szJ : hJ.objs.size = hF.objs.size + 1 := by rw [sJ.1, sI.1, Heap.size_push]
  rw [sz] at zJ tJ szJ
  refine wpAny_pure ⟨_, rfl, ?_⟩; show Q (.ref hF.objs.size) _; rw [sz]
  exact hQ hJ zJ (up _ _ D.TOz tF) (iF1.at_ fun o e => up _ o D.i1z e) (iF2.at_ fun o e => up _ o D.i2z e) tJ szJ fun c o n1 n2 n3 n4 e => up c o n1 (kF c o n1 n2 n3 n4 e)
theorem zp_end {a b : Value} {Q : Fin → Shared → Prop} (hh : A.handled = none) (D : ZipApart z TI TO i1 i2 l1 l2) (hz : IsZip s.heap z TI TO .none) (hTI : IsPair s.heap TI (.ref i1) (.ref i2)) (hTO : IsPair s.heap TO a b)
    (h1 : SIt b1 s.heap i1 l1 k1) (h2 : SIt b2 s.heap i2 l2 k2) (hl1 : SSq b1 s.heap l1 xs) (hl2 : SSq b2 s.heap l2 ys) (hend : xs[k1]? = none ∨ ys[k2]? = none)
    (hE : ∀ h' e, (∀ c o, c ≠ z → c ≠ TO → c ≠ i1 → c ≠ i2 → s.heap.get? c = some o → h'.get? c = some o) → (∃ o, h'.get? e = some o ∧ o.cls = .type "StopIteration") → E (.ref e) { s with heap := h' }) :
    wpAny (model prog w) A (Builtin.«zip.__next__» ⟨[.ref z], []⟩) Q E s := by
  show wpAny _ _ (field (Value.ref z) 2 >>= _) _ _ _; refine wpAny_bind (wpAny_field hz rfl (x := .bool false) rfl ?_)
  show wpAny _ _ (field (Value.ref z) 3 >>= _) _ _ _; refine wpAny_bind (wpAny_field hz rfl (x := .ref TI) rfl (wpAny_bind (wpAny_seqItems hTI rfl ?_)))
  show wpAny _ _ (Builtin.SmallTypes.ownedTupleIsFree (Value.ref z) >>= _) _ _ _; unfold Builtin.SmallTypes.ownedTupleIsFree
  refine wpAny_bind (wpAny_bind (wpAny_field hz rfl (x := .none) rfl (wpAny_pure ?_))); simp only [if_true]
  refine wpAny_bind (wpAny_rule (wpAny_bind (wpAny_field hz rfl (x := .ref TO) rfl (wpAny_bind (wpAny_setField_rec hz (by simp) fun hA hzA sA => ?_)))))
  have hzA : IsZip hA z TI TO .ellipsis := hzA
  refine wpAny_bind ?_; simp only [List.zipIdx_cons, List.zipIdx_nil, List.forIn_cons, List.forIn_nil]
  refine wpAny_bind (wpAny_bind (wpAny_onRaise ?_)); show wpAny _ _ (Builtin.SmallTypes.nextOf (Value.ref i1) >>= _) _ _ _
  have notz : ∀ {h' : Heap} {e : Addr} {o : Obj}, IsZip h' z TI TO .ellipsis → h'.get? e = some o → o.cls = .type "StopIteration" → e ≠ z := fun q g c n => by subst n; rw [q] at g; cases g; simp at c
  cases hx : xs[k1]? with
  | none =>
    refine wpAny_bind (nx_end hh (h1.ext sA.extBut D.i1z) (hl1.ext sA.extBut D.l1z) hx fun hB e sB ⟨oe, ge, ce⟩ => ?_)
    have zB : IsZip hB z TI TO .ellipsis := sB _ _ D.i1z.symm hzA
    exact wpAny_setField_rec zB (by simp) fun hC _ sC => hE hC e (fun c o n1 _ n3 _ q => sC.extBut _ _ n1 (sB _ _ n3 (sA.extBut _ _ n1 q))) ⟨oe, sC.extBut _ _ (notz zB ge ce) ge, ce⟩
  | some x =>
    have hy : ys[k2]? = none := hend.elim (fun q => by rw [hx] at q; cases q) id
    refine wpAny_bind (nx_item (h1.ext sA.extBut D.i1z) (hl1.ext sA.extBut D.l1z) hx fun hB iB sB => wpAny_pure ?_)
    have tB : IsPair hB TO a b := sB.extBut _ _ D.TOi1 (sA.extBut _ _ D.TOz hTO)
    refine wpAny_bind (wpAny_seqItems tB rfl (wpAny_bind (wpAny_updateSeq_pair tB fun hC tC sC => ?_)))
    refine wpAny_bind (wpAny_letGo (wpAny_pure ?_)); refine wpAny_bind (wpAny_bind (wpAny_onRaise ?_)); show wpAny _ _ (Builtin.SmallTypes.nextOf (Value.ref i2) >>= _) _ _ _
    refine wpAny_bind (nx_end hh (((h2.ext sA.extBut D.i2z).ext sB.extBut D.i12.symm).ext sC.extBut D.TOi2.symm) (((hl2.ext sA.extBut D.l2z).ext sB.extBut D.l2i1).ext sC.extBut D.l2TO) hy fun hD e sD ⟨oe, ge, ce⟩ => ?_)
    have zD : IsZip hD z TI TO .ellipsis := sD _ _ D.i2z.symm (sC.extBut _ _ D.TOz.symm (sB.extBut _ _ D.i1z.symm hzA))
    exact wpAny_setField_rec zD (by simp) fun hF _ sF => hE hF e (fun c o n1 n2 n3 n4 q => sF.extBut _ _ n1 (sD _ _ n4 (sC.extBut _ _ n2 (sB.extBut _ _ n3 (sA.extBut _ _ n1 q))))) ⟨oe, sF.extBut _ _ (notz zD ge ce) ge, ce⟩
theorem zp_next {x y a b : Value} {Q : Option Value → Shared → Prop} (D : ZipApart z TI TO i1 i2 l1 l2) (hz : IsZip s.heap z TI TO .none) (hTI : IsPair s.heap TI (.ref i1) (.ref i2)) (hTO : IsPair s.heap TO a b)
    (h1 : SIt b1 s.heap i1 l1 k1) (h2 : SIt b2 s.heap i2 l2 k2) (hl1 : SSq b1 s.heap l1 xs) (hl2 : SSq b2 s.heap l2 ys) (hx : xs[k1]? = some x) (hy : ys[k2]? = some y)
    (hQ : ∀ h', IsZip h' z TI TO (rawInt s.heap.objs.size) → IsPair h' TO x y → SIt b1 h' i1 l1 (k1 + 1) → SIt b2 h' i2 l2 (k2 + 1) → IsPair h' s.heap.objs.size x y → h'.objs.size = s.heap.objs.size + 1 →
      (∀ c o, c ≠ z → c ≠ TO → c ≠ i1 → c ≠ i2 → s.heap.get? c = some o → h'.get? c = some o) → Q (some (.ref s.heap.objs.size)) { s with heap := h' }) : wpAny (model prog w) A (pyNext (.ref z)) Q E s := by
  have ty : s.TypeIs (.ref z) "zip" := ⟨_, hz, rfl⟩
  unfold pyNext
  exact wpAny_bind (wpAny_attempt (wpAny_callSpecial?_slot (name := Str.ofString "__next__") ty F.slot_zip_next (wpAny_call_entry F.slot_zip_next ty F.entry_zip_next (zp_item D hz hTI hTO h1 h2 hl1 hl2 hx hy fun h' q1 q2 q3 q4 q5 q6 q7 => wpAny_pure (hQ h' q1 q2 q3 q4 q5 q6 q7)) (F.args_zip_next_1 _))))
theorem zp_stop {a b : Value} {Q : Option Value → Shared → Prop} (hh : A.handled = none) (D : ZipApart z TI TO i1 i2 l1 l2) (hz : IsZip s.heap z TI TO .none) (hTI : IsPair s.heap TI (.ref i1) (.ref i2)) (hTO : IsPair s.heap TO a b)
    (h1 : SIt b1 s.heap i1 l1 k1) (h2 : SIt b2 s.heap i2 l2 k2) (hl1 : SSq b1 s.heap l1 xs) (hl2 : SSq b2 s.heap l2 ys) (hend : xs[k1]? = none ∨ ys[k2]? = none)
    (hQ : ∀ h', (∀ c o, c ≠ z → c ≠ TO → c ≠ i1 → c ≠ i2 → s.heap.get? c = some o → h'.get? c = some o) → Q none { s with heap := h' }) : wpAny (model prog w) A (pyNext (.ref z)) Q E s := by
  have ty : s.TypeIs (.ref z) "zip" := ⟨_, hz, rfl⟩
  unfold pyNext
  exact wpAny_bind (wpAny_attempt (wpAny_callSpecial?_slot (name := Str.ofString "__next__") ty F.slot_zip_next (wpAny_call_entry F.slot_zip_next ty F.entry_zip_next (zp_end hh D hz hTI hTO h1 h2 hl1 hl2 hend fun h' e hk ⟨o, ho, hc⟩ =>
    wpAny_bind (wpAny_isInstance (T := "StopIteration") (b := true) ⟨o, ho, hc⟩ isSubtype_stop (wpAny_pure (hQ _ hk)))) (F.args_zip_next_1 _))))
end
/-! ### making it -/
def iterOf (b : Bool) (l : Addr) : Obj := { cls := .type (cond b "list_iterator" "tuple_iterator"), data := .fields #[.ref l, .int 0 0] }
theorem si_iter {prog : Program} {w : World} {A : Around} {E : Value → Shared → Prop} {s : Shared} {b : Bool} {l : Addr} {v : Array Value} {Q : Value → Shared → Prop} (hl : SSq b s.heap l v)
    (hQ : Q (.ref s.heap.objs.size) { s with heap := s.heap.push (iterOf b l) }) : wpAny (model prog w) A (pyIter (.ref l)) Q E s := by
  cases b with
  | true => exact wpAny_pyIter_list hl hQ
  | false => exact wpAny_pyIter_tuple hl hQ
theorem SSq.push : ∀ {b : Bool} {h : Heap} {l : Addr} {v : Array Value}, SSq b h l v → ∀ o, SSq b (h.push o) l v
  | true, _, _, _, x, o => Heap.IsList.push x o
  | false, _, _, _, x, o => Heap.IsTuple.push x o
abbrev zpA (b1 : Bool) (h : Heap) (l1 : Addr) : Heap := h.push (iterOf b1 l1)
abbrev zpB (b1 b2 : Bool) (h : Heap) (l1 l2 : Addr) : Heap := (zpA b1 h l1).push (iterOf b2 l2)
abbrev zpC (b1 b2 : Bool) (h : Heap) (l1 l2 : Addr) : Heap := (zpB b1 b2 h l1 l2).push { cls := .type "tuple", data := .seq #[.ref h.objs.size, .ref (zpA b1 h l1).objs.size] }
abbrev zpD (b1 b2 : Bool) (h : Heap) (l1 l2 : Addr) : Heap := (zpC b1 b2 h l1 l2).push { cls := .type "tuple", data := .seq #[.none, .none] }
abbrev zpE (b1 b2 : Bool) (h : Heap) (l1 l2 : Addr) : Heap := (zpD b1 b2 h l1 l2).push { cls := .type "zip", data := .fields #[.none, .bool false, .bool false, .ref (zpB b1 b2 h l1 l2).objs.size, .ref (zpC b1 b2 h l1 l2).objs.size] }
theorem zp_new (b1 b2 : Bool) (l1 l2 : Addr) (xs ys : Array Value) : Meets (Builtin.«zip.__new__» ⟨[.type "zip", .ref l1, .ref l2], []⟩) (fun _ R s => SSq b1 s.heap l1 xs ∧ SSq b2 s.heap l2 ys ∧
      R (.ok (.ret (.ref (zpD b1 b2 s.heap l1 l2).objs.size))) { s with heap := zpE b1 b2 s.heap l1 l2 }) :=
  .of_wp fun prog w A R s h => by
    obtain ⟨hp, g, d, tk, os⟩ := s; obtain ⟨q1, q2, h⟩ := h
    have hsub := sub_zip
    have g1 : SSq b1 (Shared.heap ⟨hp, g, d, tk, os⟩) l1 xs := q1
    have g2 : SSq b2 (Shared.heap ⟨hp.push (iterOf b1 l1), g, d, tk, os⟩) l2 ys := SSq.push q2 _
    wp_walk using si_iter g1, si_iter g2
    exact ⟨_, rfl, h⟩
theorem zp_call {prog : Program} {w : World} {A : Around} {E : Value → Shared → Prop} {s : Shared} {b1 b2 : Bool} {l1 l2 : Addr} {xs ys : Array Value} {Q : Value → Shared → Prop} (hl1 : SSq b1 s.heap l1 xs) (hl2 : SSq b2 s.heap l2 ys)
    (h : ∀ h', IsZip h' (s.heap.objs.size + 4) (s.heap.objs.size + 2) (s.heap.objs.size + 3) .none → IsPair h' (s.heap.objs.size + 2) (.ref s.heap.objs.size) (.ref (s.heap.objs.size + 1)) → IsPair h' (s.heap.objs.size + 3) .none .none →
      SIt b1 h' s.heap.objs.size l1 0 → SIt b2 h' (s.heap.objs.size + 1) l2 0 → (∀ c o, s.heap.get? c = some o → h'.get? c = some o) → Q (.ref (s.heap.objs.size + 4)) { s with heap := h' }) :
    wpAny (model prog w) A (call (.type "zip") [.ref l1, .ref l2]) Q E s := by
  refine callType_new F.called_zip (by decide) (F.typeCall_zip_2 _ _) (F.newCall_zip_2 _ _) (fun obj => F.args_object_init_3 obj _ _) F.entry_zip_new (zp_new b1 b2 l1 l2 xs ys) ⟨hl1, hl2, ?_⟩
  have n1 : (zpA b1 s.heap l1).objs.size = s.heap.objs.size + 1 := Heap.size_push ..
  have n2 : (zpB b1 b2 s.heap l1 l2).objs.size = s.heap.objs.size + 2 := by rw [Heap.size_push, n1]
  have n3 : (zpC b1 b2 s.heap l1 l2).objs.size = s.heap.objs.size + 3 := by rw [Heap.size_push, n2]
  have n4 : (zpD b1 b2 s.heap l1 l2).objs.size = s.heap.objs.size + 4 := by rw [Heap.size_push, n3]
  have p : ∀ {h : Heap} {o o' : Obj} {c : Addr}, h.get? c = some o → (h.push o').get? c = some o := fun e => Heap.get?_push_of_some _ e
  have g5 : (zpE b1 b2 s.heap l1 l2).get? (zpD b1 b2 s.heap l1 l2).objs.size = some _ := Heap.get?_push_size _ rfl
  have g4 : (zpE b1 b2 s.heap l1 l2).get? (zpC b1 b2 s.heap l1 l2).objs.size = some _ := p (Heap.get?_push_size _ rfl)
  have g3 : (zpE b1 b2 s.heap l1 l2).get? (zpB b1 b2 s.heap l1 l2).objs.size = some _ := p (p (Heap.get?_push_size _ rfl))
  have fr : ∀ b l, (iterOf b l).isFreed = false := fun b l => rfl
  have g2 : (zpE b1 b2 s.heap l1 l2).get? (zpA b1 s.heap l1).objs.size = some (iterOf b2 l2) := p (p (p (Heap.get?_push_size _ (fr _ _))))
  have g1 : (zpE b1 b2 s.heap l1 l2).get? s.heap.objs.size = some (iterOf b1 l1) := p (p (p (p (Heap.get?_push_size _ (fr _ _)))))
  show _ ∧ _
  rw [n2, n3, n4] at g5
  rw [n1, n2] at g3
  rw [n3] at g4
  rw [n1] at g2
  rw [n4]
  have s1 : SIt b1 (zpE b1 b2 s.heap l1 l2) s.heap.objs.size l1 0 := by cases b1 <;> exact ⟨_, g1, rfl, rfl⟩
  have s2 : SIt b2 (zpE b1 b2 s.heap l1 l2) (s.heap.objs.size + 1) l2 0 := by cases b2 <;> exact ⟨_, g2, rfl, rfl⟩
  exact ⟨⟨_, g5, rfl⟩, h _ g5 g3 g4 s1 s2 fun c o e => p (p (p (p (p e))))⟩
/-! ### walking it -/
/-- a list (true) or a tuple (false) of the heap -/
def SqB : Bool → PySem.W.Frag → Hp → Addr → List V → Prop
  | true, K, H, a, xs => SqL K H a xs
  | false, K, H, a, xs => SqT K H a xs
theorem Inv.sqB {X : Cx} {pins : List (Addr × Obj)} {σ : St} {H : Hp} {s : Shared} {a : Addr} {xs : List V} (I : Inv X pins σ H s) : ∀ {b : Bool}, SqB b X.K H a xs → ∃ its : List Value, Vals xs its ∧ SSq b s.heap a its.toArray
  | true, h => by obtain ⟨its, r, p, _⟩ := I.list h; exact ⟨its, r, p.isList⟩
  | false, h => by obtain ⟨its, r, p, _⟩ := I.tuple h; exact ⟨its, r, p⟩
theorem Inv.sqB_inj {X : Cx} {pins : List (Addr × Obj)} {σ : St} {H : Hp} {s : Shared} {a : Addr} {xs ys : List V} (I : Inv X pins σ H s) : ∀ {b : Bool}, SqB b X.K H a xs → SqB b X.K H a ys → xs = ys
  | true, h, h' => I.list_inj h h'
  | false, h, h' => I.tuple_inj h h'
def Itz (K : PySem.W.Frag) (b1 b2 : Bool) (l1 l2 : Addr) : It :=
  ⟨fun i H => ∃ xs ys x y, SqB b1 K H l1 xs ∧ SqB b2 K H l2 ys ∧ xs[i]? = some x ∧ ys[i]? = some y,
   fun i H x H' => ∃ t p q, x = .ref t ∧ H t = none ∧ H' = upd H t (.tup [p, q]) ∧ (∀ xs, SqB b1 K H l1 xs → xs[i]? = some p) ∧ (∀ ys, SqB b2 K H l2 ys → ys[i]? = some q),
   fun i H => ∃ xs ys, SqB b1 K H l1 xs ∧ SqB b2 K H l2 ys ∧ (xs.length ≤ i ∨ ys.length ≤ i)⟩
theorem getV {xs : List V} {its : List Value} (r : Vals xs its) {i : Nat} (h : xs.length ≤ i) : its.toArray[i]? = none := by
  have := r.length
  simp
  omega
theorem Inv.turnedMany {X : Cx} {pins : List (Addr × Obj)} {σ : St} {H : Hp} {s : Shared} {h' : Heap} {t' : Nat} {ch : List Addr} (I : Inv X pins σ H s) (hch : ∀ b ∈ ch, FpOk X pins H b) (k : ∀ b o, b ∉ ch → s.heap.get? b = some o → h'.get? b = some o) : Inv X pins σ H { s with heap := h', toks := t' } := by
  have nch : ∀ b u, H b = some u → b ∉ ch := fun b u e z => by rw [(hch b z).1] at e; cases e
  refine I.step (g' := s.gens) (d' := s.drawn) (t' := t') (ch := ch) (fun b hb => ⟨(hch b hb).2.2.2.1, (hch b hb).2.1, (hch b hb).2.2.2.2.1, (hch b hb).2.2.2.2.2⟩) (fun b o _ _ hc e _ => k b o hc e) (fun b o _ _ hc e _ => ⟨o.slots, k b o hc e⟩) (fun _ _ _ _ n => n)
    (fun b o hc e => ⟨o, k b o hc e⟩) (fun _ _ e => e) (fun _ _ _ e => e) (fun b ps e => ⟨#[], by rw [e]; simp⟩) (fun m hm => ?_) (fun b u e => ?_) I.bare
  · obtain ⟨o, es, ep, ho, r⟩ := hm
    exact ⟨o, es, ep, k _ o (fun z => (hch _ z).2.1 rfl) ho, r⟩
  · refine (I.hok b u e).stay (fun c v hc q => k c v ?_ q) (fun c q => q) fun c xs q => q
    rcases hc with z | z
    · rw [z]; exact nch b u e
    · exact nch c _ z
theorem turn_zip {P : Program} {w : World} {K : PySem.W.Frag} {elts : List Expr} {x1 : Nat} {pos : Pos} {b1 b2 : Bool} (l1 l2 z TI TO i1 i2 : Addr) (D : ZipApart z TI TO i1 i2 l1 l2) : Turn P w K (.Tuple elts x1 pos) (Itz K b1 b2 l1 l2) [z, TI, TO, i1, i2] z
    (fun i h => IsZip h z TI TO .none ∧ IsPair h TI (.ref i1) (.ref i2) ∧ (∃ a b, IsPair h TO a b) ∧ SIt b1 h i1 l1 i ∧ SIt b2 h i2 l2 i) where
  mem := by simp
  obj := fun i h st b hb => by
    obtain ⟨q1, q2, ⟨u, v, q3⟩, q4, q5⟩ := st
    simp only [List.mem_cons, List.not_mem_nil, or_false] at hb
    rcases hb with rfl | rfl | rfl | rfl | rfl
    · exact ⟨_, q1, fun v z => by cases z⟩
    · exact ⟨_, q2, fun v z => by cases z⟩
    · exact ⟨_, q3, fun v z => by cases z⟩
    · exact q4.obj
    · exact q5.obj
  keep := fun i h h' st k => by
    obtain ⟨q1, q2, ⟨u, v, q3⟩, q4, q5⟩ := st
    exact ⟨k z (by simp) _ q1, k TI (by simp) _ q2, ⟨u, v, k TO (by simp) _ q3⟩, q4.at_ fun o e => k i1 (by simp) o e, q5.at_ fun o e => k i2 (by simp) o e⟩
  item := by
    intro X hP hw hK hc i pins s σ H E I hf st hg
    subst hP hw hK
    obtain ⟨q1, q2, ⟨u, v, q3⟩, q4, q5⟩ := st
    obtain ⟨xs, ys, x, y, hx, hy, ex, ey⟩ := hg
    obtain ⟨ia, ra, pa⟩ := I.sqB hx
    obtain ⟨ib, rb, pb⟩ := I.sqB hy
    obtain ⟨ux, eux, rux⟩ := ra.get ex
    obtain ⟨uy, euy, ruy⟩ := rb.get ey
    refine zp_next D q1 q2 q3 q4 q5 pa pb (x := ux) (y := uy) (by simpa using eux) (by simpa using euy) fun h' n1 n2 n3 n4 n5 n6 hk => ⟨_, rfl, ?_⟩
    refine wpAny_letOwnedTupleGo_zip n1 fun h2 z2 sb => ?_
    have lt : ∀ {b : Addr} {o : Obj}, s.heap.get? b = some o → b ≠ s.heap.objs.size := fun e => Nat.ne_of_lt (Heap.lt_size e)
    have kk : ∀ b o, b ∉ [z, TO, i1, i2] → s.heap.get? b = some o → h2.get? b = some o := fun b o hb e => by
      simp only [List.mem_cons, List.not_mem_nil, or_false, not_or] at hb
      exact sb.extBut b o hb.1 (hk b o hb.1 hb.2.1 hb.2.2.1 hb.2.2.2 e)
    have ltz := lt q1
    refine ⟨.ref s.heap.objs.size, upd H s.heap.objs.size (.tup [x, y]), ?_, rfl, ⟨_, x, y, rfl, I.hok.fresh (Nat.le_refl _), rfl, fun zs hz => by rw [I.sqB_inj hz hx]; exact ex, fun zs hz => by rw [I.sqB_inj hz hy]; exact ey⟩, ⟨z2, ?_, ⟨_, _, sb.extBut _ _ D.TOz n2⟩, n3.ext sb.extBut D.i1z, n4.ext sb.extBut D.i2z⟩, fun b hb => ?_⟩
    · exact I.tupled (ch := [z, TO, i1, i2]) (its := [ux, uy]) (fun b hb => hf b (by simp only [List.mem_cons, List.not_mem_nil, or_false] at hb ⊢; rcases hb with h | h | h | h <;> simp [h])) kk (by show 2 ≤ sizeLine; decide) (.cons rux (.cons ruy .nil)) ⟨_, sb.extBut _ _ (Ne.symm ltz) n5, rfl, _, rfl⟩
    · exact kk TI _ (by simp only [List.mem_cons, List.not_mem_nil, or_false, not_or]; exact ⟨D.TIz, D.TITO, D.TIi1, D.TIi2⟩) q2
    · have hb' := (hf b hb).1
      have nb : b ≠ s.heap.objs.size := by
        simp only [List.mem_cons, List.not_mem_nil, or_false] at hb
        rcases hb with h | h | h | h | h <;> subst h
        · exact lt q1
        · exact lt q2
        · exact lt q3
        · obtain ⟨o, e, _⟩ := q4.obj; exact lt e
        · obtain ⟨o, e, _⟩ := q5.obj; exact lt e
      rw [upd_ne nb]
      exact hb'
  done := by
    intro X hP hw hK hc i pins s σ H E I hf st hg
    subst hP hw hK
    obtain ⟨q1, q2, ⟨u, v, q3⟩, q4, q5⟩ := st
    obtain ⟨xs, ys, hx, hy, hend⟩ := hg
    obtain ⟨ia, ra, pa⟩ := I.sqB hx
    obtain ⟨ib, rb, pb⟩ := I.sqB hy
    refine zp_stop (I.ok.hd hc) D q1 q2 q3 q4 q5 pa pb (hend.imp (getV ra) (getV rb)) fun h' hk => ⟨rfl, ?_⟩
    refine I.turnedMany (t' := s.toks) (ch := [z, TO, i1, i2]) (fun b hb => hf b (by simp only [List.mem_cons, List.not_mem_nil, or_false] at hb ⊢; rcases hb with h | h | h | h <;> simp [h])) fun b o hb e => ?_
    simp only [List.mem_cons, List.not_mem_nil, or_false, not_or] at hb
    exact hk b o hb.1 hb.2.1 hb.2.2.1 hb.2.2.2 e
  self := fun _ _ _ _ _ st h => wpAny_pyIter_zip st.1 h
theorem neA {x y : Nat} (h : ¬ x = y) : @Ne Addr x y := h
theorem apartA (n l1 l2 : Nat) (h1 : l1 < n) (h2 : l2 < n) : ZipApart (n + 4) (n + 2) (n + 3) n (n + 1) l1 l2 := by
  constructor <;> (refine neA ?_; omega)
def iZip (b1 b2 : Bool) (K : PySem.W.Frag) (ta : TA) : TI := fun σ H R => ta σ H fun vs H1 => ∃ l1 l2, vs = [.ref l1, .ref l2] ∧ (∃ xs, SqB b1 K H1 l1 xs) ∧ (∃ ys, SqB b2 K H1 l2 ys) ∧ R (Itz K b1 b2 l1 l2) H1
section
variable {X : Cx} {a b : Expr} {ta : TA} {elts : List Expr} {x1 : Nat} {tpos p pos : Pos}
theorem pi_zip (b1 b2 : Bool) (hg : Gl X "zip") (hm : X.mg "zip" = none) (ha : PA X [a, b] ta) (hs : starEach [a, b] X.env = [(false, eval a X.env), (false, eval b X.env)] := by rfl) (hs2 : starEach [b] X.env = [(false, eval b X.env)] := by rfl) :
    PI X (.Tuple elts x1 tpos) (.Call (.Name "zip" p) [a, b] [] pos) (iZip b1 b2 X.K ta) := by
  intro pins s σ H R I h
  refine Call_ (ld_blt I hg hm boot_zip (PyProof.Rows.callWith_type1 (thn (ha pos pins s σ H _ I h) fun us s1 ⟨vs, H1, I1, r1, q1⟩ => ?_) (by rw [hs, hs2]) (by rw [hs2]; rfl)))
  obtain ⟨l1, l2, e, ⟨xs, hx⟩, ⟨ys, hy⟩, q⟩ := q1
  subst e
  obtain ⟨u1, u2, rfl, e1, e2⟩ := vals2 r1
  cases e1
  cases e2
  obtain ⟨ia, ra, pa⟩ := I1.sqB hx
  obtain ⟨ib, rb, pb⟩ := I1.sqB hy
  have lt : ∀ {b : Bool} {l : Addr} {v : Array Value}, SSq b s1.heap l v → l < s1.heap.objs.size := fun {b l v} h => by
    cases b
    · obtain ⟨o, e, _⟩ := h; exact Heap.lt_size e
    · obtain ⟨o, e, _⟩ := h; exact Heap.lt_size e
  have k1 := lt pa
  have k2 := lt pb
  have D : ZipApart (s1.heap.objs.size + 4) (s1.heap.objs.size + 2) (s1.heap.objs.size + 3) s1.heap.objs.size (s1.heap.objs.size + 1) l1 l2 := by
    exact apartA _ _ _ k1 k2
  refine zp_call pa pb fun h' n1 n2 n3 n4 n5 hk => ?_
  have I2 : Inv X pins σ H1 { s1 with heap := h' } := I1.kept (t' := s1.toks) hk
  have fr : ∀ j, FpOk X pins H1 (s1.heap.objs.size + j) := fun j => I1.fpOk (Nat.le_add_right _ _) (I1.hok.fresh (Nat.le_add_right _ _))
  refine wpAny_pyIter_zip n1 ⟨s1.heap.objs.size + 4, [s1.heap.objs.size + 4, s1.heap.objs.size + 2, s1.heap.objs.size + 3, s1.heap.objs.size, s1.heap.objs.size + 1], _, _, H1, rfl, I2, turn_zip l1 l2 _ _ _ _ _ D, ⟨n1, n2, ⟨_, _, n3⟩, n4, n5⟩, fun b hb => ?_, q⟩
  simp only [List.mem_cons, List.not_mem_nil, or_false] at hb
  rcases hb with h | h | h | h | h <;> subst h
  · exact fr 4
  · exact fr 2
  · exact fr 3
  · exact fr 0
  · exact fr 1
end
theorem for_zip {K : PySem.W.Frag} {b1 b2 : Bool} {l1 l2 : Addr} {xs ys : List V} {g : TG} {tb : TS} {D : Ends} {σ : St} {H : Hp} (hlen : xs.length = ys.length) (Pv : Nat → St → Hp → Prop) (h0 : Pv 0 σ H) (hl : ∀ i σ H, i ≤ xs.length → Pv i σ H → SqB b1 K H l1 xs ∧ SqB b2 K H l2 ys)
    (hs : ∀ (i : Nat) x y σ H t, xs[i]? = some x → ys[i]? = some y → Pv i σ H → H t = none → g (.ref t) σ (upd H t (.tup [x, y])) fun σ2 H2 => tb { D with nx := Pv (i + 1), ct := Pv (i + 1), bk := D.nx } σ2 H2) (hd : ∀ σ H, Pv xs.length σ H → D.nx σ H) :
    ∃ W : Nat → Nat → St → Hp → Prop, (∃ m, W 0 m σ H) ∧ ∀ i m σ H, W i m σ H →
      ((Itz K b1 b2 l1 l2).stop i H ∧ D.nx σ H) ∨ ((Itz K b1 b2 l1 l2).go i H ∧ ∃ N : St → Hp → Prop, (∀ σ' H', N σ' H' → ∃ m', m' < m ∧ W (i + 1) m' σ' H') ∧ ∀ x H', (Itz K b1 b2 l1 l2).yld i H x H' → g x σ H' fun σ2 H2 => tb { D with nx := N, ct := N, bk := D.nx } σ2 H2) := by
  refine ⟨fun i m σ H => m = xs.length - i ∧ i ≤ xs.length ∧ Pv i σ H, ⟨xs.length, by simp, Nat.zero_le _, h0⟩, ?_⟩
  rintro i m σ H ⟨rfl, hi, p⟩
  obtain ⟨q1, q2⟩ := hl i σ H hi p
  by_cases hlt : i < xs.length
  · refine .inr ⟨⟨xs, ys, xs[i], ys[i]'(hlen ▸ hlt), q1, q2, by simp [hlt], List.getElem?_eq_getElem _⟩, Pv (i + 1), fun σ' H' p' => ⟨xs.length - (i + 1), by omega, rfl, hlt, p'⟩, fun x H' y => ?_⟩
    obtain ⟨t, u, v, rfl, hn, rfl, y1, y2⟩ := y
    exact hs i u v σ H t (y1 xs q1) (y2 ys q2) p hn
  · have e : i = xs.length := by omega
    subst e
    exact .inl ⟨⟨xs, ys, q1, q2, .inl (Nat.le_refl _)⟩, hd σ H p⟩
end L2

set_option Elab.async false
set_option linter.all false
set_option maxRecDepth 100000
set_option maxHeartbeats 4000000
/-! C.m(self, ..) of an own class; list(range(a, b)) -/
namespace L2
open PySem PySem.Spec PyProof.Rows
structure CMeth (K : PySem.W.Frag) (C : Addr) (m : Str) (f : Addr) : Prop where
  hg : PySem.W.specialIn K (.ref C) "__getattribute__" = some (some (.builtin "type.__getattribute__"))
  rd : PySem.W.readsIn K C (.type "type") = true
  fc : PySem.W.findCls K (.ref C) (.type "type") m = some (.val (.ref f))
  kp : PySem.W.keepIn K (.ref f) = true
section
variable {X : Cx} {CX : CXT} {k : Nat} {f C : Addr} {fd : FuncData} {ps : List Str} {sp : Sp} {dvs : List V} {ds : List Value} {E : XK} {x m : Str} {p pos apos : Pos} {e : Expr} {es : List Expr} {t : TA}
theorem pe_callC {pl : Sem Bool} (hg : Gl X x) (hm : X.mg x = some (.ref C)) (M : CMeth X.K C m f) (F : FnOk X.prog X.w X.K X.mg X.base CX k f fd ps sp) (hr : Room k X.A) (hb : Binds X.K fd ps ds) (hd : Vals dvs ds) (hx : Passes CX X E) (ha : PA X (e :: es) t)
    (hdb : (x == ("__debug__" : Str)) = false := by decide) (hst : starEach (e :: es) X.env = (false, eval e X.env) :: starEach es X.env := by rfl) (hpl : (backTo pos (starEach es X.env)).any (·.1) = false := by rfl)
    (ht : eval (.Call (.Attribute (.Name x p) m apos) (e :: es) [] pos) X.env = (do
      let ov ← eval (.Name x p) X.env
      standAt apos.atName
      let (f, first) ← holding [ov] (getMethod ov m pl)
      callWith pos f first (backTo pos (starEach (e :: es) X.env)) (backToKw pos (keywordEach [] X.env))) := by rfl) :
    PE X (.Call (.Attribute (.Name x p) m apos) (e :: es) [] pos) (tCall sp dvs E t) := by
  intro pins s σ H Q I h
  refine PySem.W.methodCall_KW (pl := pl) (ld_glob I hg hm ?_ hdb) ht
  refine PySem.W.method_cls I.kIn M.hg (PySem.W.cls_value I.kIn M.rd M.fc rfl ?_)
  have I1 := I.tok (s.toks + 1)
  refine PySem.W.callWith_K (first := []) (h₀ := X.base) I.ok.mod.kin M.kp (thn (ha pos pins _ σ H _ I1 h) fun us s2 ⟨vs, H2, I2, r, q2⟩ => ⟨I2.kIn, ?_⟩) hst hpl
  exact run_fn (us := us) (vs := vs) F hr hb hd hx I2 r q2
end
end L2

set_option Elab.async false
set_option linter.all false
set_option maxRecDepth 100000
set_option maxHeartbeats 4000000
/-! range(a, b) of any ints: small ones and great ones; list(range(a, b)) -/
namespace L2
open PySem PySem.Spec PyProof.Rows
section
variable {X : Cx} {tg a b : Expr} {ta : TA} {p p1 pos pos1 : Pos}
end
/-! ### list(range(a, b)) -/
section
variable {prog : Program} {w : World} {A : Around} {s : Shared} {R : Result → Shared → Prop} {r : Addr} {a b c : Int} {t u v : Tok} {n : Nat}
end
section
variable {X : Cx} {a b : Expr} {ta : TA} {p p1 pos pos1 : Pos}
end
end L2

set_option Elab.async false
set_option linter.all false
set_option maxRecDepth 100000
set_option maxHeartbeats 4000000
namespace Nw
open PySem L2
def top (i : Nat) : Stmt := PySem.Challenge.pw_nearerwork_k62_own_ties.main.body.getD i (.Pass ⟨0, 0, 0, 0⟩)
abbrev sAt : Stmt := top 39
abbrev sBegin : Stmt := top 40
abbrev sDraw : Stmt := top 41
abbrev sNames : Stmt := top 42
abbrev sNumI : Stmt := inClass (top 5) 0
abbrev sNumW : Stmt := inClass (top 5) 1
abbrev sNamI : Stmt := inClass (top 6) 0
abbrev sNamW : Stmt := inClass (top 6) 1
abbrev sTwoI : Stmt := inClass (top 7) 0
abbrev sPluW : Stmt := inClass (top 8) 0
abbrev sMinW : Stmt := inClass (top 9) 0
abbrev sTimW : Stmt := inClass (top 10) 0
abbrev sSum : Stmt := top 43
abbrev sHand : Stmt := top 44
abbrev sChaI : Stmt := inClass (top 31) 0
abbrev sPutI : Stmt := inClass (top 32) 0
abbrev sAnyI : Stmt := inClass (top 33) 0
abbrev sWhole : Stmt := top 38
abbrev sSaying : Stmt := top 45
abbrev sTold : Stmt := top 46
abbrev sSayH : Stmt := inClass (top 15) 0
abbrev sPaiI : Stmt := inClass (top 16) 0
abbrev sLesH : Stmt := inClass (top 17) 0
abbrev sAtmH : Stmt := inClass (top 18) 0
abbrev sEquH : Stmt := inClass (top 19) 0
abbrev sUnlH : Stmt := inClass (top 20) 0
abbrev sBotH : Stmt := inClass (top 21) 0
abbrev sEitH : Stmt := inClass (top 22) 0
abbrev sNotI : Stmt := inClass (top 23) 0
abbrev sNotH : Stmt := inClass (top 23) 1
abbrev sPlaces : Stmt := top 47
abbrev sChange : Stmt := top 48
abbrev sDeed : Stmt := top 49
abbrev sMachine : Stmt := top 50
abbrev sChangeOf : Stmt := top 51
abbrev sDeedOf : Stmt := top 52
abbrev sRoom : Stmt := top 53
abbrev sMacI : Stmt := inClass (top 36) 0
abbrev sValuesIn : Stmt := inClass (top 36) 2
abbrev sFirst : Stmt := inClass (top 36) 1
abbrev sDeeI : Stmt := inClass (top 34) 0
abbrev sTieI : Stmt := inClass (top 25) 0
abbrev sOwnTie : Stmt := top 28
abbrev sOwnSay : Stmt := top 29
abbrev sTied : Stmt := top 26
abbrev sTxt : Stmt := top 54
abbrev sNumS : Stmt := inClass (top 5) 2
abbrev sNamS : Stmt := inClass (top 6) 3
abbrev sSayS : Stmt := inClass (top 15) 2
abbrev sEquS : Stmt := inClass (top 19) 1
abbrev sBotS : Stmt := inClass (top 21) 1
abbrev sCmp : Stmt := top 12
abbrev sLaw : Stmt := top 55
abbrev sBrs : Stmt := top 13
structure Bl (mg : Str → Option Value) : Prop where
  len : mg "len" = none
  range : mg "range" = none
  isinstance : mg "isinstance" = none
  int : mg "int" = none
  bool : mg "bool" = none
  str : mg "str" = none
  list : mg "list" = none
  tuple : mg "tuple" = none
  dict : mg "dict" = none
  max : mg "max" = none
  min : mg "min" = none
  zip : mg "zip" = none

/-! ### small facts -/
theorem hu60 {A : Around} {k : Nat} (hr : Room k A) : A.units + 60 < cLine := by have := hr.un; omega
theorem same_new {H : Hp} {p : Addr} (h : H p = none) (o : HO) : Same H (upd H p o) := fun b u q => by rw [upd_ne (ne_of_none q h)]; exact q
theorem same_put {H H' : Hp} {p : Addr} (s : Same H H') (h : H p = none) (o : HO) : Same H (upd H' p o) := fun b u q => by rw [upd_ne (ne_of_none q h)]; exact s b u q
def cps (l : List Nat) : Str := ⟨l.toArray⟩
theorem cps_length (l : List Nat) : (cps l).length = l.length := by show l.toArray.size = l.length; simp
theorem cps_append (a b : List Nat) : cps a ++ cps b = cps (a ++ b) := by
  show (⟨a.toArray ++ b.toArray⟩ : Str) = ⟨(a ++ b).toArray⟩
  simp
theorem cps_inj {a b : List Nat} (h : cps a = cps b) : a = b := by
  have h : a.toArray = b.toArray := Str.mk.inj h
  simpa using h
theorem str_len (x y : Str) : (x ++ y).length = x.length + y.length := by
  show (x.cps ++ y.cps).size = x.cps.size + y.cps.size
  simp
theorem alpha : ("abcdefghijklmnopqrstuvwxyz" : Str) = cps ((List.range 26).map (97 + ·)) := by decide +kernel
theorem letter_at {i : Int} (h0 : 0 ≤ i) (h1 : i < 26) : atI (("abcdefghijklmnopqrstuvwxyz" : Str).cps.toList) i = some (97 + i.toNat) := by
  rw [alpha]
  obtain ⟨k, rfl⟩ : ∃ k : Nat, i = k := ⟨i.toNat, by omega⟩
  refine atI_nat ?_
  show (((List.range 26).map (97 + ·)).toArray.toList)[k]? = _
  have hi : k < 26 := by omega
  simp [hi]
theorem join_signs : ∀ cs : List Nat, Str.join ⟨#[]⟩ (cs.map fun c => (⟨#[c]⟩ : Str)) = cps cs
  | [] => rfl
  | c :: cs => by
    rw [List.map_cons, PyProof.Rows.join_nil_cons, join_signs cs]
    show (⟨#[c] ++ cs.toArray⟩ : Str) = ⟨(c :: cs).toArray⟩
    simp
theorem join_eq (sep : Str) (l : List Str) : Txt.join sep l = Str.join sep l := eq_of_beq (PyProof.Rows.join_plain_closes sep l)
theorem flat_strs : ∀ l : List Str, (l.map V.str).all flatV = true
  | [] => rfl
  | y :: l => by rw [List.map_cons, List.all_cons, flat_strs l]; rfl
theorem sum_ones : ∀ cs : List Nat, ((cs.map fun c => (⟨#[c]⟩ : Str)).map (·.length)).sum = cs.length
  | [] => rfl
  | c :: cs => by
    rw [List.map_cons, List.map_cons, List.sum_cons, sum_ones cs, List.length_cons]
    show 1 + cs.length = cs.length + 1
    omega
theorem inV_strs (x : Str) : ∀ l : List Str, inV (.str x) (l.map V.str) = decide (x ∈ l)
  | [] => rfl
  | y :: l => by
    have q := inV_strs x l
    unfold inV at q ⊢
    rw [List.map_cons, List.any_cons, q]
    by_cases e : x = y
    · subst e
      simp [eqV]
    · have e' : ¬ y = x := fun z => e z.symm
      simp [eqV, e, e']
theorem deps_strs : ∀ ns : List Str, deps (ns.map Dt.str) = 0
  | [] => by simp [deps]
  | n :: ns => by simp [deps, dep, deps_strs ns]
theorem deps_ints : ∀ ns : List Int, deps (ns.map Dt.int) = 0
  | [] => by simp [deps]
  | n :: ns => by simp [deps, dep, deps_ints ns]
theorem at_strs {l : List Str} {r : Int} (r0 : 0 ≤ r) (r1 : r < (l.length : Int)) : ∃ x ∈ l, atI (l.map V.str) r = some (.str x) := by
  obtain ⟨k, rfl⟩ : ∃ k : Nat, r = k := ⟨r.toNat, by omega⟩
  have hk : k < l.length := by omega
  exact ⟨l[k], List.getElem_mem hk, atI_nat (by rw [List.getElem?_map, List.getElem?_eq_getElem hk]; rfl)⟩
theorem em26 (x : Int) : 0 ≤ x % 26 ∧ x % 26 < 26 := ⟨Int.emod_nonneg _ (by decide), Int.emod_lt_of_pos _ (by decide)⟩
def ownW : List Str := ["name", "from", "to", "at", "keep", "deed", "when", "do", "any", "and", "or", "not", "yes", "tie", "step", "for", "none", "falls"]
section
variable {P : Program} {w : World} {K : PySem.W.Frag} {mg : Str → Option Value} {base : Heap}
/-! ### a cell: some int -/
def spAt (K : PySem.W.Frag) : Sp := fun vs H Q _ => ∃ (a : Addr) (ns : List Int) (k : Int), vs = [.ref a, .int k] ∧ SqL K H a (ns.map V.int) ∧ ns.length ≤ 63 ∧ 0 ≤ k ∧ k ≤ 1000 ∧ ∀ (r : Int) (H' : Hp), Same H H' → Q (.int r) H'
theorem scAt : FnScope ["_law_script", "_law_k"] ["_law_script", "_law_k"] (defScope sAt) := ⟨rfl, rfl, rfl, by decide +kernel, rfl, by decide +kernel, by decide +kernel⟩
theorem ok_at {f : Addr} {fd : FuncData} (B : Bl mg) (F : Fun K "_law_at" "_law_at" sAt f fd) : FnOk P w K mg base CX0 1 f fd ["_law_script", "_law_k"] (spAt K) := by
  refine F.ok scAt (fun vs H Q E h => ?_) (fun cdv A outer s H vs Q E hr h => ?_)
  · obtain ⟨a, ns, k, rfl, _⟩ := h
    rfl
  obtain ⟨a, ns, k, rfl, hS, hl, k0, k1, q⟩ := h
  refine ⟨_, (@pss_cons _ _ _ _ _ (@ps_if _ _ _ _ _ _ _ _ (@pt_cmpR _ _ _ _ _ _ _ _ op_lt (pv 1) (pe_callB call_len_seq (by rfl) B.len PySem.boot_len (@pa_cons _ _ _ _ _ (pv 0) pa_nil (by rfl))) (nomark _)) (@pss_one _ _ _ (@ps_ret _ _ _ _ (@pe_ix _ _ _ _ _ _ (rIxL K) ix_list (pv 0) (pv 1) (fun _ _ => rfl)))) pss_nil) (@pss_one _ _ _ (@ps_ret _ _ _ _ (@pe_op _ _ _ _ _ _ _ _ op_mod (@pe_op _ _ _ _ _ _ _ _ op_mul (@pe_op _ _ _ _ _ _ _ _ op_add (@pe_op _ _ _ _ _ _ _ _ op_mod (@pe_ix _ _ _ _ _ _ (rIxL K) ix_list (@pe_op _ _ _ _ _ _ _ _ op_catL (pv 0) (@pe_lst _ _ _ _ (@pa_cons _ _ _ _ _ pe_int pa_nil (by rfl)))) pe_int (fun _ _ => rfl)) pe_int) pe_int) (@pe_op _ _ _ _ _ _ _ _ op_add (@pe_op _ _ _ _ _ _ _ _ op_mul (pv 1) (pv 1)) pe_int)) pe_int)))), ?_⟩
  refine ⟨_, rfl, _, rfl, a, _, rfl, .inl hS, _, _, rfl, rfl, _, rfl, ?_⟩
  refine ite2 (fun c => ?_) (fun c => ?_)
  · have c' : k < (((ns.map V.int).length : Nat) : Int) := of_decide_eq_true c
    rw [List.length_map] at c'
    obtain ⟨j, rfl⟩ : ∃ j : Nat, k = j := ⟨k.toNat, by omega⟩
    have hj : j < ns.length := by omega
    exact ⟨_, rfl, _, rfl, a, _, _, _, rfl, rfl, hS, atI_nat (by rw [List.getElem?_map, List.getElem?_eq_getElem hj]; rfl), q _ H (Same.refl H)⟩
  · refine ⟨_, rfl, by decide, fun p hp => ⟨a, p, _, _, rfl, rfl, (same_new hp _).seq hS, SqL.of upd_same, ?_, fun z hz => ?_⟩⟩
    · rw [List.length_map]
      exact Nat.le_of_lt (small1000 (by show ns.length + 1 ≤ 1000; omega))
    have hat : ∃ x : Int, atI (ns.map V.int ++ [V.int 0]) 0 = some (.int x) := by
      cases ns with
      | nil => exact ⟨0, atI_nat (j := 0) rfl⟩
      | cons n r => exact ⟨n, atI_nat (j := 0) rfl⟩
    obtain ⟨x, hx⟩ := hat
    have b1 := Int.emod_nonneg x (b := 1000003) (by decide)
    have b2 := Int.emod_lt_of_pos x (b := 1000003) (by decide)
    refine ⟨z, _, _, _, rfl, rfl, SqL.of upd_same, hx, _, _, rfl, rfl, (by show (0 : Int) < 1000003; decide), _, _, rfl, rfl, _, rfl, _, rfl, _, _, rfl, rfl, .inl ⟨by omega, by omega⟩, _, _, rfl, rfl, _, _, rfl, rfl, .inl ⟨?_, ?_⟩, _, _, rfl, rfl, (by show (0 : Int) < 2147483647; decide), ?_⟩
    · show -(2 ^ 64) < x % 1000003 + 29; omega
    · show x % 1000003 + 29 < 2 ^ 64; omega
    exact q _ _ ((same_new hp _).trans (same_new hz _))
/-! ### a state of two ints, and drawing from it -/
def spBegin : Sp := fun vs H Q _ => ∃ c : Int, vs = [.int c] ∧ ∀ p, H p = none → Q (.ref p) (upd H p (.lst [.int (c / 2), .int (c % 2)]))
theorem scBegin : FnScope ["_law_cell"] ["_law_cell"] (defScope sBegin) := ⟨rfl, rfl, rfl, by decide +kernel, rfl, by decide +kernel, by decide +kernel⟩
theorem ok_begin {f : Addr} {fd : FuncData} (F : Fun K "_law_begin" "_law_begin" sBegin f fd) : FnOk P w K mg base CX0 1 f fd ["_law_cell"] spBegin := by
  refine F.ok scBegin (fun vs H Q E h => ?_) (fun cdv A outer s H vs Q E hr h => ?_)
  · obtain ⟨c, rfl, _⟩ := h
    rfl
  obtain ⟨c, rfl, q⟩ := h
  refine ⟨_, (@pss_one _ _ _ (@ps_ret _ _ _ _ (@pe_lst _ _ _ _ (@pa_cons _ _ _ _ _ (@pe_op _ _ _ _ _ _ _ _ op_fdiv (pv 0) pe_int) (@pa_cons _ _ _ _ _ (@pe_op _ _ _ _ _ _ _ _ op_mod (pv 0) pe_int) pa_nil (by rfl)) (by rfl))))), ?_⟩
  exact ⟨_, rfl, _, _, rfl, rfl, ⟨by decide, by decide⟩, _, rfl, _, _, rfl, rfl, (by show (0 : Int) < 2; decide), (by show 2 ≤ sizeLine; decide), fun p hp => q p hp⟩
def spDraw : Sp := fun vs H Q _ => ∃ (a : Addr) (s0 s1 m : Int), vs = [.ref a, .int m] ∧ H a = some (.lst [.int s0, .int s1]) ∧ 0 < m ∧ m < 100000000 ∧ ∀ r s0' : Int, 0 ≤ r → r < m → Q (.int r) (upd H a (.lst [.int s0', .int s1]))
theorem scDraw : FnScope ["_law_state", "_law_many", "_law_found", "_law_number"] ["_law_state", "_law_many"] (defScope sDraw) := ⟨rfl, rfl, rfl, by decide +kernel, rfl, by decide +kernel, by decide +kernel⟩
theorem ok_draw {f : Addr} {fd : FuncData} (F : Fun K "_law_draw" "_law_draw" sDraw f fd) : FnOk P w K mg base CX0 1 f fd ["_law_state", "_law_many"] spDraw := by
  refine F.ok scDraw (fun vs H Q E h => ?_) (fun cdv A outer s H vs Q E hr h => ?_)
  · obtain ⟨a, s0, s1, m, rfl, _⟩ := h
    rfl
  obtain ⟨a, s0, s1, m, rfl, hH, m0, m1, q⟩ := h
  refine ⟨_, (@pss_cons _ _ _ _ _ (@ps_if _ _ _ _ _ _ _ _ (@pt_cmpR _ _ _ _ _ _ _ _ op_eq (@pe_ix _ _ _ _ _ _ (rIxL K) ix_list (pv 0) pe_int (fun _ _ => rfl)) pe_int (nomark _)) (@pss_cons _ _ _ _ _ (@ps_set _ _ 2 _ _ _ _ scDraw.nd rfl (Or.inl rfl) (@pe_op _ _ _ _ _ _ _ _ op_mod (@pe_ix _ _ _ _ _ _ (rIxL K) ix_list (pv 0) pe_int (fun _ _ => rfl)) (pv 1)) rfl (Or.inl rfl)) (@pss_cons _ _ _ _ _ (ps_asg (@pe_op _ _ _ _ _ _ _ _ op_fdiv (@pe_ix _ _ _ _ _ _ (rIxL K) ix_list (pv 0) pe_int (fun _ _ => rfl)) (pv 1)) (pg_sub (pv 0) pe_int set_list)) (@pss_one _ _ _ (@ps_ret _ _ _ _ (pv 2))))) pss_nil) (@pss_cons _ _ _ _ _ (@ps_set _ _ 3 _ _ _ _ scDraw.nd rfl (Or.inl rfl) (@pe_op _ _ _ _ _ _ _ _ op_mod (@pe_op _ _ _ _ _ _ _ _ op_add (@pe_op _ _ _ _ _ _ _ _ op_mul (@pe_op _ _ _ _ _ _ _ _ op_mod (@pe_ix _ _ _ _ _ _ (rIxL K) ix_list (pv 0) pe_int (fun _ _ => rfl)) pe_int) pe_int) pe_int) pe_int) rfl (Or.inl rfl)) (@pss_cons _ _ _ _ _ (ps_asg (@pe_op _ _ _ _ _ _ _ _ op_mod (@pe_op _ _ _ _ _ _ _ _ op_add (@pe_op _ _ _ _ _ _ _ _ op_add (@pe_op _ _ _ _ _ _ _ _ op_mul (pv 3) pe_int) (@pe_op _ _ _ _ _ _ _ _ op_mod (@pe_op _ _ _ _ _ _ _ _ op_fdivB (@pe_ix _ _ _ _ _ _ (rIxL K) ix_list (pv 0) pe_int (fun _ _ => rfl)) pe_int) pe_int)) pe_int) pe_int) (pg_sub (pv 0) pe_int set_list)) (@pss_one _ _ _ (@ps_ret _ _ _ _ (@pe_op _ _ _ _ _ _ _ _ op_mod (@pe_op _ _ _ _ _ _ _ _ op_fdiv (@pe_op _ _ _ _ _ _ _ _ op_mod (@pe_op _ _ _ _ _ _ _ _ op_add (@pe_op _ _ _ _ _ _ _ _ op_mul (@pe_ix _ _ _ _ _ _ (rIxL K) ix_list (pv 0) pe_int (fun _ _ => rfl)) pe_int) pe_int) pe_int) pe_int) (pv 1))))))), ?_⟩
  have a0 : ∀ x y : Int, atI [V.int x, V.int y] 0 = some (.int x) := fun x y => atI_nat (j := 0) rfl
  have a1 : atI [V.int s0, V.int s1] 1 = some (.int s1) := atI_nat (j := 1) rfl
  have i0 : ∀ x y : Int, ixN [V.int x, V.int y].length 0 = some 0 := fun _ _ => by show ixN 2 0 = some 0; decide
  refine ⟨_, rfl, a, _, _, _, rfl, rfl, SqL.of hH, a1, rfl, _, rfl, ite2 (fun _ => ?_) (fun _ => ?_)⟩
  · refine ⟨_, rfl, a, _, _, _, rfl, rfl, SqL.of hH, a0 _ _, _, rfl, _, _, rfl, rfl, m0, ?_⟩
    refine ⟨_, rfl, a, _, _, _, rfl, rfl, SqL.of hH, a0 _ _, _, rfl, _, _, rfl, rfl, ⟨m0, by omega⟩, _, rfl, a, _, _, 0, rfl, rfl, hH, i0 _ _, ?_⟩
    exact ⟨_, rfl, q _ _ (Int.emod_nonneg _ (by omega)) (Int.emod_lt_of_pos _ m0)⟩
  · have b1 := Int.emod_nonneg s0 (b := 2147483647) (by decide)
    have b2 := Int.emod_lt_of_pos s0 (b := 2147483647) (by decide)
    have f1 : ∀ x : Int, 0 ≤ x % 2147483629 ∧ x % 2147483629 < 2147483629 := fun x => ⟨Int.emod_nonneg _ (by decide), Int.emod_lt_of_pos _ (by decide)⟩
    have f2 : ∀ x : Int, 0 ≤ x % 2147483587 ∧ x % 2147483587 < 2147483587 := fun x => ⟨Int.emod_nonneg _ (by decide), Int.emod_lt_of_pos _ (by decide)⟩
    refine ⟨_, rfl, a, _, _, _, rfl, rfl, SqL.of hH, a0 _ _, _, _, rfl, rfl, (by show (0 : Int) < 2147483647; decide), _, _, rfl, rfl, .inl ⟨?_, ?_⟩, _, _, rfl, rfl, _, _, rfl, rfl, (by show (0 : Int) < 2147483629; decide), ?_⟩
    · show -(2 ^ 64) < s0 % 2147483647; omega
    · show s0 % 2147483647 < 2 ^ 64; omega
    refine ⟨_, rfl, _, _, rfl, rfl, .inl ⟨Int.lt_of_lt_of_le (by decide) (f1 _).1, Int.lt_trans (f1 _).2 (by decide)⟩, _, rfl, a, _, _, _, rfl, rfl, SqL.of hH, a0 _ _, _, _, rfl, rfl, ⟨by decide, by decide⟩, _, _, rfl, rfl, (by show (0 : Int) < 1000003; decide), _, _, rfl, rfl, _, _, rfl, rfl, _, _, rfl, rfl, (by show (0 : Int) < 2147483587; decide), _, rfl, a, _, _, 0, rfl, rfl, hH, i0 _ _, ?_⟩
    refine ⟨_, rfl, a, _, _, _, rfl, rfl, SqL.of upd_same, a0 _ _, _, _, rfl, rfl, .inl ⟨Int.lt_of_lt_of_le (by decide) (f2 _).1, Int.lt_trans (f2 _).2 (by decide)⟩, _, _, rfl, rfl, _, _, rfl, rfl, (by show (0 : Int) < 2147483579; decide), _, _, rfl, rfl, ⟨by decide, by decide⟩, _, rfl, _, _, rfl, rfl, m0, ?_⟩
    exact q _ _ (Int.emod_nonneg _ (by omega)) (Int.emod_lt_of_pos _ m0)
end
end Nw

set_option Elab.async false
set_option linter.all false
set_option maxRecDepth 100000
set_option maxHeartbeats 4000000
namespace Nw
open PySem L2
/-! ### names: texts of one to nine letters that differ -/
structure Nam (x : Str) : Prop where
  signs : ∃ cs : List Nat, x = cps cs ∧ cs ≠ [] ∧ cs.length ≤ 8 ∧ ∀ c ∈ cs, 97 ≤ c ∧ c ≤ 122
  other : x ∉ ownW
/-- the letters cs with the letter d put in at place n -/
def nmk (cs : List Nat) (n : Nat) (d : Int) : List Nat := cs.take n ++ (97 + (d % 26).toNat) :: cs.drop n
theorem nmk_len (cs : List Nat) {n : Nat} (d : Int) : (nmk cs n d).length = cs.length + 1 := by
  unfold nmk
  rw [List.length_append, List.length_cons, List.length_take, List.length_drop]
  omega
theorem nmk_at {cs : List Nat} {n : Nat} (h : n ≤ cs.length) (d : Int) : (nmk cs n d)[n]? = some (97 + (d % 26).toNat) := by
  unfold nmk
  have e : (cs.take n).length = n := by rw [List.length_take]; omega
  rw [List.getElem?_append_right (by omega), e, Nat.sub_self]
  rfl
theorem nmk_ne {cs : List Nat} {n : Nat} (h : n ≤ cs.length) {d d' : Int} (hd : d % 26 ≠ d' % 26) : cps (nmk cs n d) ≠ cps (nmk cs n d') := by
  intro e
  have e := congrArg (fun l : List Nat => l[n]?) (cps_inj e)
  have e : (nmk cs n d)[n]? = (nmk cs n d')[n]? := e
  rw [nmk_at h, nmk_at h] at e
  have e := Option.some.inj e
  have b1 := em26 d
  have b2 := em26 d'
  omega
theorem nmk_ok {cs : List Nat} (n : Nat) (d : Int) (h : ∀ c ∈ cs, 97 ≤ c ∧ c ≤ 122) : ∀ c ∈ nmk cs n d, 97 ≤ c ∧ c ≤ 122 := by
  intro c hc
  unfold nmk at hc
  rcases List.mem_append.mp hc with z | z
  · exact h c (List.mem_of_mem_take z)
  · rcases List.mem_cons.mp z with z | z
    · have b := em26 d
      omega
    · exact h c (List.mem_of_mem_drop z)
/-- the first i names -/
def nms (cs : List Nat) (n : Nat) (a b : Int) (i : Nat) : List Str := (List.range i).map fun (k : Nat) => cps (nmk cs n (a + k * b))
theorem nms_succ (cs : List Nat) (n : Nat) (a b : Int) (i : Nat) : nms cs n a b (i + 1) = nms cs n a b i ++ [cps (nmk cs n (a + i * b))] := by
  unfold nms
  rw [List.range_succ, List.map_append]
  rfl
theorem nms_len (cs : List Nat) (n : Nat) (a b : Int) (i : Nat) : (nms cs n a b i).length = i := by unfold nms; simp
theorem nodup_map {f : Nat → Str} : ∀ {i : Nat}, (∀ j k, j < k → k < i → f j ≠ f k) → ((List.range i).map f).Nodup
  | 0, _ => by simp
  | i + 1, h => by
    rw [List.range_succ, List.map_append]
    refine List.nodup_append.mpr ⟨nodup_map fun j k a b => h j k a (by omega), by simp, fun x hx y hy e => ?_⟩
    obtain ⟨j, hj, rfl⟩ := List.mem_map.mp hx
    have hy : y = f i := by simpa using hy
    subst hy
    exact h j i (List.mem_range.mp hj) (by omega) e
theorem nms_nodup {cs : List Nat} {n : Nat} (h : n ≤ cs.length) {a b : Int} (b0 : 1 ≤ b) (b1 : b ≤ 3) {i : Nat} (hi : i ≤ 8) : (nms cs n a b i).Nodup := by
  refine nodup_map fun j k hjk hk => nmk_ne h ?_
  have hb : b = 1 ∨ b = 2 ∨ b = 3 := by omega
  rcases hb with rfl | rfl | rfl <;> omega
/-- zq and a letter -/
def zqs (a : Int) (i : Nat) : List Str := (List.range i).map fun (k : Nat) => cps [122, 113, 97 + ((a + k) % 26).toNat]
theorem zqE : ("zq" : Str) = cps [122, 113] := by decide +kernel
theorem zqs_succ (a : Int) (i : Nat) : zqs a (i + 1) = zqs a i ++ [cps [122, 113, 97 + ((a + i) % 26).toNat]] := by
  unfold zqs
  rw [List.range_succ, List.map_append]
  rfl
theorem zqs_len (a : Int) (i : Nat) : (zqs a i).length = i := by unfold zqs; simp
theorem zqs_nodup (a : Int) {i : Nat} (hi : i ≤ 8) : (zqs a i).Nodup := by
  refine nodup_map fun j k hjk hk e => ?_
  have e := cps_inj e
  simp only [List.cons.injEq, and_true, true_and] at e
  have b1 := em26 (a + j)
  have b2 := em26 (a + k)
  omega
theorem zq_own : ∀ d : _root_.Fin 26, cps [122, 113, 97 + d.val] ∉ ownW := by decide +kernel
theorem zqs_nam {a : Int} {i : Nat} {x : Str} (h : x ∈ zqs a i) : Nam x := by
  unfold zqs at h
  obtain ⟨k, hk, rfl⟩ := List.mem_map.mp h
  have b := em26 (a + (k : Nat))
  refine ⟨⟨_, rfl, by simp, by simp, fun c hc => ?_⟩, ?_⟩
  · simp only [List.mem_cons, List.not_mem_nil, or_false] at hc
    rcases hc with rfl | rfl | rfl
    · decide
    · decide
    · omega
  · exact zq_own ⟨((a + (k : Nat)) % 26).toNat, by omega⟩
theorem nms_nam {cs : List Nat} {n : Nat} {a b : Int} {i : Nat} (hl : cs.length ≤ 7) (hc : ∀ c ∈ cs, 97 ≤ c ∧ c ≤ 122) (ho : ∀ x ∈ nms cs n a b i, x ∉ ownW) {x : Str} (h : x ∈ nms cs n a b i) : Nam x := by
  refine ⟨?_, ho x h⟩
  unfold nms at h
  obtain ⟨k, hk, rfl⟩ := List.mem_map.mp h
  have ln := nmk_len cs (n := n) (a + (k : Nat) * b)
  exact ⟨_, rfl, (by intro z; rw [z] at ln; cases ln), (by omega), nmk_ok n _ hc⟩
theorem nms_lenE {cs : List Nat} {n : Nat} {a b : Int} {i : Nat} {x : Str} (h : x ∈ nms cs n a b i) : x.length = cs.length + 1 := by
  unfold nms at h
  obtain ⟨k, hk, rfl⟩ := List.mem_map.mp h
  rw [cps_length, nmk_len]
theorem zqs_lenE {a : Int} {i : Nat} {x : Str} (h : x ∈ zqs a i) : x.length = 3 := by
  unfold zqs at h
  obtain ⟨k, hk, rfl⟩ := List.mem_map.mp h
  rw [cps_length]
  rfl
theorem sl_to {cs : List Nat} {j : Int} (h0 : 0 ≤ j) (h1 : j ≤ cs.length) : Txt.slice (cps cs) none (some j) = cps (cs.take j.toNat) := by
  show StrLaws.sliceText (cps cs) none (some j) = _
  rw [StrLaws.sliceText_to ⟨h0, by show j ≤ (cs.toArray.toList.length : Int); simpa using h1⟩]
  show (⟨_⟩ : Str) = ⟨_⟩
  simp [cps]
theorem sl_from {cs : List Nat} {j : Int} (h0 : 0 ≤ j) (h1 : j ≤ cs.length) : Txt.slice (cps cs) (some j) none = cps (cs.drop j.toNat) := by
  show StrLaws.sliceText (cps cs) (some j) none = _
  rw [StrLaws.sliceText_from ⟨h0, by show j ≤ (cs.toArray.toList.length : Int); simpa using h1⟩]
  show (⟨((cs.toArray.toList.drop j.toNat).take ((cs.toArray.toList.length : Int) - j).toNat).toArray⟩ : Str) = ⟨(cs.drop j.toNat).toArray⟩
  rw [List.toList_toArray, List.take_of_length_le (by rw [List.length_drop]; omega)]
theorem own_split : Txt.split ("name from to at keep deed when do any and or not yes tie step for none falls" : Str) (" " : Str) = ownW := by decide +kernel
theorem own_parts : (Builtin.Str.partsBetween ("name from to at keep deed when do any and or not yes tie step for none falls" : Str) (Builtin.Str.occurrences ("name from to at keep deed when do any and or not yes tie step for none falls" : Str) (" " : Str) 0 ("name from to at keep deed when do any and or not yes tie step for none falls" : Str).length (("name from to at keep deed when do any and or not yes tie step for none falls" : Str).length + 1)) (" " : Str).length).length ≤ 1000 := by decide +kernel
theorem eq_nilS (ms : List Str) : dEq (.lst (ms.map Dt.str)) (.lst []) = decide (ms = []) := by
  cases ms with
  | nil => rw [List.map_nil, dEq, dEqs]; rfl
  | cons m r => rw [List.map_cons, dEq]; simp [dEqs]
section
variable {P : Program} {w : World} {K : PySem.W.Frag} {mg : Str → Option Value} {base : Heap}
def spNames : Sp := fun vs H Q _ => ∃ (c m : Int), vs = [.int c, .int m] ∧ 0 ≤ m ∧ m ≤ 8 ∧ ∀ (p : Addr) (H' : Hp) (l : List Str), Same H H' → H p = none → H' p = some (.lst (l.map V.str)) → (l.length : Int) = m → l.Nodup → (∀ x ∈ l, Nam x) → (∃ n : Nat, n ≤ 8 ∧ ∀ x ∈ l, x.length = n) → Q (.ref p) H'
theorem scNames : FnScope ["_law_cell", "_law_many", "_law_letters", "_law_state", "_law_size", "_law_at_here", "_law_first", "_law_step", "_law_base", "_law_some", "_law_k", "_law_letter", "_law_own"] ["_law_cell", "_law_many"] (defScope sNames) := ⟨rfl, rfl, rfl, by decide +kernel, rfl, by decide +kernel, by decide +kernel⟩
theorem nd_scNames1 : (["_law_cell", "_law_many", "_law_letters", "_law_state", "_law_size", "_law_at_here", "_law_first", "_law_step", "_law_base", "_law_some", "_law_k", "_law_letter", "_law_own"] : List Str).Nodup := by decide +kernel
theorem nd_scNames2 : (["_law_cell", "_law_many", "_law_letters", "_law_state", "_law_size", "_law_at_here", "_law_first", "_law_step", "_law_base", "_law_some", "_law_k", "_law_letter", "_law_own", "_law_name"] : List Str).Nodup := by decide +kernel
theorem nd_scNames3 : (["_law_cell", "_law_many", "_law_letters", "_law_state", "_law_size", "_law_at_here", "_law_first", "_law_step", "_law_base", "_law_some", "_law_k", "_law_letter", "_law_own"] : List Str).Nodup := by decide +kernel
theorem ok_names {f fB fD : Addr} {fd fdB fdD : FuncData} (B : Bl mg) (F : Fun K "_law_names" "_law_names" sNames f fd) (FB : Fun K "_law_begin" "_law_begin" sBegin fB fdB) (bB : Binds K fdB ["_law_cell"] []) (mB : mg "_law_begin" = some (.ref fB))
    (FD : Fun K "_law_draw" "_law_draw" sDraw fD fdD) (bD : Binds K fdD ["_law_state", "_law_many"] []) (mD : mg "_law_draw" = some (.ref fD)) : FnOk P w K mg base CX0 2 f fd ["_law_cell", "_law_many"] spNames := by
  have GB : FnOk P w K mg base CX0 1 fB fdB ["_law_cell"] spBegin := ok_begin FB
  have GD : FnOk P w K mg base CX0 1 fD fdD ["_law_state", "_law_many"] spDraw := ok_draw FD
  refine F.ok scNames (fun vs H Q E h => ?_) (fun cdv A outer s H vs Q E hr h => ?_)
  · obtain ⟨c, m, rfl, _⟩ := h
    rfl
  obtain ⟨c, m, rfl, m0, m1, q⟩ := h
  have hu := hu60 hr
  refine ⟨_, (@pss_cons _ _ _ _ _ (@ps_set _ _ 2 _ _ _ _ scNames.nd rfl (Or.inr rfl) pe_str rfl (Or.inl rfl)) (@pss_cons _ _ _ _ _ (@ps_set _ _ 3 _ _ _ _ scNames.nd rfl (Or.inr rfl) (pe_call GB hr (by rfl) mB FB.kp bB .nil pass0 (@pa_cons _ _ _ _ _ (pv 0) pa_nil (by rfl))) rfl (Or.inl rfl)) (@pss_cons _ _ _ _ _ (@ps_set _ _ 4 _ _ _ _ scNames.nd rfl (Or.inl rfl) (pe_call GD hr (by rfl) mD FD.kp bD .nil pass0 (@pa_cons _ _ _ _ _ (pv 3) (@pa_cons _ _ _ _ _ pe_int pa_nil (by rfl)) (by rfl))) rfl (Or.inl rfl)) (@pss_cons _ _ _ _ _ (@ps_set _ _ 5 _ _ _ _ scNames.nd rfl (Or.inl rfl) (pe_call GD hr (by rfl) mD FD.kp bD .nil pass0 (@pa_cons _ _ _ _ _ (pv 3) (@pa_cons _ _ _ _ _ (@pe_op _ _ _ _ _ _ _ _ op_add (pv 4) pe_int) pa_nil (by rfl)) (by rfl))) rfl (Or.inl rfl)) (@pss_cons _ _ _ _ _ (@ps_set _ _ 6 _ _ _ _ scNames.nd rfl (Or.inr rfl) (pe_call GD hr (by rfl) mD FD.kp bD .nil pass0 (@pa_cons _ _ _ _ _ (pv 3) (@pa_cons _ _ _ _ _ pe_int pa_nil (by rfl)) (by rfl))) rfl (Or.inl rfl)) (@pss_cons _ _ _ _ _ (@ps_set _ _ 7 _ _ _ _ scNames.nd rfl (Or.inl rfl) (@pe_op _ _ _ _ _ _ _ _ op_add pe_int (pe_call GD hr (by rfl) mD FD.kp bD .nil pass0 (@pa_cons _ _ _ _ _ (pv 3) (@pa_cons _ _ _ _ _ pe_int pa_nil (by rfl)) (by rfl)))) rfl (Or.inl rfl)) (@pss_cons _ _ _ _ _ (@ps_set _ _ 8 _ _ _ _ scNames.nd rfl (Or.inl rfl) (pe_bm (r := rJoin K) PySem.F.plainAttrs_str PySem.F.slot_str_join PySem.F.type_str_join mt_join pe_str (@pa_cons _ _ _ _ _ (pe_comp (NX := ["_law_cell", "_law_many", "_law_letters", "_law_state", "_law_size", "_law_at_here", "_law_first", "_law_step", "_law_base", "_law_some", "_law_k", "_law_letter", "_law_own"]) (N := ["_law_cell", "_law_many", "_law_letters", "_law_state", "_law_size", "_law_at_here", "_law_first", "_law_step", "_law_base", "_law_some", "_law_k", "_law_letter", "_law_own"]) (ms := [true, true, true, true, true, true, true, true, true, true, false, true, true]) (ks := [10]) (out := defScope sNames) (by exact ⟨rfl, by decide +kernel, by decide +kernel, by decide +kernel, by decide +kernel, by decide +kernel⟩) rfl rfl rfl (pi_range1 rfl B.range (@pa_cons _ _ _ _ _ (pv 4) pa_nil (by rfl))) (@sets_name 10) (by decide) (fun C ex s H => (pg_name (i := 10) nd_scNames1 rfl (Or.inl rfl))) (fun C ex s H => pts_nil) (fun C ex s H => (@pe_ix _ _ _ _ _ _ _ ix_str (pv 2) (pe_call GD hr (by rfl) mD FD.kp bD .nil pass0 (@pa_cons _ _ _ _ _ (pv 3) (@pa_cons _ _ _ _ _ pe_int pa_nil (by rfl)) (by rfl))) (fun _ _ => rfl)))) pa_nil (by rfl))) rfl (Or.inl rfl)) (@pss_cons _ _ _ _ _ (@ps_set _ _ 9 _ _ _ _ scNames.nd rfl (Or.inl rfl) (@pe_lst _ _ _ _ pa_nil) rfl (Or.inl rfl)) (@pss_cons _ _ _ _ _ (@ps_for _ _ _ _ _ _ _ _ PassesOwn.never rfl (pi_range1 rfl B.range (@pa_cons _ _ _ _ _ (pv 1) pa_nil (by rfl))) (pg_name (i := 10) scNames.nd rfl (Or.inl rfl)) (@pss_cons _ _ _ _ _ (@ps_set _ _ 11 _ _ _ _ scNames.nd rfl (Or.inl rfl) (@pe_ix _ _ _ _ _ _ _ ix_str (pv 2) (@pe_op _ _ _ _ _ _ _ _ op_mod (@pe_op _ _ _ _ _ _ _ _ op_add (pv 6) (@pe_op _ _ _ _ _ _ _ _ op_mul (pv 10) (pv 7))) pe_int) (fun _ _ => rfl)) rfl (Or.inl rfl)) (@pss_one _ _ _ (@ps_expr _ _ _ _ (pe_bm PySem.F.plainAttrs_list PySem.F.slot_list_append PySem.F.type_list_append mt_append (pv 9) (@pa_cons _ _ _ _ _ (@pe_op _ _ _ _ _ _ _ _ op_add_str (@pe_op _ _ _ _ _ _ _ _ op_add_str (@pe_slice _ _ _ _ _ _ _ _ _ _ sl_str (pv 8) po_none (@po_some _ _ _ (pv 5))) (pv 11)) (@pe_slice _ _ _ _ _ _ _ _ _ _ sl_str (pv 8) (@po_some _ _ _ (pv 5)) po_none)) pa_nil (by rfl))) (by rfl)))) (by intro _; rfl)) (@pss_cons _ _ _ _ _ (@ps_set _ _ 12 _ _ _ _ scNames.nd rfl (Or.inr rfl) (pe_bm PySem.F.plainAttrs_str PySem.F.slot_str_split PySem.F.type_str_split mt_split pe_str (@pa_cons _ _ _ _ _ pe_str pa_nil (by rfl))) rfl (Or.inl rfl)) (@pss_cons _ _ _ _ _ (@ps_if _ _ _ _ _ _ _ _ (@pt_cmpR _ _ _ _ _ _ _ _ (@op_neD _ hu) (pe_comp (NX := ["_law_cell", "_law_many", "_law_letters", "_law_state", "_law_size", "_law_at_here", "_law_first", "_law_step", "_law_base", "_law_some", "_law_k", "_law_letter", "_law_own"]) (N := ["_law_cell", "_law_many", "_law_letters", "_law_state", "_law_size", "_law_at_here", "_law_first", "_law_step", "_law_base", "_law_some", "_law_k", "_law_letter", "_law_own", "_law_name"]) (ms := [true, true, true, true, true, true, true, true, true, true, true, true, true, false]) (ks := [13]) (out := defScope sNames) (by exact ⟨rfl, by decide +kernel, by decide +kernel, by decide +kernel, by decide +kernel, by decide +kernel⟩) rfl rfl rfl (@pi_list _ _ _ _ (pv 9)) (@sets_name 13) (by decide) (fun C ex s H => (pg_name (i := 13) nd_scNames2 rfl (Or.inl rfl))) (fun C ex s H => (@pts_one _ _ _ (@pt_cmpR _ _ _ _ _ _ _ (rIn K false) op_in_seq (pv 13) (pv 12) (by with_unfolding_all rfl)))) (fun C ex s H => (pv 13))) (@pe_lst _ _ _ _ pa_nil) (nomark _)) (@pss_one _ _ _ (@ps_ret _ _ _ _ (pe_comp (NX := ["_law_cell", "_law_many", "_law_letters", "_law_state", "_law_size", "_law_at_here", "_law_first", "_law_step", "_law_base", "_law_some", "_law_k", "_law_letter", "_law_own"]) (N := ["_law_cell", "_law_many", "_law_letters", "_law_state", "_law_size", "_law_at_here", "_law_first", "_law_step", "_law_base", "_law_some", "_law_k", "_law_letter", "_law_own"]) (ms := [true, true, true, true, true, true, true, true, true, true, false, true, true]) (ks := [10]) (out := defScope sNames) (by exact ⟨rfl, by decide +kernel, by decide +kernel, by decide +kernel, by decide +kernel, by decide +kernel⟩) rfl rfl rfl (pi_range1 rfl B.range (@pa_cons _ _ _ _ _ (pv 1) pa_nil (by rfl))) (@sets_name 10) (by decide) (fun C ex s H => (pg_name (i := 10) nd_scNames3 rfl (Or.inl rfl))) (fun C ex s H => pts_nil) (fun C ex s H => (@pe_op _ _ _ _ _ _ _ _ op_add_str pe_str (@pe_ix _ _ _ _ _ _ _ ix_str (pv 2) (@pe_op _ _ _ _ _ _ _ _ op_mod (@pe_op _ _ _ _ _ _ _ _ op_add (pv 6) (pv 10)) pe_int) (fun _ _ => rfl))))))) pss_nil) (@pss_one _ _ _ (@ps_ret _ _ _ _ (pv 9)))))))))))))), ?_⟩
  refine ⟨_, rfl, c, rfl, fun a ha => ?_⟩
  refine ⟨_, rfl, a, _, _, 8, rfl, upd_same, by decide, by decide, fun z z0 z1 z2 => ?_⟩
  rw [upd_upd]
  refine ⟨_, rfl, _, rfl, _, _, rfl, rfl, a, _, _, z + 1, rfl, upd_same, by omega, by omega, fun at_ y0 y1 y2 => ?_⟩
  rw [upd_upd]
  refine ⟨_, rfl, a, _, _, 26, rfl, upd_same, by decide, by decide, fun fi x0 x1 x2 => ?_⟩
  rw [upd_upd]
  refine ⟨_, rfl, a, _, _, 3, rfl, upd_same, by decide, by decide, fun st w0 w1 w2 => ⟨_, _, rfl, rfl, ?_⟩⟩
  rw [upd_upd]
  -- the base
  refine ⟨rfl, _, rfl, z, rfl, by omega, by omega, comp_range (n := z.toNat) (fun i ys H' => ∃ (cs : List Nat) (u0 : Int), ys = (cs.map fun c => (⟨#[c]⟩ : Str)).map V.str ∧ cs.length = i ∧ (∀ c ∈ cs, 97 ≤ c ∧ c ≤ 122) ∧ H' = upd H a (.lst [.int u0, .int (c % 2)])) ⟨[], _, rfl, rfl, by simp, rfl⟩ (fun i ys H' hi ⟨cs, _, e1, e2, _⟩ => by rw [e1, List.length_map, List.length_map, e2]; exact small1000 (by omega)) ?_ ?_⟩
  · rintro i ys H' hi ⟨cs, u0, rfl, e2, e3, rfl⟩
    refine ⟨_, rfl, _, rfl, a, _, _, 26, rfl, upd_same, by decide, by decide, fun r r' r0 r1 => ?_⟩
    rw [upd_upd]
    refine ⟨_, _, _, rfl, rfl, by decide, letter_at r0 r1, ?_⟩
    refine ⟨cs ++ [97 + r.toNat], r', by rw [List.map_append, List.map_append]; rfl, by rw [List.length_append, e2]; rfl, fun x hx => ?_, rfl⟩
    rcases List.mem_append.mp hx with y | y
    · exact e3 x y
    · rw [List.mem_singleton.mp y]
      omega
  · rintro ys H' ⟨cs, u0, rfl, e2, e3, rfl⟩ D hD
    refine ⟨_, D, cs.map fun c => (⟨#[c]⟩ : Str), rfl, rfl, SqL.of upd_same, ?_, ?_⟩
    · rw [sum_ones, List.length_map]
      show cs.length + cs.length * 0 ≤ 16777216
      omega
    rw [join_eq, show ("" : Str) = ⟨#[]⟩ from rfl, join_signs]
    have s1 := same_put (same_new ha (.lst [.int u0, .int (c % 2)])) (by
      by_cases e : D = a
      · rw [e, upd_same] at hD; cases hD
      · rw [upd_ne e] at hD; exact hD) (.lst ((cs.map fun c => (⟨#[c]⟩ : Str)).map V.str))
    generalize upd (upd H a (.lst [.int u0, .int (c % 2)])) D (.lst ((cs.map fun c => (⟨#[c]⟩ : Str)).map V.str)) = H1 at s1 ⊢
    have la : at_ ≤ cs.length := by omega
    have lb : (cps cs).length ≤ sizeLine := by rw [cps_length]; exact Nat.le_of_lt (small1000 (by omega))
    refine ⟨by decide, fun pl hpl => ?_⟩
    have npl : H pl = none := s1.free hpl
    refine ⟨_, rfl, m, rfl, by omega, by omega, for_range (n := m.toNat) (fun i σ H2 => ∃ v1 v2 : Option V, σ = [some (.int c), some (.int m), some (.str "abcdefghijklmnopqrstuvwxyz"), some (.ref a), some (.int z), some (.int at_), some (.int fi), some (.int (1 + st)), some (.str (cps cs)), some (.ref pl), v1, v2, none] ∧ Same H H2 ∧ H2 pl = some (.lst ((nms cs at_.toNat fi (1 + st) i).map V.str))) ⟨none, none, rfl, s1.trans (same_new hpl _), upd_same⟩ ?_ ?_⟩
    · rintro i σ H2 hi ⟨v1, v2, rfl, f3, f4⟩
      have b := em26 (fi + (0 + (i : Int)) * (1 + st))
      refine ⟨_, rfl, _, rfl, _, rfl, _, rfl, _, _, rfl, rfl, .inl ⟨by omega, by omega⟩, _, _, rfl, rfl, _, _, rfl, rfl, (by show (0 : Int) < 26; decide), _, _, _, rfl, rfl, by decide, letter_at b.1 b.2, ?_⟩
      refine ⟨_, rfl, .inl ⟨rfl, _, SqL.of f4⟩, _, rfl, _, rfl, _, rfl, _, rfl, lb, _, rfl, _, _, rfl, rfl, ?_, _, rfl, _, rfl, _, rfl, _, rfl, lb, _, _, rfl, rfl, ?_, pl, _, _, rfl, rfl, f4, ?_, ?_⟩
      · rw [sl_to y1 la, cps_length, List.length_take]
        exact Nat.le_of_lt (small1000 (by show _ + 1 ≤ 1000; omega))
      · rw [sl_to y1 la, sl_from y1 la, str_len, cps_length, cps_length, List.length_take, List.length_drop]
        exact Nat.le_of_lt (small1000 (by show _ + 1 + _ ≤ 1000; omega))
      · rw [List.length_map, nms_len]
        exact small1000 (by omega)
      · refine ⟨_, _, rfl, same_put f3 npl _, ?_⟩
        rw [upd_same, nms_succ, List.map_append, sl_to y1 la, sl_from y1 la]
        have e : cps (cs.take at_.toNat) ++ (⟨#[97 + ((fi + (0 + (i : Int)) * (1 + st)) % 26).toNat]⟩ : Str) ++ cps (cs.drop at_.toNat) = cps (nmk cs at_.toNat (fi + i * (1 + st))) := by
          rw [show (⟨#[97 + ((fi + (0 + (i : Int)) * (1 + st)) % 26).toNat]⟩ : Str) = cps [97 + ((fi + (0 + (i : Int)) * (1 + st)) % 26).toNat] from rfl, cps_append, cps_append, Int.zero_add]
          unfold nmk
          rw [List.append_assoc]
          rfl
        rw [e]
        rfl
    · rintro σ H2 ⟨v1, v2, rfl, f3, f4⟩
      -- the own words
      refine ⟨rfl, _, _, rfl, rfl, by decide +kernel, by decide +kernel, Nat.le_of_lt (small1000 own_parts), fun po hpo => ?_⟩
      rw [own_split]
      have n1 := nms_len cs at_.toNat fi (1 + st) m.toNat
      have so := same_new hpo (.lst (ownW.map V.str))
      have eo : (upd H2 po (.lst (ownW.map V.str))) po = some (.lst (ownW.map V.str)) := upd_same
      have f5 := so _ _ f4
      have f6 := f3.trans so
      generalize upd H2 po (.lst (ownW.map V.str)) = H3 at so eo f5 f6 ⊢
      refine ⟨_, rfl, pl, rfl, ⟨_, SqL.of f5⟩, comp_list (xs := (nms cs at_.toNat fi (1 + st) m.toNat).map V.str) (fun i ys H' => ∃ l : List Str, ys = l.map V.str ∧ l.length ≤ i ∧ H' = H3 ∧ (l = [] → ∀ x ∈ (nms cs at_.toNat fi (1 + st) m.toNat).take i, x ∉ ownW)) ⟨[], rfl, Nat.le_refl _, rfl, fun _ x hx => by simp at hx⟩ (fun i ys H' _ ⟨_, _, _, e, _⟩ => by rw [e]; exact SqL.of f5) (fun i ys H' hi ⟨l, e1, e2, _⟩ => by rw [e1, List.length_map]; rw [List.length_map] at hi; exact small1000 (by omega)) ?_ ?_⟩
      · rintro i x ys H' hx ⟨l, rfl, e2', rfl, e4⟩
        have hi : i < (nms cs at_.toNat fi (1 + st) m.toNat).length := by have := (List.getElem?_eq_some_iff.mp hx).1; rw [List.length_map] at this; exact this
        rw [List.getElem?_map, List.getElem?_eq_getElem hi] at hx
        cases hx
        refine ⟨_, rfl, _, rfl, po, _, rfl, .inl (SqL.of eo), rfl, flat_strs _, _, rfl, ite2 (fun c1 => ?_) (fun c1 => ?_)⟩
        · exact ⟨_, rfl, l ++ [_], by rw [List.map_append]; rfl, by rw [List.length_append]; show l.length + 1 ≤ i + 1; omega, rfl, fun z => by simp at z⟩
        · refine ⟨l, rfl, by omega, rfl, fun z x hx => ?_⟩
          rw [List.take_add_one, List.getElem?_eq_getElem hi] at hx
          rcases List.mem_append.mp hx with y | y
          · exact e4 z x y
          · have y : x = (nms cs at_.toNat fi (1 + st) m.toNat)[i] := by simpa using y
            have c2 : ¬ inV (.str (nms cs at_.toNat fi (1 + st) m.toNat)[i]) (ownW.map V.str) = true := c1
            rw [inV_strs] at c2
            rw [y]
            exact fun z => c2 (decide_eq_true z)
      · rintro ys H' ⟨l, rfl, e2', rfl, e4⟩ D2 hD2
        rw [List.length_map, List.take_of_length_le (by omega)] at e4
        refine ⟨by decide, fun z9 hz9 => ⟨.lst (l.map Dt.str), .lst [], ?_, ?_, rfl, rfl, ?_, _, rfl, ?_⟩⟩
        · rw [Is]
          exact ⟨D2, _, rfl, SqL.of (by rw [upd_ne (ne_of_none upd_same hz9), upd_same]), Iss.strs l⟩
        · rw [Is]
          exact ⟨z9, _, rfl, SqL.of upd_same, Iss.nil⟩
        · rw [dep, deps_strs]; decide
        have s9 := f6.trans ((same_new hD2 (.lst (l.map V.str))).trans (same_new hz9 (.lst [])))
        have g9 := ((same_new hD2 (.lst (l.map V.str))).trans (same_new hz9 (.lst []))) _ _ f5
        generalize upd (upd H' D2 (.lst (l.map V.str))) z9 (.lst []) = H9 at s9 g9 ⊢
        rw [eq_nilS]
        by_cases hl0 : l = []
        · rw [decide_eq_true hl0]
          refine iteF ?_
          exact ⟨_, rfl, q pl H9 _ s9 npl g9 (by rw [n1]; omega) (nms_nodup (by omega) (by omega) (by omega) (by omega)) (fun x hx => nms_nam (by omega) e3 (e4 hl0) hx) ⟨cs.length + 1, by omega, fun x hx => nms_lenE hx⟩⟩
        · rw [decide_eq_false hl0]
          refine iteT ?_
          refine ⟨_, rfl, m, rfl, by omega, by omega, comp_range (n := m.toNat) (fun i ys H' => ys = (zqs fi i).map V.str ∧ H' = H9) ⟨rfl, rfl⟩ (fun i ys H' hi ⟨e1, _⟩ => by rw [e1, List.length_map, zqs_len]; exact small1000 (by omega)) ?_ ?_⟩
          · rintro i ys H' hi ⟨rfl, rfl⟩
            have b := em26 (fi + (0 + (i : Int)))
            refine ⟨_, rfl, _, rfl, _, rfl, _, _, rfl, rfl, _, _, rfl, rfl, (by show (0 : Int) < 26; decide), _, _, _, rfl, rfl, by decide, letter_at b.1 b.2, _, _, rfl, rfl, ?_, ?_⟩
            · exact Nat.le_of_lt (small1000 (by show 2 + 1 ≤ 1000; decide))
            · refine ⟨?_, rfl⟩
              rw [zqs_succ, List.map_append, Int.zero_add, zqE]
              show _ ++ [V.str (cps [122, 113] ++ cps [97 + ((fi + (i : Int)) % 26).toNat])] = _
              rw [cps_append]
              rfl
          · rintro ys H' ⟨rfl, rfl⟩ D3 hD3
            exact q D3 _ _ (s9.trans (same_new hD3 _)) (s9.free hD3) upd_same (by rw [zqs_len]; omega) (zqs_nodup fi (by omega)) (fun x hx => zqs_nam hx) ⟨3, by decide, fun x hx => zqs_lenE hx⟩
end
end Nw

set_option Elab.async false
set_option linter.all false
set_option maxRecDepth 100000
set_option maxHeartbeats 4000000
namespace Nw
open PySem L2
/-! ### trees -/
inductive Sg where
  | plus | minus | times
inductive Tr where
  | num (n : Int) | nam (x : Str) | op (s : Sg) (l r : Tr)
def sgS : Sg → Str
  | .plus => "+"
  | .minus => "-"
  | .times => "*"
def trD : Tr → Dt
  | .num n => .tup [.str "number", .int n]
  | .nam x => .tup [.str "name", .str x]
  | .op s l r => .tup [.str (sgS s), trD l, trD r]
def lv : Tr → Nat
  | .num _ => 1
  | .nam _ => 1
  | .op _ l r => lv l + lv r
def dp : Tr → Nat
  | .num _ => 0
  | .nam _ => 0
  | .op _ l r => max (dp l) (dp r) + 1
theorem lv_pos : ∀ t : Tr, 0 < lv t
  | .num _ => Nat.one_pos
  | .nam _ => Nat.one_pos
  | .op _ l r => Nat.add_pos_left (lv_pos l) _
theorem dp_lt : ∀ t : Tr, dp t < lv t
  | .num _ => Nat.one_pos
  | .nam _ => Nat.one_pos
  | .op _ l r => by
    have h1 := dp_lt l
    have h2 := dp_lt r
    show max (dp l) (dp r) + 1 < lv l + lv r
    omega
def Fits (l : List Str) : Tr → Prop
  | .num n => 0 ≤ n ∧ n ≤ 99
  | .nam x => x ∈ l
  | .op _ a b => Fits l a ∧ Fits l b
def Sb (d : Addr) (H H' : Hp) : Prop := ∀ b o, b ≠ d → H b = some o → H' b = some o
theorem Sb.trans {d : Addr} {H H1 H2 : Hp} (a : Sb d H H1) (b : Sb d H1 H2) : Sb d H H2 := fun c o hc e => b c o hc (a c o hc e)
theorem Sb.of {d : Addr} {H H' : Hp} (s : Same H H') : Sb d H H' := fun b o _ e => s b o e
theorem Sb.upd (d : Addr) (H : Hp) (o : HO) : Sb d H (upd H d o) := fun b u hb e => by rw [upd_ne hb]; exact e
theorem SqT.sb {K : PySem.W.Frag} {a r : Addr} {H H' : Hp} {xs ys : List V} (h : SqT K H r xs) (ha : H a = some (.lst ys)) (s : Sb a H H') : SqT K H' r xs := by
  rcases h with (h | ⟨o, h⟩) | h
  · exact .inl (.inl (s _ _ (ne_of h ha (by intro z; cases z)) h))
  · exact .inl (.inr ⟨o, s _ _ (ne_of h ha (by intro z; cases z)) h⟩)
  · exact .inr h
theorem tr_sb {K : PySem.W.Frag} {a : Addr} {H H' : Hp} {ys : List V} (ha : H a = some (.lst ys)) (s : Sb a H H') : ∀ {t : Tr} {v : V}, Is K H (trD t) v → Is K H' (trD t) v
  | .num n, v, h => by
    rw [trD, Is] at h ⊢
    obtain ⟨p, xs, e, h1, h2⟩ := h
    refine ⟨p, xs, e, SqT.sb h1 ha s, ?_⟩
    simp only [Iss, Is] at h2 ⊢
    exact h2
  | .nam n, v, h => by
    rw [trD, Is] at h ⊢
    obtain ⟨p, xs, e, h1, h2⟩ := h
    refine ⟨p, xs, e, SqT.sb h1 ha s, ?_⟩
    simp only [Iss, Is] at h2 ⊢
    exact h2
  | .op g l r, v, h => by
    rw [trD, Is] at h ⊢
    obtain ⟨p, xs, e, h1, h2⟩ := h
    refine ⟨p, xs, e, SqT.sb h1 ha s, ?_⟩
    simp only [Iss] at h2 ⊢
    obtain ⟨v1, r1, e1, i1, v2, r2, e2, i2, v3, r3, e3, i3, e4⟩ := h2
    refine ⟨v1, r1, e1, ?_, v2, r2, e2, tr_sb ha s i2, v3, r3, e3, tr_sb ha s i3, e4⟩
    rw [Is] at i1 ⊢
    exact i1
/-- a tree of data, opened -/
theorem is_num {K : PySem.W.Frag} {H : Hp} {n : Int} {v : V} (h : Is K H (trD (.num n)) v) : ∃ p, v = .ref p ∧ SqT K H p [.str "number", .int n] := by
  rw [trD, Is] at h
  obtain ⟨p, xs, e, h1, h2⟩ := h
  simp only [Iss, Is] at h2
  obtain ⟨v1, r1, rfl, rfl, v2, r2, rfl, rfl, rfl⟩ := h2
  exact ⟨p, e, h1⟩
theorem is_nam {K : PySem.W.Frag} {H : Hp} {n : Str} {v : V} (h : Is K H (trD (.nam n)) v) : ∃ p, v = .ref p ∧ SqT K H p [.str "name", .str n] := by
  rw [trD, Is] at h
  obtain ⟨p, xs, e, h1, h2⟩ := h
  simp only [Iss, Is] at h2
  obtain ⟨v1, r1, rfl, rfl, v2, r2, rfl, rfl, rfl⟩ := h2
  exact ⟨p, e, h1⟩
theorem is_op {K : PySem.W.Frag} {H : Hp} {g : Sg} {l r : Tr} {v : V} (h : Is K H (trD (.op g l r)) v) : ∃ p a b, v = .ref p ∧ SqT K H p [.str (sgS g), a, b] ∧ Is K H (trD l) a ∧ Is K H (trD r) b := by
  rw [trD, Is] at h
  obtain ⟨p, xs, e, h1, h2⟩ := h
  simp only [Iss] at h2
  obtain ⟨v1, r1, rfl, i1, v2, r2, rfl, i2, v3, r3, rfl, i3, rfl⟩ := h2
  rw [Is] at i1
  subst i1
  exact ⟨p, v2, v3, e, h1, i2, i3⟩
theorem sign_at {k : Int} (k0 : 0 ≤ k) (k1 : k < 3) : ∃ g : Sg, atI [V.str "+", V.str "-", V.str "*"] k = some (.str (sgS g)) := by
  have : k = 0 ∨ k = 1 ∨ k = 2 := by omega
  rcases this with rfl | rfl | rfl
  · exact ⟨.plus, atI_nat (j := 0) rfl⟩
  · exact ⟨.minus, atI_nat (j := 1) rfl⟩
  · exact ⟨.times, atI_nat (j := 2) rfl⟩
theorem tr_num {K : PySem.W.Frag} {H : Hp} {p : Addr} {n : Int} (h : SqT K H p [.str "number", .int n]) : Is K H (trD (.num n)) (.ref p) := by
  rw [trD, Is]
  exact ⟨p, _, rfl, h, .cons (by rw [Is]) (.cons (by rw [Is]) .nil)⟩
theorem tr_nam {K : PySem.W.Frag} {H : Hp} {p : Addr} {x : Str} (h : SqT K H p [.str "name", .str x]) : Is K H (trD (.nam x)) (.ref p) := by
  rw [trD, Is]
  exact ⟨p, _, rfl, h, .cons (by rw [Is]) (.cons (by rw [Is]) .nil)⟩
theorem tr_op {K : PySem.W.Frag} {H : Hp} {p : Addr} {g : Sg} {l r : Tr} {a b : V} (h : SqT K H p [.str (sgS g), a, b]) (h1 : Is K H (trD l) a) (h2 : Is K H (trD r) b) : Is K H (trD (.op g l r)) (.ref p) := by
  rw [trD, Is]
  exact ⟨p, _, rfl, h, .cons (by rw [Is]) (.cons h1 (.cons h2 .nil))⟩
theorem fn_none {P : Program} {w : World} {K : PySem.W.Frag} {mg : Str → Option Value} {base : Heap} {f : Addr} {fd : FuncData} {ps : List Str} {k : Nat} {sp : Sp} (h : ∀ vs H Q E, ¬ sp vs H Q E) : FnOk P w K mg base CX0 k f fd ps sp := ⟨fun vs H Q E q => absurd q (h _ _ _ _), fun _ _ _ _ _ _ _ _ _ _ _ _ _ q => absurd q (h _ _ _ _)⟩
/-! ### a state at a, names at b -/
theorem strs_ne {l : List Str} {x y : Int} : HO.lst (l.map V.str) ≠ HO.lst [.int x, .int y] := by
  intro e
  have e := HO.lst.inj e
  cases l with
  | nil => cases e
  | cons a r => cases (List.cons.inj e).1
structure StAt (H : Hp) (a b : Addr) (s1 : Int) (l : List Str) : Prop where
  st : ∃ s0 : Int, H a = some (.lst [.int s0, .int s1])
  nm : H b = some (.lst (l.map V.str))
theorem StAt.ne {H : Hp} {a b : Addr} {s1 : Int} {l : List Str} (S : StAt H a b s1 l) : b ≠ a := by
  obtain ⟨s0, h⟩ := S.st
  exact ne_of S.nm h strs_ne
theorem StAt.put {H : Hp} {a b : Addr} {s1 : Int} {l : List Str} (S : StAt H a b s1 l) (s0 : Int) : StAt (upd H a (.lst [.int s0, .int s1])) a b s1 l := ⟨⟨s0, upd_same⟩, by rw [upd_ne S.ne]; exact S.nm⟩
theorem StAt.same {H H' : Hp} {a b : Addr} {s1 : Int} {l : List Str} (S : StAt H a b s1 l) (s : Same H H') : StAt H' a b s1 l := by
  obtain ⟨s0, h⟩ := S.st
  exact ⟨⟨s0, s _ _ h⟩, s _ _ S.nm⟩
section
variable {P : Program} {w : World} {K : PySem.W.Frag} {mg : Str → Option Value} {base : Heap}
def spSum (K : PySem.W.Frag) (n : Nat) : Sp := fun vs H Q _ => ∃ (a b : Addr) (s1 near d : Int) (l : List Str), vs = [.ref a, .ref b, .int near, .int d] ∧ StAt H a b s1 l ∧ l.length ≤ 8 ∧ 0 ≤ d ∧ d.toNat < n ∧
  ∀ (p : Addr) (H' : Hp) (t : Tr), Sb a H H' → StAt H' a b s1 l → Is K H' (trD t) (.ref p) → Fits l t → lv t ≤ 2 ^ (d.toNat + 1) → dp t ≤ d.toNat + 1 → Q (.ref p) H'
theorem scSum : FnScope ["_law_state", "_law_names_here", "_law_near", "_law_depth", "_law_kind", "_law_sign", "_law_one"] ["_law_state", "_law_names_here", "_law_near", "_law_depth"] (defScope sSum) := ⟨rfl, rfl, rfl, by decide +kernel, rfl, by decide +kernel, by decide +kernel⟩
theorem ok_sum {f fD : Addr} {fd fdD : FuncData} (B : Bl mg) (F : Fun K "_law_sum" "_law_sum" sSum f fd) (bS : Binds K fd ["_law_state", "_law_names_here", "_law_near", "_law_depth"] []) (mS : mg "_law_sum" = some (.ref f))
    (FD : Fun K "_law_draw" "_law_draw" sDraw fD fdD) (bD : Binds K fdD ["_law_state", "_law_many"] []) (mD : mg "_law_draw" = some (.ref fD)) : ∀ n : Nat, FnOk P w K mg base CX0 (n + 2) f fd ["_law_state", "_law_names_here", "_law_near", "_law_depth"] (spSum K n)
  | 0 => fn_none fun vs H Q E h => by obtain ⟨a, b, s1, near, d, l, _, _, _, _, h1, _⟩ := h; omega
  | n + 1 => by
    have GD : FnOk P w K mg base CX0 1 fD fdD ["_law_state", "_law_many"] spDraw := ok_draw FD
    have GS := ok_sum B F bS mS FD bD mD n
    refine F.ok scSum (fun vs H Q E h => ?_) (fun cdv A outer s H vs Q E hr h => ?_)
    · obtain ⟨a, b, s1, near, d, l, rfl, _⟩ := h
      rfl
    obtain ⟨a, b, s1, near, d, l, rfl, S, l8, d0, hn, q⟩ := h
    have hrD := hr.mono (show 1 ≤ n + 2 by omega)
    have hu := hu60 hr
    have pw : 1 ≤ 2 ^ (d.toNat + 1) := Nat.one_le_two_pow
    have pw2 : 2 ≤ 2 ^ (d.toNat + 1) := by rw [Nat.pow_succ]; have := Nat.one_le_two_pow (n := d.toNat); omega
    refine ⟨_, (@pss_cons _ _ _ _ _ (@ps_set _ _ 4 _ _ _ _ scSum.nd rfl (Or.inl rfl) (pe_call GD hrD (by rfl) mD FD.kp bD .nil pass0 (@pa_cons _ _ _ _ _ (pv 0) (@pa_cons _ _ _ _ _ pe_int pa_nil (by rfl)) (by rfl))) rfl (Or.inl rfl)) (@pss_cons _ _ _ _ _ (@ps_if _ _ _ _ _ _ _ _ (@pt_cut _ _ _ ((@pw_or _ _ _ _ _ _ _ (@pt_cmpR _ _ _ _ _ _ _ _ op_eq (pv 4) pe_int (nomark _)) (pw_or1 (@pt_cmpR _ _ _ _ _ _ _ _ (@op_eqD _ hu) (pv 1) (@pe_lst _ _ _ _ pa_nil) (nomark _))))).pt) (@pss_one _ _ _ (@ps_ret _ _ _ _ (@pe_tup _ _ _ _ _ (@pa_cons _ _ _ _ _ pe_str (@pa_cons _ _ _ _ _ (@pe_op _ _ _ _ _ _ _ _ op_mod (@pe_op _ _ _ _ _ _ _ _ op_add (pv 2) (pe_call GD hrD (by rfl) mD FD.kp bD .nil pass0 (@pa_cons _ _ _ _ _ (pv 0) (@pa_cons _ _ _ _ _ pe_int pa_nil (by rfl)) (by rfl)))) pe_int) pa_nil (by rfl)) (by rfl))))) pss_nil) (@pss_cons _ _ _ _ _ (@ps_if _ _ _ _ _ _ _ _ (@pt_cmpR _ _ _ _ _ _ _ _ op_eq (pv 4) pe_int (nomark _)) (@pss_one _ _ _ (@ps_ret _ _ _ _ (@pe_tup _ _ _ _ _ (@pa_cons _ _ _ _ _ pe_str (@pa_cons _ _ _ _ _ (@pe_ix _ _ _ _ _ _ (rIxL K) ix_list (pv 1) (pe_call GD hrD (by rfl) mD FD.kp bD .nil pass0 (@pa_cons _ _ _ _ _ (pv 0) (@pa_cons _ _ _ _ _ (pe_callB call_len_seq (by rfl) B.len PySem.boot_len (@pa_cons _ _ _ _ _ (pv 1) pa_nil (by rfl))) pa_nil (by rfl)) (by rfl))) (fun _ _ => rfl)) pa_nil (by rfl)) (by rfl))))) pss_nil) (@pss_cons _ _ _ _ _ (@ps_if _ _ _ _ _ _ _ _ (@pt_cmpR _ _ _ _ _ _ _ _ op_eq (pv 4) pe_int (nomark _)) (@pss_one _ _ _ (@ps_ret _ _ _ _ (@pe_tup _ _ _ _ _ (@pa_cons _ _ _ _ _ pe_str (@pa_cons _ _ _ _ _ (pe_call GD hrD (by rfl) mD FD.kp bD .nil pass0 (@pa_cons _ _ _ _ _ (pv 0) (@pa_cons _ _ _ _ _ pe_int pa_nil (by rfl)) (by rfl))) pa_nil (by rfl)) (by rfl))))) pss_nil) (@pss_cons _ _ _ _ _ (@ps_set _ _ 5 _ _ _ _ scSum.nd rfl (Or.inl rfl) (@pe_ix _ _ _ _ _ _ (rIxL K) ix_list (@pe_lst _ _ _ _ (@pa_cons _ _ _ _ _ pe_str (@pa_cons _ _ _ _ _ pe_str (@pa_cons _ _ _ _ _ pe_str pa_nil (by rfl)) (by rfl)) (by rfl))) (pe_call GD hrD (by rfl) mD FD.kp bD .nil pass0 (@pa_cons _ _ _ _ _ (pv 0) (@pa_cons _ _ _ _ _ pe_int pa_nil (by rfl)) (by rfl))) (fun _ _ => rfl)) rfl (Or.inl rfl)) (@pss_cons _ _ _ _ _ (@ps_if _ _ _ _ _ _ _ _ (@pt_cut _ _ _ ((@pw_or _ _ _ _ _ _ _ (@pt_cmpR _ _ _ _ _ _ _ _ op_lt (pv 4) pe_int (nomark _)) (pw_or1 (@pt_cmpR _ _ _ _ _ _ _ _ op_eq (pv 3) pe_int (nomark _))))).pt) (@pss_one _ _ _ (@ps_ret _ _ _ _ (@pe_tup _ _ _ _ _ (@pa_cons _ _ _ _ _ (pv 5) (@pa_cons _ _ _ _ _ (@pe_tup _ _ _ _ _ (@pa_cons _ _ _ _ _ pe_str (@pa_cons _ _ _ _ _ (@pe_ix _ _ _ _ _ _ (rIxL K) ix_list (pv 1) (pe_call GD hrD (by rfl) mD FD.kp bD .nil pass0 (@pa_cons _ _ _ _ _ (pv 0) (@pa_cons _ _ _ _ _ (pe_callB call_len_seq (by rfl) B.len PySem.boot_len (@pa_cons _ _ _ _ _ (pv 1) pa_nil (by rfl))) pa_nil (by rfl)) (by rfl))) (fun _ _ => rfl)) pa_nil (by rfl)) (by rfl))) (@pa_cons _ _ _ _ _ (@pe_tup _ _ _ _ _ (@pa_cons _ _ _ _ _ pe_str (@pa_cons _ _ _ _ _ (pe_call GD hrD (by rfl) mD FD.kp bD .nil pass0 (@pa_cons _ _ _ _ _ (pv 0) (@pa_cons _ _ _ _ _ pe_int pa_nil (by rfl)) (by rfl))) pa_nil (by rfl)) (by rfl))) pa_nil (by rfl)) (by rfl)) (by rfl))))) pss_nil) (@pss_cons _ _ _ _ _ (@ps_set _ _ 6 _ _ _ _ scSum.nd rfl (Or.inl rfl) (pe_call GS hr (by rfl) mS F.kp bS .nil pass0 (@pa_cons _ _ _ _ _ (pv 0) (@pa_cons _ _ _ _ _ (pv 1) (@pa_cons _ _ _ _ _ (pv 2) (@pa_cons _ _ _ _ _ (@pe_op _ _ _ _ _ _ _ _ op_sub (pv 3) pe_int) pa_nil (by rfl)) (by rfl)) (by rfl)) (by rfl))) rfl (Or.inl rfl)) (@pss_one _ _ _ (@ps_ret _ _ _ _ (@pe_tup _ _ _ _ _ (@pa_cons _ _ _ _ _ (pv 5) (@pa_cons _ _ _ _ _ (pv 6) (@pa_cons _ _ _ _ _ (pe_call GS hr (by rfl) mS F.kp bS .nil pass0 (@pa_cons _ _ _ _ _ (pv 0) (@pa_cons _ _ _ _ _ (pv 1) (@pa_cons _ _ _ _ _ (pv 2) (@pa_cons _ _ _ _ _ (@pe_op _ _ _ _ _ _ _ _ op_sub (pv 3) pe_int) pa_nil (by rfl)) (by rfl)) (by rfl)) (by rfl))) pa_nil (by rfl)) (by rfl)) (by rfl)))))))))))), ?_⟩
    obtain ⟨s0, hs⟩ := S.st
    refine ⟨_, rfl, a, s0, s1, 6, rfl, hs, by decide, by decide, fun kd z0 k0 k1 => ?_⟩
    have S1 := S.put z0
    have b1 := Sb.upd a H (.lst [.int z0, .int s1])
    generalize upd H a (.lst [.int z0, .int s1]) = H1 at S1 b1 ⊢
    refine ⟨fun c H' => Same H1 H' ∧ (c = false → l ≠ []), ?_, ?_⟩
    · refine ⟨_, rfl, rfl, _, rfl, ite2 (fun _ => ⟨Same.refl _, fun z => by cases z⟩) (fun _ => ?_)⟩
      refine ⟨_, rfl, by decide, fun z hz => ⟨.lst (l.map Dt.str), .lst [], ?_, ?_, rfl, rfl, ?_, _, rfl, ?_⟩⟩
      · rw [Is]
        exact ⟨b, _, rfl, SqL.of ((same_new hz _) _ _ S1.nm), Iss.strs l⟩
      · rw [Is]
        exact ⟨z, _, rfl, SqL.of upd_same, Iss.nil⟩
      · rw [dep, deps_strs]; decide
      rw [eq_nilS]
      exact ⟨same_new hz _, fun e => of_decide_eq_false e⟩
    rintro c H2 ⟨s2, hc⟩
    have S2 := S1.same s2
    have b2 := b1.trans (.of s2)
    obtain ⟨y0, hy⟩ := S2.st
    cases c with
    | true =>
      refine iteT ⟨_, rfl, _, rfl, a, y0, s1, 7, rfl, hy, by decide, by decide, fun r y1 r0 r1 => ⟨_, _, rfl, rfl, _, _, rfl, rfl, (by show (0 : Int) < 100; decide), by show 2 ≤ sizeLine; decide, fun p hp => ?_⟩⟩
      have e1 := Int.emod_nonneg (near + r) (b := 100) (by decide)
      have e2 := Int.emod_lt_of_pos (near + r) (b := 100) (by decide)
      exact q p _ (.num ((near + r) % 100)) ((b2.trans (Sb.upd a H2 _)).trans (.of (same_new hp _))) ((S2.put y1).same (same_new hp _)) (tr_num (SqT.of upd_same)) ⟨e1, by omega⟩ pw (Nat.zero_le _)
    | false =>
      have hl0 := hc rfl
      have lp : 0 < l.length := List.length_pos_iff.mpr hl0
      refine iteF ⟨_, rfl, rfl, _, rfl, ite2 (fun _ => ?_) (fun _ => ?_)⟩
      · refine ⟨_, rfl, _, rfl, _, rfl, b, _, rfl, .inl (SqL.of S2.nm), a, y0, s1, _, rfl, hy, ?_, ?_, fun r y1 r0 r1 => ?_⟩
        · rw [List.length_map]; omega
        · rw [List.length_map]; omega
        rw [List.length_map] at r1
        obtain ⟨x, hx, ex⟩ := at_strs r0 r1
        refine ⟨b, _, _, _, rfl, rfl, SqL.of (S2.put y1).nm, ex, by show 2 ≤ sizeLine; decide, fun p hp => ?_⟩
        exact q p _ (.nam x) ((b2.trans (Sb.upd a H2 _)).trans (.of (same_new hp _))) ((S2.put y1).same (same_new hp _)) (tr_nam (SqT.of upd_same)) hx pw (Nat.zero_le _)
      refine ⟨_, rfl, rfl, _, rfl, ite2 (fun _ => ?_) (fun _ => ?_)⟩
      · refine ⟨_, rfl, a, y0, s1, 100, rfl, hy, by decide, by decide, fun r y1 r0 r1 => ⟨by show 2 ≤ sizeLine; decide, fun p hp => ?_⟩⟩
        exact q p _ (.num r) ((b2.trans (Sb.upd a H2 _)).trans (.of (same_new hp _))) ((S2.put y1).same (same_new hp _)) (tr_num (SqT.of upd_same)) ⟨r0, by omega⟩ pw (Nat.zero_le _)
      refine ⟨by show 3 ≤ sizeLine; decide, fun sl hsl => ?_⟩
      have t3 := same_new hsl (.lst [V.str "+", V.str "-", V.str "*"])
      have S3 := S2.same t3
      have b3 := b2.trans (.of t3)
      have esl : upd H2 sl (.lst [V.str "+", V.str "-", V.str "*"]) sl = some (.lst [V.str "+", V.str "-", V.str "*"]) := upd_same
      generalize upd H2 sl (.lst [V.str "+", V.str "-", V.str "*"]) = H3 at t3 S3 b3 esl ⊢
      obtain ⟨x0, hx3⟩ := S3.st
      refine ⟨_, rfl, a, x0, s1, 3, rfl, hx3, by decide, by decide, fun r y1 r0 r1 => ?_⟩
      obtain ⟨g, hg⟩ := sign_at r0 r1
      have sa : sl ≠ a := ne_of esl hx3 (by intro z; cases z)
      refine ⟨sl, _, _, _, rfl, rfl, SqL.of (by rw [upd_ne sa]; exact esl), hg, ?_⟩
      have S4 := S3.put y1
      have b4 := b3.trans (Sb.upd a H3 (.lst [.int y1, .int s1]))
      generalize upd H3 a (.lst [.int y1, .int s1]) = H4 at S4 b4 ⊢
      refine ⟨fun c H' => H' = H4 ∧ (c = false → 0 < d), ?_, ?_⟩
      · refine ⟨_, rfl, _, _, rfl, rfl, _, rfl, ite2 (fun _ => ⟨rfl, fun z => by cases z⟩) (fun _ => ?_)⟩
        refine ⟨_, rfl, rfl, _, rfl, rfl, fun e => ?_⟩
        have e : ¬ V.int d = V.int 0 := of_decide_eq_false e
        have e : d ≠ 0 := fun z => e (by rw [z])
        omega
      rintro c H5 ⟨rfl, hc⟩
      obtain ⟨w0, hw⟩ := S4.st
      cases c with
      | true =>
        refine iteT ⟨_, rfl, _, rfl, _, rfl, _, rfl, b, _, rfl, .inl (SqL.of S4.nm), a, w0, s1, _, rfl, hw, ?_, ?_, fun r y2 r0 r1 => ?_⟩
        · rw [List.length_map]; omega
        · rw [List.length_map]; omega
        rw [List.length_map] at r1
        obtain ⟨x, hx, ex⟩ := at_strs r0 r1
        have S5 := S4.put y2
        have b5 := b4.trans (Sb.upd a H5 (.lst [.int y2, .int s1]))
        generalize upd H5 a (.lst [.int y2, .int s1]) = H6 at S5 b5 ⊢
        refine ⟨b, _, _, _, rfl, rfl, SqL.of S5.nm, ex, by show 2 ≤ sizeLine; decide, fun p1 hp1 => ?_⟩
        have S6 := S5.same (same_new hp1 (.tup [V.str "name", V.str x]))
        have b6 := b5.trans (.of (same_new hp1 (.tup [V.str "name", V.str x])))
        have i6 : Is K (upd H6 p1 (.tup [V.str "name", V.str x])) (trD (.nam x)) (.ref p1) := tr_nam (SqT.of upd_same)
        generalize upd H6 p1 (.tup [V.str "name", V.str x]) = H7 at S6 b6 i6 ⊢
        obtain ⟨v0, hv⟩ := S6.st
        refine ⟨_, rfl, a, v0, s1, 4, rfl, hv, by decide, by decide, fun m y3 m0 m1 => ⟨by show 2 ≤ sizeLine; decide, fun p2 hp2 => ?_⟩⟩
        have S7 := (S6.put y3).same (same_new hp2 (.tup [V.str "number", V.int m]))
        have b7 := (b6.trans (Sb.upd a H7 (.lst [.int y3, .int s1]))).trans (.of (same_new hp2 (.tup [V.str "number", V.int m])))
        have i7 := (tr_sb hv (Sb.upd a H7 (.lst [.int y3, .int s1])) i6).same (same_new hp2 (.tup [V.str "number", V.int m]))
        have j7 : Is K (upd (upd H7 a (.lst [.int y3, .int s1])) p2 (.tup [V.str "number", V.int m])) (trD (.num m)) (.ref p2) := tr_num (SqT.of upd_same)
        refine ⟨by show 3 ≤ sizeLine; decide, fun p hp => ?_⟩
        exact q p _ (.op g (.nam x) (.num m)) (b7.trans (.of (same_new hp _))) (S7.same (same_new hp _)) (tr_op (SqT.of upd_same) (i7.same (same_new hp _)) (j7.same (same_new hp _))) ⟨hx, m0, by omega⟩ pw2 (Nat.le_add_left 1 _)
      | false =>
        have hd := hc rfl
        have ed : (d - 1).toNat = d.toNat - 1 := by omega
        refine iteF ⟨_, rfl, _, rfl, _, rfl, _, rfl, _, _, rfl, rfl, a, b, s1, near, d - 1, l, rfl, S4, l8, by omega, by omega, fun p1 H6 t1 c1 S5 i1 f1 l1 e1 => ?_⟩
        have b5 := b4.trans c1
        refine ⟨_, rfl, _, rfl, _, rfl, _, rfl, _, rfl, _, rfl, _, _, rfl, rfl, a, b, s1, near, d - 1, l, rfl, S5, l8, by omega, by omega, fun p2 H7 t2 c2 S6 i2 f2 l2 e2 => ?_⟩
        have b6 := b5.trans c2
        obtain ⟨v0, hv⟩ := S5.st
        have i1' := tr_sb hv c2 i1
        refine ⟨by show 3 ≤ sizeLine; decide, fun p hp => ?_⟩
        have pe : 2 ^ (d.toNat + 1) = 2 ^ ((d - 1).toNat + 1) + 2 ^ ((d - 1).toNat + 1) := by
          have : d.toNat + 1 = ((d - 1).toNat + 1) + 1 := by omega
          rw [this, Nat.pow_succ]
          omega
        exact q p _ (.op g t1 t2) (b6.trans (.of (same_new hp _))) (S6.same (same_new hp _)) (tr_op (SqT.of upd_same) (i1'.same (same_new hp _)) (i2.same (same_new hp _))) ⟨f1, f2⟩ (by show lv t1 + lv t2 ≤ _; omega) (by show max (dp t1) (dp t2) + 1 ≤ _; omega)
end
end Nw

set_option Elab.async false
set_option linter.all false
set_option maxRecDepth 100000
set_option maxHeartbeats 4000000
namespace Nw
open PySem L2
/-! ### the worth of a tree -/
def val (vf : Str → Int) : Tr → Int
  | .num n => n
  | .nam x => vf x
  | .op .plus l r => val vf l + val vf r
  | .op .minus l r => val vf l - val vf r
  | .op .times l r => val vf l * val vf r
structure ValsOk (kvs : List (Key × V)) (l : List Str) (vf : Str → Int) : Prop where
  nd : (kvs.map (·.1)).Nodup
  flat : ∀ p ∈ kvs, flatV p.2 = true
  get : ∀ x ∈ l, valV kvs (.inr x) = some (.int (vf x)) ∧ (vf x).natAbs < 2 ^ 110
theorem pow_sum {x y : Nat} (hx : 0 < x) (hy : 0 < y) : 2 ^ x + 2 ^ y ≤ 2 ^ (x + y) := by
  rw [Nat.pow_add]
  have h1 : 2 ≤ 2 ^ x := by
    have := Nat.pow_le_pow_right (n := 2) (by decide) hx
    simpa using this
  have h2 : 2 ≤ 2 ^ y := by
    have := Nat.pow_le_pow_right (n := 2) (by decide) hy
    simpa using this
  generalize 2 ^ x = a at *
  generalize 2 ^ y = b at *
  have e1 := Nat.mul_le_mul_right b h1
  have e2 := Nat.mul_le_mul_left a h2
  omega
theorem val_lt {kvs : List (Key × V)} {l : List Str} {vf : Str → Int} (O : ValsOk kvs l vf) : ∀ {t : Tr}, Fits l t → (val vf t).natAbs < 2 ^ (110 * lv t)
  | .num n, h => by
    obtain ⟨h1, h2⟩ : 0 ≤ n ∧ n ≤ 99 := h
    show n.natAbs < 2 ^ 110
    exact Nat.lt_of_le_of_lt (show n.natAbs ≤ 99 by omega) (by decide)
  | .nam x, h => by
    exact (O.get x h).2
  | .op g a b, h => by
    obtain ⟨h1, h2⟩ : Fits l a ∧ Fits l b := h
    have i1 := val_lt O h1
    have i2 := val_lt O h2
    have p1 := lv_pos a
    have p2 := lv_pos b
    have ps := pow_sum (x := 110 * lv a) (y := 110 * lv b) (by omega) (by omega)
    show (val vf (.op g a b)).natAbs < 2 ^ (110 * (lv a + lv b))
    rw [Nat.mul_add]
    cases g with
    | plus =>
      show (val vf a + val vf b).natAbs < _
      omega
    | minus =>
      show (val vf a - val vf b).natAbs < _
      omega
    | times =>
      show (val vf a * val vf b).natAbs < _
      rw [Int.natAbs_mul, Nat.pow_add]
      exact Nat.mul_lt_mul'' i1 i2
section
variable {P : Program} {w : World} {K : PySem.W.Frag} {mg : Str → Option Value} {base : Heap}
theorem hu1_of {A : Around} {k : Nat} (hr : Room k A) : A.units + 1 < cLine := by have := hr.un; omega
end
end Nw

set_option Elab.async false
set_option linter.all false
set_option maxRecDepth 100000
set_option maxHeartbeats 4000000
namespace Nw
open PySem L2
/-! ### the classes -/
inductive Kd where
  | num | nam | op (g : Sg)
def kd : Tr → Kd
  | .num _ => .num
  | .nam _ => .nam
  | .op g _ _ => .op g
def ckOf (CN CM CP CI CX : Addr) : Kd → Addr
  | .num => CN
  | .nam => CM
  | .op .plus => CP
  | .op .minus => CI
  | .op .times => CX
def numF (v : V) : List (Str × V) := putF "number" v []
def namF (v : V) : List (Str × V) := putF "name" v []
def twoF (a b : V) : List (Str × V) := putF "other" b (putF "one" a [])
theorem num_at (v : V) : (numF v).lookup ("number" : Str) = some v := by unfold numF; rw [lookup_putF, if_pos rfl]
theorem nam_at (v : V) : (namF v).lookup ("name" : Str) = some v := by unfold namF; rw [lookup_putF, if_pos rfl]
theorem two_one (a b : V) : (twoF a b).lookup ("one" : Str) = some a := by unfold twoF; rw [lookup_putF, if_neg (by decide +kernel), lookup_putF, if_pos rfl]
theorem two_oth (a b : V) : (twoF a b).lookup ("other" : Str) = some b := by unfold twoF; rw [lookup_putF, if_pos rfl]
theorem num_w (v : V) : (numF v).lookup ("worth" : Str) = none := by unfold numF; rw [lookup_putF, if_neg (by decide +kernel)]; rfl
theorem nam_w (v : V) : (namF v).lookup ("worth" : Str) = none := by unfold namF; rw [lookup_putF, if_neg (by decide +kernel)]; rfl
theorem two_w (a b : V) : (twoF a b).lookup ("worth" : Str) = none := by unfold twoF; rw [lookup_putF, if_neg (by decide +kernel), lookup_putF, if_neg (by decide +kernel)]; rfl
structure ClsA (K : PySem.W.Frag) (CK : Kd → Addr) : Prop where
  cl : ∀ k, Cls K (CK k)
  num : NoAttr K (CK .num) "number"
  nam : NoAttr K (CK .nam) "name"
  one : ∀ g, NoAttr K (CK (.op g)) "one"
  oth : ∀ g, NoAttr K (CK (.op g)) "other"
/-- the object made of a tree -/
def Obj (CK : Kd → Addr) (H : Hp) : Tr → V → Prop
  | .num n, v => ∃ p dx, v = .ref p ∧ H p = some (.ins (CK .num) dx (numF (.int n)))
  | .nam x, v => ∃ p dx, v = .ref p ∧ H p = some (.ins (CK .nam) dx (namF (.str x)))
  | .op g l r, v => ∃ p dx a b, v = .ref p ∧ H p = some (.ins (CK (.op g)) dx (twoF a b)) ∧ Obj CK H l a ∧ Obj CK H r b
theorem Obj.same {CK : Kd → Addr} {H H' : Hp} (s : Same H H') : ∀ {t : Tr} {v : V}, Obj CK H t v → Obj CK H' t v
  | .num n, v, h => by
    obtain ⟨p, dx, e, h⟩ := h
    exact ⟨p, dx, e, s _ _ h⟩
  | .nam n, v, h => by
    obtain ⟨p, dx, e, h⟩ := h
    exact ⟨p, dx, e, s _ _ h⟩
  | .op g l r, v, h => by
    obtain ⟨p, dx, a, b, e, h, h1, h2⟩ := h
    exact ⟨p, dx, a, b, e, s _ _ h, h1.same s, h2.same s⟩
theorem Obj.at_ {CK : Kd → Addr} {H : Hp} : ∀ {t : Tr} {v : V}, Obj CK H t v → ∃ p dx fs, v = .ref p ∧ H p = some (.ins (CK (kd t)) dx fs) ∧ fs.lookup ("worth" : Str) = none
  | .num n, v, h => by
    obtain ⟨p, dx, e, h⟩ := h
    exact ⟨p, dx, _, e, h, num_w _⟩
  | .nam n, v, h => by
    obtain ⟨p, dx, e, h⟩ := h
    exact ⟨p, dx, _, e, h, nam_w _⟩
  | .op g l r, v, h => by
    obtain ⟨p, dx, a, b, e, h, _⟩ := h
    exact ⟨p, dx, _, e, h, two_w _ _⟩
section
variable {P : Program} {w : World} {K : PySem.W.Frag} {mg : Str → Option Value} {base : Heap} {CK : Kd → Addr}
def spW (CK : Kd → Addr) (n : Nat) (k : Kd) : Sp := fun vs H Q _ => ∃ (v : V) (d : Addr) (t : Tr) (kvs : List (Key × V)) (l : List Str) (vf : Str → Int), vs = [v, .ref d] ∧ kd t = k ∧ Obj CK H t v ∧ H d = some (.dK kvs) ∧ ValsOk kvs l vf ∧ Fits l t ∧ lv t ≤ 100 ∧ dp t < n ∧ Q (.int (val vf t)) H
theorem scNumW : FnScope ["self", "values"] ["self", "values"] (defScope sNumW) := ⟨rfl, rfl, rfl, by decide +kernel, rfl, by decide +kernel, by decide +kernel⟩
theorem ok_numW {f : Addr} {fd : FuncData} (c : ClsA K CK) (F : Fun K "worth" "Number.worth" sNumW f fd) (n : Nat) : FnOk P w K mg base CX0 1 f fd ["self", "values"] (spW CK n .num) := by
  refine F.ok scNumW (fun vs H Q E h => ?_) (fun cdv A outer s H vs Q E hr h => ?_)
  · obtain ⟨v, d, t, kvs, l, vf, rfl, _⟩ := h
    rfl
  obtain ⟨v, d, t, kvs, l, vf, rfl, kt, ob, hd, O, ft, l100, hn, q⟩ := h
  refine ⟨_, (@pss_one _ _ _ (@ps_ret _ _ _ _ (@pe_fld _ _ _ _ _ (pv 0) rfl))), ?_⟩
  cases t with
  | num m =>
    obtain ⟨p, dx, rfl, hp⟩ := ob
    exact ⟨_, rfl, p, _, dx, _, _, rfl, hp, c.cl _, c.num, num_at _, q⟩
  | _ => cases kt
theorem scNamW : FnScope ["self", "values"] ["self", "values"] (defScope sNamW) := ⟨rfl, rfl, rfl, by decide +kernel, rfl, by decide +kernel, by decide +kernel⟩
theorem ok_namW {f : Addr} {fd : FuncData} (c : ClsA K CK) (F : Fun K "worth" "Named.worth" sNamW f fd) (n : Nat) : FnOk P w K mg base CX0 1 f fd ["self", "values"] (spW CK n .nam) := by
  refine F.ok scNamW (fun vs H Q E h => ?_) (fun cdv A outer s H vs Q E hr h => ?_)
  · obtain ⟨v, d, t, kvs, l, vf, rfl, _⟩ := h
    rfl
  obtain ⟨v, d, t, kvs, l, vf, rfl, kt, ob, hd, O, ft, l100, hn, q⟩ := h
  have hu1 := hu1_of hr
  refine ⟨_, (@pss_one _ _ _ (@ps_ret _ _ _ _ (@pe_dget _ _ _ _ _ _ hu1 (pv 1) (@pe_fld _ _ _ _ _ (pv 0) rfl) (fun _ _ => rfl)))), ?_⟩
  cases t with
  | nam x =>
    obtain ⟨p, dx, rfl, hp⟩ := ob
    obtain ⟨g1, g2⟩ := O.get x ft
    exact ⟨_, rfl, _, rfl, p, _, dx, _, _, rfl, hp, c.cl _, c.nam, nam_at _, d, _, rfl, g1 ▸ DGet.k (k := .inr x) hd, q⟩
  | _ => cases kt
theorem scPluW : FnScope ["self", "values"] ["self", "values"] (defScope sPluW) := ⟨rfl, rfl, rfl, by decide +kernel, rfl, by decide +kernel, by decide +kernel⟩
theorem scMinW : FnScope ["self", "values"] ["self", "values"] (defScope sMinW) := ⟨rfl, rfl, rfl, by decide +kernel, rfl, by decide +kernel, by decide +kernel⟩
theorem scTimW : FnScope ["self", "values"] ["self", "values"] (defScope sTimW) := ⟨rfl, rfl, rfl, by decide +kernel, rfl, by decide +kernel, by decide +kernel⟩
theorem spW_none (k : Kd) : ∀ vs H Q E, ¬ spW CK 0 k vs H Q E := fun vs H Q E h => by
  obtain ⟨v, d, t, kvs, l, vf, _, _, _, _, _, _, _, h1, _⟩ := h
  omega
theorem ok_pluW {f : Addr} {fd : FuncData} (c : ClsA K CK) (F : Fun K "worth" "Plus.worth" sPluW f fd) (n : Nat) (W : ∀ k, MOk P w K mg base (n + 1) (CK k) "worth" (spW CK n k)) : FnOk P w K mg base CX0 (n + 2) f fd ["self", "values"] (spW CK (n + 1) (.op .plus)) := by
  refine F.ok scPluW (fun vs H Q E h => ?_) (fun cdv A outer s H vs Q E hr h => ?_)
  · obtain ⟨v, d, t, kvs, l, vf, rfl, _⟩ := h
    rfl
  obtain ⟨v, d, t, kvs, l, vf, rfl, kt, ob, hd, O, ft, l100, hn, q⟩ := h
  refine ⟨_, (@pss_one _ _ _ (@ps_ret _ _ _ _ (@pe_op _ _ _ _ _ _ _ _ op_add (pe_methP (@pe_fld _ _ _ _ _ (pv 0) rfl) hr (@pa_cons _ _ _ _ _ (pv 1) pa_nil (by rfl))) (pe_methP (@pe_fld _ _ _ _ _ (pv 0) rfl) hr (@pa_cons _ _ _ _ _ (pv 1) pa_nil (by rfl)))))), ?_⟩
  cases t with
  | op g a b =>
    cases kt
    obtain ⟨p, dx, va, vb, rfl, hp, oa, ob⟩ := ob
    obtain ⟨fa, fb⟩ : Fits l a ∧ Fits l b := ft
    have hn : max (dp a) (dp b) + 1 < n + 1 := hn
    have l100 : lv a + lv b ≤ 100 := l100
    obtain ⟨pa, dxa, fsa, rfl, ha, la⟩ := oa.at_
    obtain ⟨pb, dxb, fsb, rfl, hb, lb⟩ := ob.at_
    refine ⟨_, rfl, p, _, dx, _, _, rfl, hp, c.cl _, c.one _, two_one _ _, pa, _, dxa, fsa, _, rfl, ha, la, W _, _, rfl, _, d, a, kvs, l, vf, rfl, rfl, oa, hd, O, fa, by omega, by omega, ?_⟩
    refine ⟨_, rfl, p, _, dx, _, _, rfl, hp, c.cl _, c.oth _, two_oth _ _, pb, _, dxb, fsb, _, rfl, hb, lb, W _, _, rfl, _, d, b, kvs, l, vf, rfl, rfl, ob, hd, O, fb, by omega, by omega, ?_⟩
    exact ⟨_, _, rfl, rfl, q⟩
  | _ => cases kt
theorem ok_minW {f : Addr} {fd : FuncData} (c : ClsA K CK) (F : Fun K "worth" "Minus.worth" sMinW f fd) (n : Nat) (W : ∀ k, MOk P w K mg base (n + 1) (CK k) "worth" (spW CK n k)) : FnOk P w K mg base CX0 (n + 2) f fd ["self", "values"] (spW CK (n + 1) (.op .minus)) := by
  refine F.ok scMinW (fun vs H Q E h => ?_) (fun cdv A outer s H vs Q E hr h => ?_)
  · obtain ⟨v, d, t, kvs, l, vf, rfl, _⟩ := h
    rfl
  obtain ⟨v, d, t, kvs, l, vf, rfl, kt, ob, hd, O, ft, l100, hn, q⟩ := h
  refine ⟨_, (@pss_one _ _ _ (@ps_ret _ _ _ _ (@pe_op _ _ _ _ _ _ _ _ op_sub (pe_methP (@pe_fld _ _ _ _ _ (pv 0) rfl) hr (@pa_cons _ _ _ _ _ (pv 1) pa_nil (by rfl))) (pe_methP (@pe_fld _ _ _ _ _ (pv 0) rfl) hr (@pa_cons _ _ _ _ _ (pv 1) pa_nil (by rfl)))))), ?_⟩
  cases t with
  | op g a b =>
    cases kt
    obtain ⟨p, dx, va, vb, rfl, hp, oa, ob⟩ := ob
    obtain ⟨fa, fb⟩ : Fits l a ∧ Fits l b := ft
    have hn : max (dp a) (dp b) + 1 < n + 1 := hn
    have l100 : lv a + lv b ≤ 100 := l100
    obtain ⟨pa, dxa, fsa, rfl, ha, la⟩ := oa.at_
    obtain ⟨pb, dxb, fsb, rfl, hb, lb⟩ := ob.at_
    refine ⟨_, rfl, p, _, dx, _, _, rfl, hp, c.cl _, c.one _, two_one _ _, pa, _, dxa, fsa, _, rfl, ha, la, W _, _, rfl, _, d, a, kvs, l, vf, rfl, rfl, oa, hd, O, fa, by omega, by omega, ?_⟩
    refine ⟨_, rfl, p, _, dx, _, _, rfl, hp, c.cl _, c.oth _, two_oth _ _, pb, _, dxb, fsb, _, rfl, hb, lb, W _, _, rfl, _, d, b, kvs, l, vf, rfl, rfl, ob, hd, O, fb, by omega, by omega, ?_⟩
    exact ⟨_, _, rfl, rfl, q⟩
  | _ => cases kt
theorem ok_timW {f : Addr} {fd : FuncData} (c : ClsA K CK) (F : Fun K "worth" "Times.worth" sTimW f fd) (n : Nat) (W : ∀ k, MOk P w K mg base (n + 1) (CK k) "worth" (spW CK n k)) : FnOk P w K mg base CX0 (n + 2) f fd ["self", "values"] (spW CK (n + 1) (.op .times)) := by
  refine F.ok scTimW (fun vs H Q E h => ?_) (fun cdv A outer s H vs Q E hr h => ?_)
  · obtain ⟨v, d, t, kvs, l, vf, rfl, _⟩ := h
    rfl
  obtain ⟨v, d, t, kvs, l, vf, rfl, kt, ob, hd, O, ft, l100, hn, q⟩ := h
  refine ⟨_, (@pss_one _ _ _ (@ps_ret _ _ _ _ (@pe_op _ _ _ _ _ _ _ _ op_mulB (pe_methP (@pe_fld _ _ _ _ _ (pv 0) rfl) hr (@pa_cons _ _ _ _ _ (pv 1) pa_nil (by rfl))) (pe_methP (@pe_fld _ _ _ _ _ (pv 0) rfl) hr (@pa_cons _ _ _ _ _ (pv 1) pa_nil (by rfl)))))), ?_⟩
  cases t with
  | op g a b =>
    cases kt
    obtain ⟨p, dx, va, vb, rfl, hp, oa, ob⟩ := ob
    obtain ⟨fa, fb⟩ : Fits l a ∧ Fits l b := ft
    have hn : max (dp a) (dp b) + 1 < n + 1 := hn
    have l100 : lv a + lv b ≤ 100 := l100
    obtain ⟨pa, dxa, fsa, rfl, ha, la⟩ := oa.at_
    obtain ⟨pb, dxb, fsb, rfl, hb, lb⟩ := ob.at_
    refine ⟨_, rfl, p, _, dx, _, _, rfl, hp, c.cl _, c.one _, two_one _ _, pa, _, dxa, fsa, _, rfl, ha, la, W _, _, rfl, _, d, a, kvs, l, vf, rfl, rfl, oa, hd, O, fa, by omega, by omega, ?_⟩
    refine ⟨_, rfl, p, _, dx, _, _, rfl, hp, c.cl _, c.oth _, two_oth _ _, pb, _, dxb, fsb, _, rfl, hb, lb, W _, _, rfl, _, d, b, kvs, l, vf, rfl, rfl, ob, hd, O, fb, by omega, by omega, ?_⟩
    exact ⟨_, _, rfl, rfl, ⟨110 * lv a, 110 * lv b, by omega, by omega, val_lt O fa, val_lt O fb⟩, q⟩
  | _ => cases kt
end
end Nw

set_option Elab.async false
set_option linter.all false
set_option maxRecDepth 100000
set_option maxHeartbeats 4000000
namespace Nw
open PySem L2
section
variable {P : Program} {w : World} {K : PySem.W.Frag} {mg : Str → Option Value} {base : Heap} {CK : Kd → Addr}
/-! ### making -/
def spNumI (C : Addr) : Sp := fun vs H Q _ => ∃ (x dx : Addr) (v : V), vs = [.ref x, v] ∧ H x = some (.ins C dx []) ∧ Q .non (upd H x (.ins C dx (numF v)))
theorem scNumI : FnScope ["self", "number"] ["self", "number"] (defScope sNumI) := ⟨rfl, rfl, rfl, by decide +kernel, rfl, by decide +kernel, by decide +kernel⟩
theorem ok_numI {f : Addr} {fd : FuncData} (c : ClsA K CK) (F : Fun K "__init__" "Number.__init__" sNumI f fd) : FnOk P w K mg base CX0 1 f fd ["self", "number"] (spNumI (CK .num)) := by
  refine F.ok scNumI (fun vs H Q E h => ?_) (fun cdv A outer s H vs Q E hr h => ?_)
  · obtain ⟨x, dx, v, rfl, _⟩ := h
    rfl
  obtain ⟨x, dx, v, rfl, hx, k⟩ := h
  refine ⟨_, (@pss_one _ _ _ (@ps_fld _ _ _ _ _ _ _ _ (pv 0) (pv 1) rfl)), ?_⟩
  exact ⟨_, rfl, _, rfl, x, _, dx, _, rfl, hx, c.cl _, c.num, (by show 0 < 1000; decide), k⟩
def spNamI (C : Addr) : Sp := fun vs H Q _ => ∃ (x dx : Addr) (v : V), vs = [.ref x, v] ∧ H x = some (.ins C dx []) ∧ Q .non (upd H x (.ins C dx (namF v)))
theorem scNamI : FnScope ["self", "name"] ["self", "name"] (defScope sNamI) := ⟨rfl, rfl, rfl, by decide +kernel, rfl, by decide +kernel, by decide +kernel⟩
theorem ok_namI {f : Addr} {fd : FuncData} (c : ClsA K CK) (F : Fun K "__init__" "Named.__init__" sNamI f fd) : FnOk P w K mg base CX0 1 f fd ["self", "name"] (spNamI (CK .nam)) := by
  refine F.ok scNamI (fun vs H Q E h => ?_) (fun cdv A outer s H vs Q E hr h => ?_)
  · obtain ⟨x, dx, v, rfl, _⟩ := h
    rfl
  obtain ⟨x, dx, v, rfl, hx, k⟩ := h
  refine ⟨_, (@pss_one _ _ _ (@ps_fld _ _ _ _ _ _ _ _ (pv 0) (pv 1) rfl)), ?_⟩
  exact ⟨_, rfl, _, rfl, x, _, dx, _, rfl, hx, c.cl _, c.nam, (by show 0 < 1000; decide), k⟩
def spTwoI (C : Addr) : Sp := fun vs H Q _ => ∃ (x dx : Addr) (a b : V), vs = [.ref x, a, b] ∧ H x = some (.ins C dx []) ∧ ∀ H', H' x = some (.ins C dx (twoF a b)) → (∀ b, b ≠ x → H' b = H b) → Q .non H'
theorem scTwoI : FnScope ["self", "one", "other"] ["self", "one", "other"] (defScope sTwoI) := ⟨rfl, rfl, rfl, by decide +kernel, rfl, by decide +kernel, by decide +kernel⟩
theorem ok_twoI {f : Addr} {fd : FuncData} (c : ClsA K CK) (F : Fun K "__init__" "Twofold.__init__" sTwoI f fd) (g : Sg) : FnOk P w K mg base CX0 1 f fd ["self", "one", "other"] (spTwoI (CK (.op g))) := by
  refine F.ok scTwoI (fun vs H Q E h => ?_) (fun cdv A outer s H vs Q E hr h => ?_)
  · obtain ⟨x, dx, a, b, rfl, _⟩ := h
    rfl
  obtain ⟨x, dx, a, b, rfl, hx, k⟩ := h
  refine ⟨_, (@pss_cons _ _ _ _ _ (@ps_fld _ _ _ _ _ _ _ _ (pv 0) (pv 1) rfl) (@pss_one _ _ _ (@ps_fld _ _ _ _ _ _ _ _ (pv 0) (pv 2) rfl))), ?_⟩
  refine ⟨_, rfl, _, rfl, x, _, dx, _, rfl, hx, c.cl _, c.one g, (by show 0 < 1000; decide), ?_⟩
  refine ⟨_, rfl, _, rfl, x, _, dx, _, rfl, upd_same, c.cl _, c.oth g, Nat.lt_of_le_of_lt (length_putF _ _ _) (by show 1 < 1000; decide), ?_⟩
  exact k _ upd_same fun b hb => by rw [upd_ne hb, upd_ne hb]
/-! ### a sum by hand -/
structure Maker (K : PySem.W.Frag) (mg : Str → Option Value) (CK : Kd → Addr) (fN fM fT : Addr) (dN dM dT : FuncData) : Prop where
  cls : ClsA K CK
  mkN : Mk K (CK .num) fN
  mkM : Mk K (CK .nam) fM
  mkT : ∀ g, Mk K (CK (.op g)) fT
  gN : mg "Number" = some (.ref (CK .num))
  gM : mg "Named" = some (.ref (CK .nam))
  gP : mg "Plus" = some (.ref (CK (.op .plus)))
  gI : mg "Minus" = some (.ref (CK (.op .minus)))
  gX : mg "Times" = some (.ref (CK (.op .times)))
  FN : Fun K "__init__" "Number.__init__" sNumI fN dN
  FM : Fun K "__init__" "Named.__init__" sNamI fM dM
  FT : Fun K "__init__" "Twofold.__init__" sTwoI fT dT
  bN : Binds K dN ["self", "number"] []
  bM : Binds K dM ["self", "name"] []
  bT : Binds K dT ["self", "one", "other"] []
def spHand (K : PySem.W.Frag) (CK : Kd → Addr) (n : Nat) : Sp := fun vs H Q _ => ∃ (v : V) (t : Tr), vs = [v] ∧ Is K H (trD t) v ∧ dp t < n ∧ ∀ (p : Addr) (H' : Hp), Same H H' → Obj CK H' t (.ref p) → Q (.ref p) H'
theorem scHand : FnScope ["_law_one", "_law_here", "_law_there"] ["_law_one"] (defScope sHand) := ⟨rfl, rfl, rfl, by decide +kernel, rfl, by decide +kernel, by decide +kernel⟩
theorem same_made {H : Hp} {x dx : Addr} (hx : H x = none) (hd : H dx = none) (n : dx ≠ x) (o o' : HO) : Same H (upd (upd H dx o) x o') := by
  intro b u e
  rw [upd_ne (ne_of_none e hx), upd_ne (ne_of_none e hd)]
  exact e
theorem ok_hand {f fN fM fT : Addr} {fd dN dM dT : FuncData} (T : Maker K mg CK fN fM fT dN dM dT) (F : Fun K "_law_sum_of" "_law_sum_of" sHand f fd) (bH : Binds K fd ["_law_one"] []) (mH : mg "_law_sum_of" = some (.ref f)) :
    ∀ n : Nat, FnOk P w K mg base CX0 (n + 3) f fd ["_law_one"] (spHand K CK n)
  | 0 => fn_none fun vs H Q E h => by obtain ⟨v, t, _, _, h1, _⟩ := h; omega
  | n + 1 => by
    have GH := ok_hand T F bH mH n
    have GN : FnOk P w K mg base CX0 1 fN dN ["self", "number"] (spNumI (CK .num)) := ok_numI T.cls T.FN
    have GM : FnOk P w K mg base CX0 1 fM dM ["self", "name"] (spNamI (CK .nam)) := ok_namI T.cls T.FM
    have GT : ∀ g, FnOk P w K mg base CX0 1 fT dT ["self", "one", "other"] (spTwoI (CK (.op g))) := ok_twoI T.cls T.FT
    refine F.ok scHand (fun vs H Q E h => ?_) (fun cdv A outer s H vs Q E hr h => ?_)
    · obtain ⟨v, t, rfl, _⟩ := h
      rfl
    obtain ⟨v, t, rfl, it, hn, q⟩ := h
    have hr2 := hr.mono (show 1 + 1 ≤ n + 3 by omega)
    refine ⟨_, (@pss_cons _ _ _ _ _ (@ps_if _ _ _ _ _ _ _ _ (@pt_cmpR _ _ _ _ _ _ _ _ op_eq (@pe_ix _ _ _ _ _ _ (rIxT K) ix_tup (pv 0) pe_int (fun _ _ => rfl)) pe_str (nomark _)) (@pss_one _ _ _ (@ps_ret _ _ _ _ (pe_make T.mkN GN hr2 rfl T.gN T.bN .nil pass0 (@pa_cons _ _ _ _ _ (@pe_ix _ _ _ _ _ _ (rIxT K) ix_tup (pv 0) pe_int (fun _ _ => rfl)) pa_nil (by rfl))))) pss_nil) (@pss_cons _ _ _ _ _ (@ps_if _ _ _ _ _ _ _ _ (@pt_cmpR _ _ _ _ _ _ _ _ op_eq (@pe_ix _ _ _ _ _ _ (rIxT K) ix_tup (pv 0) pe_int (fun _ _ => rfl)) pe_str (nomark _)) (@pss_one _ _ _ (@ps_ret _ _ _ _ (pe_make T.mkM GM hr2 rfl T.gM T.bM .nil pass0 (@pa_cons _ _ _ _ _ (@pe_ix _ _ _ _ _ _ (rIxT K) ix_tup (pv 0) pe_int (fun _ _ => rfl)) pa_nil (by rfl))))) pss_nil) (@pss_cons _ _ _ _ _ (@ps_set _ _ 1 _ _ _ _ scHand.nd rfl (Or.inl rfl) (pe_call GH hr (by rfl) mH F.kp bH .nil pass0 (@pa_cons _ _ _ _ _ (@pe_ix _ _ _ _ _ _ (rIxT K) ix_tup (pv 0) pe_int (fun _ _ => rfl)) pa_nil (by rfl))) rfl (Or.inl rfl)) (@pss_cons _ _ _ _ _ (@ps_set _ _ 2 _ _ _ _ scHand.nd rfl (Or.inl rfl) (pe_call GH hr (by rfl) mH F.kp bH .nil pass0 (@pa_cons _ _ _ _ _ (@pe_ix _ _ _ _ _ _ (rIxT K) ix_tup (pv 0) pe_int (fun _ _ => rfl)) pa_nil (by rfl))) rfl (Or.inl rfl)) (@pss_cons _ _ _ _ _ (@ps_if _ _ _ _ _ _ _ _ (@pt_cmpR _ _ _ _ _ _ _ _ op_eq (@pe_ix _ _ _ _ _ _ (rIxT K) ix_tup (pv 0) pe_int (fun _ _ => rfl)) pe_str (nomark _)) (@pss_one _ _ _ (@ps_ret _ _ _ _ (pe_make (T.mkT .plus) (GT .plus) hr2 rfl T.gP T.bT .nil pass0 (@pa_cons _ _ _ _ _ (pv 1) (@pa_cons _ _ _ _ _ (pv 2) pa_nil (by rfl)) (by rfl))))) pss_nil) (@pss_cons _ _ _ _ _ (@ps_if _ _ _ _ _ _ _ _ (@pt_cmpR _ _ _ _ _ _ _ _ op_eq (@pe_ix _ _ _ _ _ _ (rIxT K) ix_tup (pv 0) pe_int (fun _ _ => rfl)) pe_str (nomark _)) (@pss_one _ _ _ (@ps_ret _ _ _ _ (pe_make (T.mkT .minus) (GT .minus) hr2 rfl T.gI T.bT .nil pass0 (@pa_cons _ _ _ _ _ (pv 1) (@pa_cons _ _ _ _ _ (pv 2) pa_nil (by rfl)) (by rfl))))) pss_nil) (@pss_one _ _ _ (@ps_ret _ _ _ _ (pe_make (T.mkT .times) (GT .times) hr2 rfl T.gX T.bT .nil pass0 (@pa_cons _ _ _ _ _ (pv 1) (@pa_cons _ _ _ _ _ (pv 2) pa_nil (by rfl)) (by rfl))))))))))), ?_⟩
    cases t with
    | num m =>
      obtain ⟨p, rfl, ht⟩ := is_num it
      refine ⟨_, rfl, p, _, _, _, rfl, rfl, ht, atI_nat (j := 0) rfl, rfl, _, rfl, ite2 (fun _ => ?_) (fun c => absurd (decide_eq_true rfl) c)⟩
      refine ⟨_, rfl, p, _, _, _, rfl, rfl, ht, atI_nat (j := 1) rfl, fun x dx hx hd hxd => ?_⟩
      refine ⟨x, dx, _, rfl, upd_same, rfl, q x _ ?_ ⟨x, dx, rfl, upd_same⟩⟩
      intro b u e
      rw [upd_ne (ne_of_none e hx)]
      exact same_made hx hd hxd _ _ b u e
    | nam m =>
      obtain ⟨p, rfl, ht⟩ := is_nam it
      refine ⟨_, rfl, p, _, _, _, rfl, rfl, ht, atI_nat (j := 0) rfl, rfl, _, rfl, ite2 (fun c => absurd (of_decide_eq_true c) (by decide +kernel)) (fun _ => ?_)⟩
      refine ⟨_, rfl, p, _, _, _, rfl, rfl, ht, atI_nat (j := 0) rfl, rfl, _, rfl, ite2 (fun _ => ?_) (fun c => absurd (decide_eq_true rfl) c)⟩
      refine ⟨_, rfl, p, _, _, _, rfl, rfl, ht, atI_nat (j := 1) rfl, fun x dx hx hd hxd => ?_⟩
      refine ⟨x, dx, _, rfl, upd_same, rfl, q x _ ?_ ⟨x, dx, rfl, upd_same⟩⟩
      intro b u e
      rw [upd_ne (ne_of_none e hx)]
      exact same_made hx hd hxd _ _ b u e
    | op g a b =>
      obtain ⟨p, va, vb, rfl, ht, ia, ib⟩ := is_op it
      have hn : max (dp a) (dp b) + 1 < n + 1 := hn
      have n1 : ¬ V.str (sgS g) = V.str "number" := by cases g <;> decide +kernel
      have n2 : ¬ V.str (sgS g) = V.str "name" := by cases g <;> decide +kernel
      refine ⟨_, rfl, p, _, _, _, rfl, rfl, ht, atI_nat (j := 0) rfl, rfl, _, rfl, ite2 (fun c => absurd (of_decide_eq_true c) n1) (fun _ => ?_)⟩
      refine ⟨_, rfl, p, _, _, _, rfl, rfl, ht, atI_nat (j := 0) rfl, rfl, _, rfl, ite2 (fun c => absurd (of_decide_eq_true c) n2) (fun _ => ?_)⟩
      refine ⟨_, rfl, p, _, _, _, rfl, rfl, ht, atI_nat (j := 1) rfl, va, a, rfl, ia, by omega, fun p1 H1 s1 o1 => ?_⟩
      refine ⟨_, rfl, p, _, _, _, rfl, rfl, s1.tup ht, atI_nat (j := 2) rfl, vb, b, rfl, ib.same s1, by omega, fun p2 H2 s2 o2 => ?_⟩
      have ht2 := s2.tup (s1.tup ht)
      have fin : ∀ (x dx : Addr), H2 x = none → H2 dx = none → dx ≠ x → spTwoI (CK (.op g)) [.ref x, .ref p1, .ref p2] (upd (upd H2 dx (.own x)) x (.ins (CK (.op g)) dx [])) (fun v H3 => v = .non ∧ Q (.ref x) H3) E0 := by
        intro x dx hx hd hxd
        refine ⟨x, dx, _, _, rfl, upd_same, fun H3 h3 h4 => ⟨rfl, ?_⟩⟩
        have s3 : Same H2 H3 := by
          intro b' u e
          rw [h4 b' (ne_of_none e hx)]
          exact same_made hx hd hxd _ _ b' u e
        exact q x H3 (s1.trans (s2.trans s3)) ⟨x, dx, _, _, rfl, h3, o1.same (s2.trans s3), o2.same s3⟩
      cases g with
      | plus =>
        refine ⟨_, rfl, p, _, _, _, rfl, rfl, ht2, atI_nat (j := 0) rfl, rfl, _, rfl, ite2 (fun _ => ?_) (fun c => absurd (decide_eq_true rfl) c)⟩
        exact ⟨_, rfl, _, rfl, fin⟩
      | minus =>
        refine ⟨_, rfl, p, _, _, _, rfl, rfl, ht2, atI_nat (j := 0) rfl, rfl, _, rfl, ite2 (fun c => absurd (of_decide_eq_true c) (by decide +kernel)) (fun _ => ?_)⟩
        refine ⟨_, rfl, p, _, _, _, rfl, rfl, ht2, atI_nat (j := 0) rfl, rfl, _, rfl, ite2 (fun _ => ?_) (fun c => absurd (decide_eq_true rfl) c)⟩
        exact ⟨_, rfl, _, rfl, fin⟩
      | times =>
        refine ⟨_, rfl, p, _, _, _, rfl, rfl, ht2, atI_nat (j := 0) rfl, rfl, _, rfl, ite2 (fun c => absurd (of_decide_eq_true c) (by decide +kernel)) (fun _ => ?_)⟩
        refine ⟨_, rfl, p, _, _, _, rfl, rfl, ht2, atI_nat (j := 0) rfl, rfl, _, rfl, ite2 (fun c => absurd (of_decide_eq_true c) (by decide +kernel)) (fun _ => ?_)⟩
        exact ⟨_, rfl, _, rfl, fin⟩
end
end Nw

set_option Elab.async false
set_option linter.all false
set_option maxRecDepth 100000
set_option maxHeartbeats 4000000
namespace Nw
open PySem L2
/-! ### changes -/
inductive Kc where
  | cha | put | any
inductive Ch where
  | cha (n : Str) | put (n : Str) (t : Tr) | any (n : Str) (t u : Tr)
def kc : Ch → Kc
  | .cha _ => .cha
  | .put _ _ => .put
  | .any _ _ _ => .any
def chN : Ch → Str
  | .cha n => n
  | .put n _ => n
  | .any n _ _ => n
def ccOf (CC CU CA : Addr) : Kc → Addr
  | .cha => CC
  | .put => CU
  | .any => CA
def putFd (n o : V) : List (Str × V) := putF "one" o (namF n)
def anyFd (n a b : V) : List (Str × V) := putF "other" b (putF "one" a (namF n))
structure ClsC (K : PySem.W.Frag) (CC : Kc → Addr) : Prop where
  cl : ∀ k, Cls K (CC k)
  nm : ∀ k, NoAttr K (CC k) "name"
  p1 : NoAttr K (CC .put) "one"
  a1 : NoAttr K (CC .any) "one"
  a2 : NoAttr K (CC .any) "other"
def ObjC (CK : Kd → Addr) (CC : Kc → Addr) (H : Hp) : Ch → V → Prop
  | .cha n, v => ∃ p dx, v = .ref p ∧ H p = some (.ins (CC .cha) dx (namF (.str n)))
  | .put n t, v => ∃ p dx o, v = .ref p ∧ H p = some (.ins (CC .put) dx (putFd (.str n) o)) ∧ Obj CK H t o
  | .any n t u, v => ∃ p dx a b, v = .ref p ∧ H p = some (.ins (CC .any) dx (anyFd (.str n) a b)) ∧ Obj CK H t a ∧ Obj CK H u b
theorem ObjC.same {CK : Kd → Addr} {CC : Kc → Addr} {H H' : Hp} (s : Same H H') : ∀ {c : Ch} {v : V}, ObjC CK CC H c v → ObjC CK CC H' c v
  | .cha n, v, h => by obtain ⟨p, dx, e, h⟩ := h; exact ⟨p, dx, e, s _ _ h⟩
  | .put n t, v, h => by obtain ⟨p, dx, o, e, h, h1⟩ := h; exact ⟨p, dx, o, e, s _ _ h, h1.same s⟩
  | .any n t u, v, h => by obtain ⟨p, dx, a, b, e, h, h1, h2⟩ := h; exact ⟨p, dx, a, b, e, s _ _ h, h1.same s, h2.same s⟩
def FitsC (l : List Str) (n : Nat) : Ch → Prop
  | .cha _ => True
  | .put _ t => Fits l t ∧ lv t ≤ 100 ∧ dp t < n
  | .any _ t u => (Fits l t ∧ lv t ≤ 100 ∧ dp t < n) ∧ Fits l u ∧ lv u ≤ 100 ∧ dp u < n
section
variable {P : Program} {w : World} {K : PySem.W.Frag} {mg : Str → Option Value} {base : Heap} {CK : Kd → Addr} {CC : Kc → Addr}
/-! ### making -/
def spChaI (C : Addr) : Sp := fun vs H Q _ => ∃ (x dx : Addr) (v : V), vs = [.ref x, v] ∧ H x = some (.ins C dx []) ∧ Q .non (upd H x (.ins C dx (namF v)))
theorem scChaI : FnScope ["self", "name"] ["self", "name"] (defScope sChaI) := ⟨rfl, rfl, rfl, by decide +kernel, rfl, by decide +kernel, by decide +kernel⟩
theorem ok_chaI {f : Addr} {fd : FuncData} (c : ClsC K CC) (F : Fun K "__init__" "Change.__init__" sChaI f fd) (k : Kc) : FnOk P w K mg base CX0 1 f fd ["self", "name"] (spChaI (CC k)) := by
  refine F.ok scChaI (fun vs H Q E h => ?_) (fun cdv A outer s H vs Q E hr h => ?_)
  · obtain ⟨x, dx, v, rfl, _⟩ := h
    rfl
  obtain ⟨x, dx, v, rfl, hx, q⟩ := h
  refine ⟨_, (@pss_one _ _ _ (@ps_fld _ _ _ _ _ _ _ _ (pv 0) (pv 1) rfl)), ?_⟩
  exact ⟨_, rfl, _, rfl, x, _, dx, _, rfl, hx, c.cl _, c.nm _, (by show 0 < 1000; decide), q⟩
def spPutI (C : Addr) : Sp := fun vs H Q _ => ∃ (x dx : Addr) (n o : V), vs = [.ref x, n, o] ∧ H x = some (.ins C dx []) ∧ ∀ H', H' x = some (.ins C dx (putFd n o)) → (∀ b, b ≠ x → H' b = H b) → Q .non H'
theorem scPutI : FnScope ["self", "name", "one"] ["self", "name", "one"] (defScope sPutI) := ⟨rfl, rfl, rfl, by decide +kernel, rfl, by decide +kernel, by decide +kernel⟩
theorem ok_putI {f fC : Addr} {fd fdC : FuncData} (c : ClsC K CC) (F : Fun K "__init__" "Put.__init__" sPutI f fd) (FC : Fun K "__init__" "Change.__init__" sChaI fC fdC) (bC : Binds K fdC ["self", "name"] []) (gC : mg "Change" = some (.ref (CC .cha))) (M : CMeth K (CC .cha) "__init__" fC) : FnOk P w K mg base CX0 2 f fd ["self", "name", "one"] (spPutI (CC .put)) := by
  have GC : FnOk P w K mg base CX0 1 fC fdC ["self", "name"] (spChaI (CC .put)) := ok_chaI c FC .put
  refine F.ok scPutI (fun vs H Q E h => ?_) (fun cdv A outer s H vs Q E hr h => ?_)
  · obtain ⟨x, dx, n, o, rfl, _⟩ := h
    rfl
  obtain ⟨x, dx, n, o, rfl, hx, q⟩ := h
  refine ⟨_, (@pss_cons _ _ _ _ _ (@ps_expr _ _ _ _ (pe_callC rfl gC M GC hr bC .nil pass0 (@pa_cons _ _ _ _ _ (pv 0) (@pa_cons _ _ _ _ _ (pv 1) pa_nil (by rfl)) (by rfl))) (by rfl)) (@pss_one _ _ _ (@ps_fld _ _ _ _ _ _ _ _ (pv 0) (pv 2) rfl))), ?_⟩
  refine ⟨_, rfl, _, rfl, x, dx, n, rfl, hx, ?_⟩
  refine ⟨_, rfl, _, rfl, x, _, dx, _, rfl, upd_same, c.cl _, c.p1, Nat.lt_of_le_of_lt (length_putF _ _ _) (by show 1 < 1000; decide), ?_⟩
  exact q _ upd_same fun b hb => by rw [upd_ne hb, upd_ne hb]
def spAnyI (C : Addr) : Sp := fun vs H Q _ => ∃ (x dx : Addr) (n o u : V), vs = [.ref x, n, o, u] ∧ H x = some (.ins C dx []) ∧ ∀ H', H' x = some (.ins C dx (anyFd n o u)) → (∀ b, b ≠ x → H' b = H b) → Q .non H'
theorem scAnyI : FnScope ["self", "name", "one", "other"] ["self", "name", "one", "other"] (defScope sAnyI) := ⟨rfl, rfl, rfl, by decide +kernel, rfl, by decide +kernel, by decide +kernel⟩
theorem ok_anyI {f fC : Addr} {fd fdC : FuncData} (c : ClsC K CC) (F : Fun K "__init__" "Any.__init__" sAnyI f fd) (FC : Fun K "__init__" "Change.__init__" sChaI fC fdC) (bC : Binds K fdC ["self", "name"] []) (gC : mg "Change" = some (.ref (CC .cha))) (M : CMeth K (CC .cha) "__init__" fC) : FnOk P w K mg base CX0 2 f fd ["self", "name", "one", "other"] (spAnyI (CC .any)) := by
  have GC : FnOk P w K mg base CX0 1 fC fdC ["self", "name"] (spChaI (CC .any)) := ok_chaI c FC .any
  refine F.ok scAnyI (fun vs H Q E h => ?_) (fun cdv A outer s H vs Q E hr h => ?_)
  · obtain ⟨x, dx, n, o, u, rfl, _⟩ := h
    rfl
  obtain ⟨x, dx, n, o, u, rfl, hx, q⟩ := h
  refine ⟨_, (@pss_cons _ _ _ _ _ (@ps_expr _ _ _ _ (pe_callC rfl gC M GC hr bC .nil pass0 (@pa_cons _ _ _ _ _ (pv 0) (@pa_cons _ _ _ _ _ (pv 1) pa_nil (by rfl)) (by rfl))) (by rfl)) (@pss_cons _ _ _ _ _ (@ps_fld _ _ _ _ _ _ _ _ (pv 0) (pv 2) rfl) (@pss_one _ _ _ (@ps_fld _ _ _ _ _ _ _ _ (pv 0) (pv 3) rfl)))), ?_⟩
  refine ⟨_, rfl, _, rfl, x, dx, n, rfl, hx, ?_⟩
  refine ⟨_, rfl, _, rfl, x, _, dx, _, rfl, upd_same, c.cl _, c.a1, Nat.lt_of_le_of_lt (length_putF _ _ _) (by show 1 < 1000; decide), ?_⟩
  refine ⟨_, rfl, _, rfl, x, _, dx, _, rfl, upd_same, c.cl _, c.a2, Nat.lt_of_le_of_lt (length_putF _ _ _) (Nat.lt_of_le_of_lt (Nat.succ_le_succ (length_putF _ _ _)) (by show 2 < 1000; decide)), ?_⟩
  exact q _ upd_same fun b hb => by rw [upd_ne hb, upd_ne hb, upd_ne hb]
def spWhole : Sp := fun vs H Q _ => ∃ i : Int, vs = [.int i] ∧ Q (.bl true) H
theorem scWhole : FnScope ["_law_found"] ["_law_found"] (defScope sWhole) := ⟨rfl, rfl, rfl, by decide +kernel, rfl, by decide +kernel, by decide +kernel⟩
theorem ok_whole {f : Addr} {fd : FuncData} (B : Bl mg) (F : Fun K "_law_whole" "_law_whole" sWhole f fd) : FnOk P w K mg base CX0 1 f fd ["_law_found"] spWhole := by
  refine F.ok scWhole (fun vs H Q E h => ?_) (fun cdv A outer s H vs Q E hr h => ?_)
  · obtain ⟨i, rfl, _⟩ := h
    rfl
  obtain ⟨i, rfl, k⟩ := h
  refine ⟨_, (@pss_one _ _ _ (@ps_ret _ _ _ _ (@pe_and _ _ _ _ _ _ _ (pe_callB call_isinst (by rfl) B.isinstance PyProof.Rows.boot_isinstance (@pa_cons _ _ _ _ _ (pv 0) (@pa_cons _ _ _ _ _ (pe_bltn (v := V.ty "int") (by rfl) B.int PyProof.Rows.boot_int (by rfl)) pa_nil (by rfl)) (by rfl))) (@pe_one _ _ _ _ _ (@pe_not _ _ _ _ (pe_callB call_isinst (by rfl) B.isinstance PyProof.Rows.boot_isinstance (@pa_cons _ _ _ _ _ (pv 0) (@pa_cons _ _ _ _ _ (pe_bltn (v := V.ty "bool") (by rfl) B.bool PyProof.Rows.boot_bool (by rfl)) pa_nil (by rfl)) (by rfl)))))))), ?_⟩
  refine ⟨_, rfl, _, _, _, _, rfl, TyOf.int i, rfl, _, rfl, ?_⟩
  rw [if_pos rfl]
  exact ⟨_, rfl, _, _, _, false, rfl, TyOf.int i, rfl, _, rfl, k⟩
end
end Nw

set_option Elab.async false
set_option linter.all false
set_option maxRecDepth 100000
set_option maxHeartbeats 4000000
namespace Nw
open PySem L2
/-! ### sayings -/
inductive Cm where
  | lt | le | eq | ne
inductive Bn where
  | and | or
inductive Sy where
  | yes | cmp (c : Cm) (l r : Tr) | neg (s : Sy) | bin (b : Bn) (l r : Sy)
def cmS : Cm → Str
  | .lt => "<"
  | .le => "<="
  | .eq => "="
  | .ne => "!="
def bnS : Bn → Str
  | .and => "and"
  | .or => "or"
def syD : Sy → Dt
  | .yes => .tup [.str "yes"]
  | .cmp c l r => .tup [.str (cmS c), trD l, trD r]
  | .neg s => .tup [.str "not", syD s]
  | .bin b l r => .tup [.str (bnS b), syD l, syD r]
def dps : Sy → Nat
  | .yes => 0
  | .cmp _ _ _ => 0
  | .neg s => dps s + 1
  | .bin _ l r => max (dps l) (dps r) + 1
def FitsS (l : List Str) : Sy → Prop
  | .yes => True
  | .cmp _ a b => Fits l a ∧ Fits l b ∧ lv a ≤ 9 ∧ lv b ≤ 9
  | .neg s => FitsS l s
  | .bin _ a b => FitsS l a ∧ FitsS l b
theorem is_yes {K : PySem.W.Frag} {H : Hp} {v : V} (h : Is K H (syD .yes) v) : ∃ p, v = .ref p ∧ SqT K H p [.str "yes"] := by
  rw [syD, Is] at h
  obtain ⟨p, xs, e, h1, h2⟩ := h
  simp only [Iss, Is] at h2
  obtain ⟨v1, r1, rfl, rfl, rfl⟩ := h2
  exact ⟨p, e, h1⟩
theorem is_cmp {K : PySem.W.Frag} {H : Hp} {g : Cm} {l r : Tr} {v : V} (h : Is K H (syD (.cmp g l r)) v) : ∃ p a b, v = .ref p ∧ SqT K H p [.str (cmS g), a, b] ∧ Is K H (trD l) a ∧ Is K H (trD r) b := by
  rw [syD, Is] at h
  obtain ⟨p, xs, e, h1, h2⟩ := h
  simp only [Iss] at h2
  obtain ⟨v1, r1, rfl, i1, v2, r2, rfl, i2, v3, r3, rfl, i3, rfl⟩ := h2
  rw [Is] at i1
  subst i1
  exact ⟨p, v2, v3, e, h1, i2, i3⟩
theorem is_neg {K : PySem.W.Frag} {H : Hp} {s : Sy} {v : V} (h : Is K H (syD (.neg s)) v) : ∃ p a, v = .ref p ∧ SqT K H p [.str "not", a] ∧ Is K H (syD s) a := by
  rw [syD, Is] at h
  obtain ⟨p, xs, e, h1, h2⟩ := h
  simp only [Iss] at h2
  obtain ⟨v1, r1, rfl, i1, v2, r2, rfl, i2, rfl⟩ := h2
  rw [Is] at i1
  subst i1
  exact ⟨p, v2, e, h1, i2⟩
theorem is_bin {K : PySem.W.Frag} {H : Hp} {g : Bn} {l r : Sy} {v : V} (h : Is K H (syD (.bin g l r)) v) : ∃ p a b, v = .ref p ∧ SqT K H p [.str (bnS g), a, b] ∧ Is K H (syD l) a ∧ Is K H (syD r) b := by
  rw [syD, Is] at h
  obtain ⟨p, xs, e, h1, h2⟩ := h
  simp only [Iss] at h2
  obtain ⟨v1, r1, rfl, i1, v2, r2, rfl, i2, v3, r3, rfl, i3, rfl⟩ := h2
  rw [Is] at i1
  subst i1
  exact ⟨p, v2, v3, e, h1, i2, i3⟩
theorem sy_yes {K : PySem.W.Frag} {H : Hp} {p : Addr} (h : SqT K H p [.str "yes"]) : Is K H (syD .yes) (.ref p) := by
  rw [syD, Is]
  exact ⟨p, _, rfl, h, .cons (by rw [Is]) .nil⟩
theorem sy_cmp {K : PySem.W.Frag} {H : Hp} {p : Addr} {g : Cm} {l r : Tr} {a b : V} (h : SqT K H p [.str (cmS g), a, b]) (h1 : Is K H (trD l) a) (h2 : Is K H (trD r) b) : Is K H (syD (.cmp g l r)) (.ref p) := by
  rw [syD, Is]
  exact ⟨p, _, rfl, h, .cons (by rw [Is]) (.cons h1 (.cons h2 .nil))⟩
theorem sy_neg {K : PySem.W.Frag} {H : Hp} {p : Addr} {s : Sy} {a : V} (h : SqT K H p [.str "not", a]) (h1 : Is K H (syD s) a) : Is K H (syD (.neg s)) (.ref p) := by
  rw [syD, Is]
  exact ⟨p, _, rfl, h, .cons (by rw [Is]) (.cons h1 .nil)⟩
theorem sy_bin {K : PySem.W.Frag} {H : Hp} {p : Addr} {g : Bn} {l r : Sy} {a b : V} (h : SqT K H p [.str (bnS g), a, b]) (h1 : Is K H (syD l) a) (h2 : Is K H (syD r) b) : Is K H (syD (.bin g l r)) (.ref p) := by
  rw [syD, Is]
  exact ⟨p, _, rfl, h, .cons (by rw [Is]) (.cons h1 (.cons h2 .nil))⟩
theorem sy_sb {K : PySem.W.Frag} {a : Addr} {H H' : Hp} {ys : List V} (ha : H a = some (.lst ys)) (s : Sb a H H') : ∀ {t : Sy} {v : V}, Is K H (syD t) v → Is K H' (syD t) v
  | .yes, v, h => by
    obtain ⟨p, rfl, h1⟩ := is_yes h
    exact sy_yes (SqT.sb h1 ha s)
  | .cmp g l r, v, h => by
    obtain ⟨p, x, y, rfl, h1, h2, h3⟩ := is_cmp h
    exact sy_cmp (SqT.sb h1 ha s) (tr_sb ha s h2) (tr_sb ha s h3)
  | .neg t, v, h => by
    obtain ⟨p, x, rfl, h1, h2⟩ := is_neg h
    exact sy_neg (SqT.sb h1 ha s) (sy_sb ha s h2)
  | .bin g l r, v, h => by
    obtain ⟨p, x, y, rfl, h1, h2, h3⟩ := is_bin h
    exact sy_bin (SqT.sb h1 ha s) (sy_sb ha s h2) (sy_sb ha s h3)
theorem cm_at {k : Int} (k0 : 0 ≤ k) (k1 : k < 4) : ∃ g : Cm, atI [V.str "<", V.str "<=", V.str "=", V.str "!="] k = some (.str (cmS g)) := by
  have : k = 0 ∨ k = 1 ∨ k = 2 ∨ k = 3 := by omega
  rcases this with rfl | rfl | rfl | rfl
  · exact ⟨.lt, atI_nat (j := 0) rfl⟩
  · exact ⟨.le, atI_nat (j := 1) rfl⟩
  · exact ⟨.eq, atI_nat (j := 2) rfl⟩
  · exact ⟨.ne, atI_nat (j := 3) rfl⟩
theorem bn_at {k : Int} (k0 : 0 ≤ k) (k1 : k < 2) : ∃ g : Bn, atI [V.str "and", V.str "or"] k = some (.str (bnS g)) := by
  have : k = 0 ∨ k = 1 := by omega
  rcases this with rfl | rfl
  · exact ⟨.and, atI_nat (j := 0) rfl⟩
  · exact ⟨.or, atI_nat (j := 1) rfl⟩
section
variable {P : Program} {w : World} {K : PySem.W.Frag} {mg : Str → Option Value} {base : Heap}
def spSay (K : PySem.W.Frag) (n : Nat) : Sp := fun vs H Q _ => ∃ (a b : Addr) (s1 near d : Int) (l : List Str), vs = [.ref a, .ref b, .int near, .int d] ∧ StAt H a b s1 l ∧ l.length ≤ 8 ∧ 0 ≤ d ∧ d.toNat < n ∧
  ∀ (p : Addr) (H' : Hp) (t : Sy), Sb a H H' → StAt H' a b s1 l → Is K H' (syD t) (.ref p) → FitsS l t → dps t ≤ d.toNat → Q (.ref p) H'
theorem scSay : FnScope ["_law_state", "_law_names_here", "_law_near", "_law_depth", "_law_kind", "_law_sign", "_law_one", "_law_word"] ["_law_state", "_law_names_here", "_law_near", "_law_depth"] (defScope sSaying) := ⟨rfl, rfl, rfl, by decide +kernel, rfl, by decide +kernel, by decide +kernel⟩
theorem ok_say {f fS fD : Addr} {fd fdS fdD : FuncData} (B : Bl mg) (F : Fun K "_law_saying" "_law_saying" sSaying f fd) (bY : Binds K fd ["_law_state", "_law_names_here", "_law_near", "_law_depth"] []) (mY : mg "_law_saying" = some (.ref f))
    (FS : Fun K "_law_sum" "_law_sum" sSum fS fdS) (bS : Binds K fdS ["_law_state", "_law_names_here", "_law_near", "_law_depth"] []) (mS : mg "_law_sum" = some (.ref fS))
    (FD : Fun K "_law_draw" "_law_draw" sDraw fD fdD) (bD : Binds K fdD ["_law_state", "_law_many"] []) (mD : mg "_law_draw" = some (.ref fD)) : ∀ n : Nat, FnOk P w K mg base CX0 (n + 7) f fd ["_law_state", "_law_names_here", "_law_near", "_law_depth"] (spSay K n)
  | 0 => fn_none fun vs H Q E h => by obtain ⟨a, b, s1, near, d, l, _, _, _, _, h1, _⟩ := h; omega
  | n + 1 => by
    have GD : FnOk P w K mg base CX0 1 fD fdD ["_law_state", "_law_many"] spDraw := ok_draw FD
    have GS : FnOk P w K mg base CX0 6 fS fdS ["_law_state", "_law_names_here", "_law_near", "_law_depth"] (spSum K 4) := ok_sum B FS bS mS FD bD mD 4
    have GY := ok_say B F bY mY FS bS mS FD bD mD n
    refine F.ok scSay (fun vs H Q E h => ?_) (fun cdv A outer s H vs Q E hr h => ?_)
    · obtain ⟨a, b, s1, near, d, l, rfl, _⟩ := h
      rfl
    obtain ⟨a, b, s1, near, d, l, rfl, S, l8, d0, hn, q⟩ := h
    have hrD := hr.mono (show 1 ≤ n + 7 by omega)
    have hrS := hr.mono (show 6 ≤ n + 7 by omega)
    refine ⟨_, (@pss_cons _ _ _ _ _ (@ps_set _ _ 4 _ _ _ _ scSay.nd rfl (Or.inl rfl) (pe_call GD hrD (by rfl) mD FD.kp bD .nil pass0 (@pa_cons _ _ _ _ _ (pv 0) (@pa_cons _ _ _ _ _ pe_int pa_nil (by rfl)) (by rfl))) rfl (Or.inl rfl)) (@pss_cons _ _ _ _ _ (@ps_if _ _ _ _ _ _ _ _ (@pt_cmpR _ _ _ _ _ _ _ _ op_eq (pv 4) pe_int (nomark _)) (@pss_one _ _ _ (@ps_ret _ _ _ _ (@pe_tup _ _ _ _ _ (@pa_cons _ _ _ _ _ pe_str pa_nil (by rfl))))) pss_nil) (@pss_cons _ _ _ _ _ (@ps_if _ _ _ _ _ _ _ _ (@pt_cut _ _ _ ((@pw_or _ _ _ _ _ _ _ (@pt_cmpR _ _ _ _ _ _ _ _ op_lt (pv 4) pe_int (nomark _)) (pw_or1 (@pt_cmpR _ _ _ _ _ _ _ _ op_eq (pv 3) pe_int (nomark _))))).pt) (@pss_cons _ _ _ _ _ (@ps_set _ _ 5 _ _ _ _ scSay.nd rfl (Or.inl rfl) (@pe_ix _ _ _ _ _ _ (rIxL K) ix_list (@pe_lst _ _ _ _ (@pa_strs _ _ ["<", "<=", "=", "!="] rfl)) (pe_call GD hrD (by rfl) mD FD.kp bD .nil pass0 (@pa_cons _ _ _ _ _ (pv 0) (@pa_cons _ _ _ _ _ pe_int pa_nil (by rfl)) (by rfl))) (fun _ _ => rfl)) rfl (Or.inl rfl)) (@pss_cons _ _ _ _ _ (@ps_set _ _ 6 _ _ _ _ scSay.nd rfl (Or.inl rfl) (pe_call GS hrS (by rfl) mS FS.kp bS .nil pass0 (@pa_cons _ _ _ _ _ (pv 0) (@pa_cons _ _ _ _ _ (pv 1) (@pa_cons _ _ _ _ _ (pv 2) (@pa_cons _ _ _ _ _ pe_int pa_nil (by rfl)) (by rfl)) (by rfl)) (by rfl))) rfl (Or.inl rfl)) (@pss_one _ _ _ (@ps_ret _ _ _ _ (@pe_tup _ _ _ _ _ (@pa_cons _ _ _ _ _ (pv 5) (@pa_cons _ _ _ _ _ (pv 6) (@pa_cons _ _ _ _ _ (pe_call GS hrS (by rfl) mS FS.kp bS .nil pass0 (@pa_cons _ _ _ _ _ (pv 0) (@pa_cons _ _ _ _ _ (pv 1) (@pa_cons _ _ _ _ _ (pv 2) (@pa_cons _ _ _ _ _ pe_int pa_nil (by rfl)) (by rfl)) (by rfl)) (by rfl))) pa_nil (by rfl)) (by rfl)) (by rfl))))))) pss_nil) (@pss_cons _ _ _ _ _ (@ps_if _ _ _ _ _ _ _ _ (@pt_cmpR _ _ _ _ _ _ _ _ op_eq (pv 4) pe_int (nomark _)) (@pss_one _ _ _ (@ps_ret _ _ _ _ (@pe_tup _ _ _ _ _ (@pa_cons _ _ _ _ _ pe_str (@pa_cons _ _ _ _ _ (pe_call GY hr (by rfl) mY F.kp bY .nil pass0 (@pa_cons _ _ _ _ _ (pv 0) (@pa_cons _ _ _ _ _ (pv 1) (@pa_cons _ _ _ _ _ (pv 2) (@pa_cons _ _ _ _ _ (@pe_op _ _ _ _ _ _ _ _ op_sub (pv 3) pe_int) pa_nil (by rfl)) (by rfl)) (by rfl)) (by rfl))) pa_nil (by rfl)) (by rfl))))) pss_nil) (@pss_cons _ _ _ _ _ (@ps_set _ _ 7 _ _ _ _ scSay.nd rfl (Or.inl rfl) (@pe_ix _ _ _ _ _ _ (rIxL K) ix_list (@pe_lst _ _ _ _ (@pa_cons _ _ _ _ _ pe_str (@pa_cons _ _ _ _ _ pe_str pa_nil (by rfl)) (by rfl))) (pe_call GD hrD (by rfl) mD FD.kp bD .nil pass0 (@pa_cons _ _ _ _ _ (pv 0) (@pa_cons _ _ _ _ _ pe_int pa_nil (by rfl)) (by rfl))) (fun _ _ => rfl)) rfl (Or.inl rfl)) (@pss_cons _ _ _ _ _ (@ps_set _ _ 6 _ _ _ _ scSay.nd rfl (Or.inl rfl) (pe_call GY hr (by rfl) mY F.kp bY .nil pass0 (@pa_cons _ _ _ _ _ (pv 0) (@pa_cons _ _ _ _ _ (pv 1) (@pa_cons _ _ _ _ _ (pv 2) (@pa_cons _ _ _ _ _ (@pe_op _ _ _ _ _ _ _ _ op_sub (pv 3) pe_int) pa_nil (by rfl)) (by rfl)) (by rfl)) (by rfl))) rfl (Or.inl rfl)) (@pss_one _ _ _ (@ps_ret _ _ _ _ (@pe_tup _ _ _ _ _ (@pa_cons _ _ _ _ _ (pv 7) (@pa_cons _ _ _ _ _ (pv 6) (@pa_cons _ _ _ _ _ (pe_call GY hr (by rfl) mY F.kp bY .nil pass0 (@pa_cons _ _ _ _ _ (pv 0) (@pa_cons _ _ _ _ _ (pv 1) (@pa_cons _ _ _ _ _ (pv 2) (@pa_cons _ _ _ _ _ (@pe_op _ _ _ _ _ _ _ _ op_sub (pv 3) pe_int) pa_nil (by rfl)) (by rfl)) (by rfl)) (by rfl))) pa_nil (by rfl)) (by rfl)) (by rfl))))))))))), ?_⟩
    obtain ⟨s0, hs⟩ := S.st
    refine ⟨_, rfl, a, s0, s1, 8, rfl, hs, by decide, by decide, fun kd z0 k0 k1 => ?_⟩
    have S1 := S.put z0
    have b1 := Sb.upd a H (.lst [.int z0, .int s1])
    generalize upd H a (.lst [.int z0, .int s1]) = H1 at S1 b1 ⊢
    refine ⟨_, rfl, rfl, _, rfl, ite2 (fun _ => ?_) (fun _ => ?_)⟩
    · refine ⟨by show 1 ≤ sizeLine; decide, fun p hp => ?_⟩
      have sp := same_new hp (.tup [V.str "yes"])
      exact q p _ .yes (b1.trans (.of sp)) (S1.same sp) (sy_yes (SqT.of upd_same)) trivial (Nat.zero_le _)
    refine ⟨fun c H' => H' = H1 ∧ (c = false → 0 < d), ?_, ?_⟩
    · refine ⟨_, rfl, _, _, rfl, rfl, _, rfl, ite2 (fun _ => ⟨rfl, fun z => by cases z⟩) (fun _ => ?_)⟩
      refine ⟨_, rfl, rfl, _, rfl, rfl, fun e => ?_⟩
      have e : ¬ V.int d = V.int 0 := of_decide_eq_false e
      have e : d ≠ 0 := fun z => e (by rw [z])
      omega
    rintro c H2 ⟨rfl, hc⟩
    obtain ⟨w0, hw⟩ := S1.st
    cases c with
    | true =>
      refine iteT ⟨by show 4 ≤ sizeLine; decide, fun sl hsl => ?_⟩
      have t3 := same_new hsl (.lst ([("<" : Str), "<=", "=", "!="].map V.str))
      have S3 := S1.same t3
      have b3 := b1.trans (.of t3)
      have esl : upd H2 sl (.lst ([("<" : Str), "<=", "=", "!="].map V.str)) sl = some (.lst ([("<" : Str), "<=", "=", "!="].map V.str)) := upd_same
      generalize upd H2 sl (.lst ([("<" : Str), "<=", "=", "!="].map V.str)) = H3 at t3 S3 b3 esl ⊢
      obtain ⟨x0, hx3⟩ := S3.st
      refine ⟨_, rfl, a, x0, s1, 4, rfl, hx3, by decide, by decide, fun r y1 r0 r1 => ?_⟩
      obtain ⟨g, hg⟩ := cm_at r0 r1
      have sa : sl ≠ a := ne_of esl hx3 (by intro z; cases z)
      refine ⟨sl, _, _, _, rfl, rfl, SqL.of (by rw [upd_ne sa]; exact esl), hg, ?_⟩
      have S4 := S3.put y1
      have b4 := b3.trans (Sb.upd a H3 (.lst [.int y1, .int s1]))
      generalize upd H3 a (.lst [.int y1, .int s1]) = H4 at S4 b4 ⊢
      refine ⟨_, rfl, _, rfl, _, rfl, a, b, s1, near, 1, l, rfl, S4, l8, by decide, by decide, fun p1 H6 t1 c1 S5 i1 f1 l1 e1 => ?_⟩
      have b5 := b4.trans c1
      refine ⟨_, rfl, _, rfl, _, rfl, _, rfl, _, rfl, a, b, s1, near, 1, l, rfl, S5, l8, by decide, by decide, fun p2 H7 t2 c2 S6 i2 f2 l2 e2 => ?_⟩
      have b6 := b5.trans c2
      obtain ⟨v0, hv⟩ := S5.st
      have i1' := tr_sb hv c2 i1
      refine ⟨by show 3 ≤ sizeLine; decide, fun p hp => ?_⟩
      have l1 : lv t1 ≤ 4 := l1
      have l2 : lv t2 ≤ 4 := l2
      exact q p _ (.cmp g t1 t2) (b6.trans (.of (same_new hp _))) (S6.same (same_new hp _)) (sy_cmp (SqT.of upd_same) (i1'.same (same_new hp _)) (i2.same (same_new hp _))) ⟨f1, f2, by omega, by omega⟩ (Nat.zero_le _)
    | false =>
      have hd := hc rfl
      refine iteF ⟨_, rfl, rfl, _, rfl, ite2 (fun _ => ?_) (fun _ => ?_)⟩
      · refine ⟨_, rfl, _, rfl, _, rfl, _, rfl, _, _, rfl, rfl, a, b, s1, near, d - 1, l, rfl, S1, l8, by omega, by omega, fun p1 H6 t1 c1 S5 i1 f1 e1 => ?_⟩
        refine ⟨by show 2 ≤ sizeLine; decide, fun p hp => ?_⟩
        have sp := same_new hp (.tup [V.str "not", .ref p1])
        exact q p _ (.neg t1) ((b1.trans c1).trans (.of sp)) (S5.same sp) (sy_neg (SqT.of upd_same) (i1.same sp)) f1 (by show dps t1 + 1 ≤ _; omega)
      refine ⟨by show 2 ≤ sizeLine; decide, fun sl hsl => ?_⟩
      have t3 := same_new hsl (.lst [V.str "and", V.str "or"])
      have S3 := S1.same t3
      have b3 := b1.trans (.of t3)
      have esl : upd H2 sl (.lst [V.str "and", V.str "or"]) sl = some (.lst [V.str "and", V.str "or"]) := upd_same
      generalize upd H2 sl (.lst [V.str "and", V.str "or"]) = H3 at t3 S3 b3 esl ⊢
      obtain ⟨x0, hx3⟩ := S3.st
      refine ⟨_, rfl, a, x0, s1, 2, rfl, hx3, by decide, by decide, fun r y1 r0 r1 => ?_⟩
      obtain ⟨g, hg⟩ := bn_at r0 r1
      have sa : sl ≠ a := ne_of esl hx3 (by intro z; cases z)
      refine ⟨sl, _, _, _, rfl, rfl, SqL.of (by rw [upd_ne sa]; exact esl), hg, ?_⟩
      have S4 := S3.put y1
      have b4 := b3.trans (Sb.upd a H3 (.lst [.int y1, .int s1]))
      generalize upd H3 a (.lst [.int y1, .int s1]) = H4 at S4 b4 ⊢
      refine ⟨_, rfl, _, rfl, _, rfl, _, rfl, _, _, rfl, rfl, a, b, s1, near, d - 1, l, rfl, S4, l8, by omega, by omega, fun p1 H6 t1 c1 S5 i1 f1 e1 => ?_⟩
      have b5 := b4.trans c1
      refine ⟨_, rfl, _, rfl, _, rfl, _, rfl, _, rfl, _, rfl, _, _, rfl, rfl, a, b, s1, near, d - 1, l, rfl, S5, l8, by omega, by omega, fun p2 H7 t2 c2 S6 i2 f2 e2 => ?_⟩
      have b6 := b5.trans c2
      obtain ⟨v0, hv⟩ := S5.st
      have i1' := sy_sb hv c2 i1
      refine ⟨by show 3 ≤ sizeLine; decide, fun p hp => ?_⟩
      exact q p _ (.bin g t1 t2) (b6.trans (.of (same_new hp _))) (S6.same (same_new hp _)) (sy_bin (SqT.of upd_same) (i1'.same (same_new hp _)) (i2.same (same_new hp _))) ⟨f1, f2⟩ (by show max (dps t1) (dps t2) + 1 ≤ _; omega)
/-! ### whether a saying holds -/
def cmB : Cm → Int → Int → Bool
  | .lt, a, b => decide (a < b)
  | .le, a, b => decide (a ≤ b)
  | .eq, a, b => decide (a = b)
  | .ne, a, b => !decide (a = b)
def bnB : Bn → Bool → Bool → Bool
  | .and, a, b => a && b
  | .or, a, b => a || b
def hol (vf : Str → Int) : Sy → Bool
  | .yes => true
  | .cmp c l r => cmB c (val vf l) (val vf r)
  | .neg s => !hol vf s
  | .bin b l r => bnB b (hol vf l) (hol vf r)
theorem dec_int (a b : Int) : decide (V.int a = V.int b) = decide (a = b) := by
  by_cases h : a = b
  · rw [h, decide_eq_true rfl, decide_eq_true rfl]
  · rw [decide_eq_false h, decide_eq_false fun z => h (V.int.inj z)]
end
end Nw

set_option Elab.async false
set_option linter.all false
set_option maxRecDepth 100000
set_option maxHeartbeats 4000000
namespace Nw
open PySem L2
/-! ### the classes of sayings -/
inductive Ks where
  | yes | cmp (c : Cm) | neg | bin (b : Bn)
def ks : Sy → Ks
  | .yes => .yes
  | .cmp c _ _ => .cmp c
  | .neg _ => .neg
  | .bin b _ _ => .bin b
def cyOf (CY CL CA CE CU CB CO CN : Addr) : Ks → Addr
  | .yes => CY
  | .cmp .lt => CL
  | .cmp .le => CA
  | .cmp .eq => CE
  | .cmp .ne => CU
  | .bin .and => CB
  | .bin .or => CO
  | .neg => CN
def oneF (a : V) : List (Str × V) := putF "one" a []
theorem one_at (a : V) : (oneF a).lookup ("one" : Str) = some a := by unfold oneF; rw [lookup_putF, if_pos rfl]
theorem one_h (a : V) : (oneF a).lookup ("holds" : Str) = none := by unfold oneF; rw [lookup_putF, if_neg (by decide +kernel)]; rfl
theorem two_h (a b : V) : (twoF a b).lookup ("holds" : Str) = none := by unfold twoF; rw [lookup_putF, if_neg (by decide +kernel), lookup_putF, if_neg (by decide +kernel)]; rfl
structure ClsS (K : PySem.W.Frag) (CY : Ks → Addr) : Prop where
  cl : ∀ k, Cls K (CY k)
  c1 : ∀ c, NoAttr K (CY (.cmp c)) "one"
  c2 : ∀ c, NoAttr K (CY (.cmp c)) "other"
  b1 : ∀ c, NoAttr K (CY (.bin c)) "one"
  b2 : ∀ c, NoAttr K (CY (.bin c)) "other"
  n1 : NoAttr K (CY .neg) "one"
def ObjS (CK : Kd → Addr) (CY : Ks → Addr) (H : Hp) : Sy → V → Prop
  | .yes, v => ∃ p dx, v = .ref p ∧ H p = some (.ins (CY .yes) dx [])
  | .cmp c l r, v => ∃ p dx a b, v = .ref p ∧ H p = some (.ins (CY (.cmp c)) dx (twoF a b)) ∧ Obj CK H l a ∧ Obj CK H r b
  | .neg s, v => ∃ p dx a, v = .ref p ∧ H p = some (.ins (CY .neg) dx (oneF a)) ∧ ObjS CK CY H s a
  | .bin g l r, v => ∃ p dx a b, v = .ref p ∧ H p = some (.ins (CY (.bin g)) dx (twoF a b)) ∧ ObjS CK CY H l a ∧ ObjS CK CY H r b
theorem ObjS.same {CK : Kd → Addr} {CY : Ks → Addr} {H H' : Hp} (s : Same H H') : ∀ {t : Sy} {v : V}, ObjS CK CY H t v → ObjS CK CY H' t v
  | .yes, v, h => by
    obtain ⟨p, dx, e, h⟩ := h
    exact ⟨p, dx, e, s _ _ h⟩
  | .cmp c l r, v, h => by
    obtain ⟨p, dx, a, b, e, h, h1, h2⟩ := h
    exact ⟨p, dx, a, b, e, s _ _ h, h1.same s, h2.same s⟩
  | .neg t, v, h => by
    obtain ⟨p, dx, a, e, h, h1⟩ := h
    exact ⟨p, dx, a, e, s _ _ h, h1.same s⟩
  | .bin g l r, v, h => by
    obtain ⟨p, dx, a, b, e, h, h1, h2⟩ := h
    exact ⟨p, dx, a, b, e, s _ _ h, h1.same s, h2.same s⟩
theorem ObjS.at_ {CK : Kd → Addr} {CY : Ks → Addr} {H : Hp} : ∀ {t : Sy} {v : V}, ObjS CK CY H t v → ∃ p dx fs, v = .ref p ∧ H p = some (.ins (CY (ks t)) dx fs) ∧ fs.lookup ("holds" : Str) = none
  | .yes, v, h => by
    obtain ⟨p, dx, e, h⟩ := h
    exact ⟨p, dx, _, e, h, rfl⟩
  | .cmp c l r, v, h => by
    obtain ⟨p, dx, a, b, e, h, h1, h2⟩ := h
    exact ⟨p, dx, _, e, h, two_h _ _⟩
  | .neg t, v, h => by
    obtain ⟨p, dx, a, e, h, h1⟩ := h
    exact ⟨p, dx, _, e, h, one_h _⟩
  | .bin g l r, v, h => by
    obtain ⟨p, dx, a, b, e, h, h1, h2⟩ := h
    exact ⟨p, dx, _, e, h, two_h _ _⟩
section
variable {P : Program} {w : World} {K : PySem.W.Frag} {mg : Str → Option Value} {base : Heap} {CK : Kd → Addr} {CY : Ks → Addr}
def spH (CK : Kd → Addr) (CY : Ks → Addr) (n : Nat) (k : Ks) : Sp := fun vs H Q _ => ∃ (v : V) (d : Addr) (t : Sy) (kvs : List (Key × V)) (l : List Str) (vf : Str → Int), vs = [v, .ref d] ∧ ks t = k ∧ ObjS CK CY H t v ∧ H d = some (.dK kvs) ∧ ValsOk kvs l vf ∧ FitsS l t ∧ dps t < n ∧ Q (.bl (hol vf t)) H
theorem spH_none (k : Ks) : ∀ vs H Q E, ¬ spH CK CY 0 k vs H Q E := fun vs H Q E h => by
  obtain ⟨v, d, t, kvs, l, vf, _, _, _, _, _, _, h1, _⟩ := h
  omega
def spSayH : Sp := fun vs H Q _ => ∃ (x : Addr) (v : V), vs = [.ref x, v] ∧ Q (.bl true) H
theorem scSayH : FnScope ["self", "values"] ["self", "values"] (defScope sSayH) := ⟨rfl, rfl, rfl, by decide +kernel, rfl, by decide +kernel, by decide +kernel⟩
theorem ok_sayH {f : Addr} {fd : FuncData} (F : Fun K "holds" "Saying.holds" sSayH f fd) : FnOk P w K mg base CX0 1 f fd ["self", "values"] spSayH := by
  refine F.ok scSayH (fun vs H Q E h => ?_) (fun cdv A outer s H vs Q E hr h => ?_)
  · obtain ⟨x, v, rfl, _⟩ := h
    rfl
  obtain ⟨x, v, rfl, k⟩ := h
  exact ⟨_, (@pss_one _ _ _ (@ps_ret _ _ _ _ pe_bl)), k⟩
theorem ok_yesH {f : Addr} {fd : FuncData} (F : Fun K "holds" "Saying.holds" sSayH f fd) (n : Nat) : FnOk P w K mg base CX0 1 f fd ["self", "values"] (spH CK CY n .yes) := (ok_sayH F).imp fun vs H Q E h => by
  obtain ⟨v, d, t, kvs, l, vf, rfl, kt, ob, hd, O, ft, hn, q⟩ := h
  cases t with
  | yes =>
    obtain ⟨p, dx, rfl, hp⟩ := ob
    exact ⟨p, _, rfl, q⟩
  | _ => cases kt
theorem scLesH : FnScope ["self", "values"] ["self", "values"] (defScope sLesH) := ⟨rfl, rfl, rfl, by decide +kernel, rfl, by decide +kernel, by decide +kernel⟩
theorem ok_lesH {f : Addr} {fd : FuncData} (c : ClsS K CY) (F : Fun K "holds" "Less.holds" sLesH f fd) (W : ∀ k, MOk P w K mg base 10 (CK k) "worth" (spW CK 9 k)) (n : Nat) : FnOk P w K mg base CX0 11 f fd ["self", "values"] (spH CK CY n (.cmp .lt)) := by
  refine F.ok scLesH (fun vs H Q E h => ?_) (fun cdv A outer s H vs Q E hr h => ?_)
  · obtain ⟨v, d, t, kvs, l, vf, rfl, _⟩ := h
    rfl
  obtain ⟨v, d, t, kvs, l, vf, rfl, kt, ob, hd, O, ft, hn, q⟩ := h
  refine ⟨_, (@pss_one _ _ _ (@ps_ret _ _ _ _ (@pe_cmpR _ _ _ _ _ _ _ _ op_lt (pe_methP (@pe_fld _ _ _ _ _ (pv 0) rfl) hr (@pa_cons _ _ _ _ _ (pv 1) pa_nil (by rfl))) (pe_methP (@pe_fld _ _ _ _ _ (pv 0) rfl) hr (@pa_cons _ _ _ _ _ (pv 1) pa_nil (by rfl))) (nomark _)))), ?_⟩
  cases t with
  | cmp g a b =>
    cases kt
    obtain ⟨p, dx, va, vb, rfl, hp, oa, ob⟩ := ob
    obtain ⟨fa, fb, la9, lb9⟩ : Fits l a ∧ Fits l b ∧ lv a ≤ 9 ∧ lv b ≤ 9 := ft
    have da := dp_lt a
    have db := dp_lt b
    obtain ⟨pa, dxa, fsa, rfl, ha, la⟩ := oa.at_
    obtain ⟨pb, dxb, fsb, rfl, hb, lb⟩ := ob.at_
    refine ⟨_, rfl, p, _, dx, _, _, rfl, hp, c.cl _, c.c1 _, two_one _ _, pa, _, dxa, fsa, _, rfl, ha, la, W _, _, rfl, _, d, a, kvs, l, vf, rfl, rfl, oa, hd, O, fa, by omega, by omega, ?_⟩
    refine ⟨_, rfl, p, _, dx, _, _, rfl, hp, c.cl _, c.c2 _, two_oth _ _, pb, _, dxb, fsb, _, rfl, hb, lb, W _, _, rfl, _, d, b, kvs, l, vf, rfl, rfl, ob, hd, O, fb, by omega, by omega, ?_⟩
    exact ⟨_, _, rfl, rfl, q⟩
  | _ => cases kt
theorem scAtmH : FnScope ["self", "values"] ["self", "values"] (defScope sAtmH) := ⟨rfl, rfl, rfl, by decide +kernel, rfl, by decide +kernel, by decide +kernel⟩
theorem ok_atmH {f : Addr} {fd : FuncData} (c : ClsS K CY) (F : Fun K "holds" "AtMost.holds" sAtmH f fd) (W : ∀ k, MOk P w K mg base 10 (CK k) "worth" (spW CK 9 k)) (n : Nat) : FnOk P w K mg base CX0 11 f fd ["self", "values"] (spH CK CY n (.cmp .le)) := by
  refine F.ok scAtmH (fun vs H Q E h => ?_) (fun cdv A outer s H vs Q E hr h => ?_)
  · obtain ⟨v, d, t, kvs, l, vf, rfl, _⟩ := h
    rfl
  obtain ⟨v, d, t, kvs, l, vf, rfl, kt, ob, hd, O, ft, hn, q⟩ := h
  refine ⟨_, (@pss_one _ _ _ (@ps_ret _ _ _ _ (@pe_cmpR _ _ _ _ _ _ _ _ op_le (pe_methP (@pe_fld _ _ _ _ _ (pv 0) rfl) hr (@pa_cons _ _ _ _ _ (pv 1) pa_nil (by rfl))) (pe_methP (@pe_fld _ _ _ _ _ (pv 0) rfl) hr (@pa_cons _ _ _ _ _ (pv 1) pa_nil (by rfl))) (nomark _)))), ?_⟩
  cases t with
  | cmp g a b =>
    cases kt
    obtain ⟨p, dx, va, vb, rfl, hp, oa, ob⟩ := ob
    obtain ⟨fa, fb, la9, lb9⟩ : Fits l a ∧ Fits l b ∧ lv a ≤ 9 ∧ lv b ≤ 9 := ft
    have da := dp_lt a
    have db := dp_lt b
    obtain ⟨pa, dxa, fsa, rfl, ha, la⟩ := oa.at_
    obtain ⟨pb, dxb, fsb, rfl, hb, lb⟩ := ob.at_
    refine ⟨_, rfl, p, _, dx, _, _, rfl, hp, c.cl _, c.c1 _, two_one _ _, pa, _, dxa, fsa, _, rfl, ha, la, W _, _, rfl, _, d, a, kvs, l, vf, rfl, rfl, oa, hd, O, fa, by omega, by omega, ?_⟩
    refine ⟨_, rfl, p, _, dx, _, _, rfl, hp, c.cl _, c.c2 _, two_oth _ _, pb, _, dxb, fsb, _, rfl, hb, lb, W _, _, rfl, _, d, b, kvs, l, vf, rfl, rfl, ob, hd, O, fb, by omega, by omega, ?_⟩
    exact ⟨_, _, rfl, rfl, q⟩
  | _ => cases kt
theorem scEquH : FnScope ["self", "values"] ["self", "values"] (defScope sEquH) := ⟨rfl, rfl, rfl, by decide +kernel, rfl, by decide +kernel, by decide +kernel⟩
theorem ok_equH {f : Addr} {fd : FuncData} (c : ClsS K CY) (F : Fun K "holds" "Equal.holds" sEquH f fd) (W : ∀ k, MOk P w K mg base 10 (CK k) "worth" (spW CK 9 k)) (n : Nat) : FnOk P w K mg base CX0 11 f fd ["self", "values"] (spH CK CY n (.cmp .eq)) := by
  refine F.ok scEquH (fun vs H Q E h => ?_) (fun cdv A outer s H vs Q E hr h => ?_)
  · obtain ⟨v, d, t, kvs, l, vf, rfl, _⟩ := h
    rfl
  obtain ⟨v, d, t, kvs, l, vf, rfl, kt, ob, hd, O, ft, hn, q⟩ := h
  refine ⟨_, (@pss_one _ _ _ (@ps_ret _ _ _ _ (@pe_cmpR _ _ _ _ _ _ _ _ op_eq (pe_methP (@pe_fld _ _ _ _ _ (pv 0) rfl) hr (@pa_cons _ _ _ _ _ (pv 1) pa_nil (by rfl))) (pe_methP (@pe_fld _ _ _ _ _ (pv 0) rfl) hr (@pa_cons _ _ _ _ _ (pv 1) pa_nil (by rfl))) (nomark _)))), ?_⟩
  cases t with
  | cmp g a b =>
    cases kt
    obtain ⟨p, dx, va, vb, rfl, hp, oa, ob⟩ := ob
    obtain ⟨fa, fb, la9, lb9⟩ : Fits l a ∧ Fits l b ∧ lv a ≤ 9 ∧ lv b ≤ 9 := ft
    have da := dp_lt a
    have db := dp_lt b
    obtain ⟨pa, dxa, fsa, rfl, ha, la⟩ := oa.at_
    obtain ⟨pb, dxb, fsb, rfl, hb, lb⟩ := ob.at_
    refine ⟨_, rfl, p, _, dx, _, _, rfl, hp, c.cl _, c.c1 _, two_one _ _, pa, _, dxa, fsa, _, rfl, ha, la, W _, _, rfl, _, d, a, kvs, l, vf, rfl, rfl, oa, hd, O, fa, by omega, by omega, ?_⟩
    refine ⟨_, rfl, p, _, dx, _, _, rfl, hp, c.cl _, c.c2 _, two_oth _ _, pb, _, dxb, fsb, _, rfl, hb, lb, W _, _, rfl, _, d, b, kvs, l, vf, rfl, rfl, ob, hd, O, fb, by omega, by omega, ?_⟩
    have e := dec_int (val vf a) (val vf b)
    refine ⟨rfl, ?_⟩
    rw [e]
    exact q
  | _ => cases kt
theorem scUnlH : FnScope ["self", "values"] ["self", "values"] (defScope sUnlH) := ⟨rfl, rfl, rfl, by decide +kernel, rfl, by decide +kernel, by decide +kernel⟩
theorem ok_unlH {f : Addr} {fd : FuncData} (c : ClsS K CY) (F : Fun K "holds" "Unlike.holds" sUnlH f fd) (W : ∀ k, MOk P w K mg base 10 (CK k) "worth" (spW CK 9 k)) (n : Nat) : FnOk P w K mg base CX0 11 f fd ["self", "values"] (spH CK CY n (.cmp .ne)) := by
  refine F.ok scUnlH (fun vs H Q E h => ?_) (fun cdv A outer s H vs Q E hr h => ?_)
  · obtain ⟨v, d, t, kvs, l, vf, rfl, _⟩ := h
    rfl
  obtain ⟨v, d, t, kvs, l, vf, rfl, kt, ob, hd, O, ft, hn, q⟩ := h
  refine ⟨_, (@pss_one _ _ _ (@ps_ret _ _ _ _ (@pe_cmpR _ _ _ _ _ _ _ _ op_ne (pe_methP (@pe_fld _ _ _ _ _ (pv 0) rfl) hr (@pa_cons _ _ _ _ _ (pv 1) pa_nil (by rfl))) (pe_methP (@pe_fld _ _ _ _ _ (pv 0) rfl) hr (@pa_cons _ _ _ _ _ (pv 1) pa_nil (by rfl))) (nomark _)))), ?_⟩
  cases t with
  | cmp g a b =>
    cases kt
    obtain ⟨p, dx, va, vb, rfl, hp, oa, ob⟩ := ob
    obtain ⟨fa, fb, la9, lb9⟩ : Fits l a ∧ Fits l b ∧ lv a ≤ 9 ∧ lv b ≤ 9 := ft
    have da := dp_lt a
    have db := dp_lt b
    obtain ⟨pa, dxa, fsa, rfl, ha, la⟩ := oa.at_
    obtain ⟨pb, dxb, fsb, rfl, hb, lb⟩ := ob.at_
    refine ⟨_, rfl, p, _, dx, _, _, rfl, hp, c.cl _, c.c1 _, two_one _ _, pa, _, dxa, fsa, _, rfl, ha, la, W _, _, rfl, _, d, a, kvs, l, vf, rfl, rfl, oa, hd, O, fa, by omega, by omega, ?_⟩
    refine ⟨_, rfl, p, _, dx, _, _, rfl, hp, c.cl _, c.c2 _, two_oth _ _, pb, _, dxb, fsb, _, rfl, hb, lb, W _, _, rfl, _, d, b, kvs, l, vf, rfl, rfl, ob, hd, O, fb, by omega, by omega, ?_⟩
    have e := dec_int (val vf a) (val vf b)
    refine ⟨rfl, ?_⟩
    rw [e]
    exact q
  | _ => cases kt
theorem scBotH : FnScope ["self", "values"] ["self", "values"] (defScope sBotH) := ⟨rfl, rfl, rfl, by decide +kernel, rfl, by decide +kernel, by decide +kernel⟩
theorem ok_botH {f : Addr} {fd : FuncData} (c : ClsS K CY) (F : Fun K "holds" "Both.holds" sBotH f fd) (n : Nat) (W : ∀ k, MOk P w K mg base (n + 11) (CY k) "holds" (spH CK CY n k)) : FnOk P w K mg base CX0 (n + 12) f fd ["self", "values"] (spH CK CY (n + 1) (.bin .and)) := by
  refine F.ok scBotH (fun vs H Q E h => ?_) (fun cdv A outer s H vs Q E hr h => ?_)
  · obtain ⟨v, d, t, kvs, l, vf, rfl, _⟩ := h
    rfl
  obtain ⟨v, d, t, kvs, l, vf, rfl, kt, ob, hd, O, ft, hn, q⟩ := h
  refine ⟨_, (@pss_one _ _ _ (@ps_ret _ _ _ _ (@pe_and _ _ _ _ _ _ _ (pe_methP (@pe_fld _ _ _ _ _ (pv 0) rfl) hr (@pa_cons _ _ _ _ _ (pv 1) pa_nil (by rfl))) (@pe_one _ _ _ _ _ (pe_methP (@pe_fld _ _ _ _ _ (pv 0) rfl) hr (@pa_cons _ _ _ _ _ (pv 1) pa_nil (by rfl))))))), ?_⟩
  cases t with
  | bin g a b =>
    cases kt
    obtain ⟨p, dx, va, vb, rfl, hp, oa, ob⟩ := ob
    obtain ⟨fa, fb⟩ : FitsS l a ∧ FitsS l b := ft
    have hn : max (dps a) (dps b) + 1 < n + 1 := hn
    obtain ⟨pa, dxa, fsa, rfl, ha, la⟩ := oa.at_
    obtain ⟨pb, dxb, fsb, rfl, hb, lb⟩ := ob.at_
    refine ⟨_, rfl, p, _, dx, _, _, rfl, hp, c.cl _, c.b1 _, two_one _ _, pa, _, dxa, fsa, _, rfl, ha, la, W _, _, rfl, _, d, a, kvs, l, vf, rfl, rfl, oa, hd, O, fa, by omega, _, rfl, ?_⟩
    have q : Q (.bl (bnB .and (hol vf a) (hol vf b))) H := q
    cases ha' : hol vf a with
    | false =>
      rw [ha'] at q
      exact q
    | true =>
      rw [ha'] at q
      exact ⟨_, rfl, p, _, dx, _, _, rfl, hp, c.cl _, c.b2 _, two_oth _ _, pb, _, dxb, fsb, _, rfl, hb, lb, W _, _, rfl, _, d, b, kvs, l, vf, rfl, rfl, ob, hd, O, fb, by omega, q⟩
  | _ => cases kt
theorem scEitH : FnScope ["self", "values"] ["self", "values"] (defScope sEitH) := ⟨rfl, rfl, rfl, by decide +kernel, rfl, by decide +kernel, by decide +kernel⟩
theorem ok_eitH {f : Addr} {fd : FuncData} (c : ClsS K CY) (F : Fun K "holds" "Either.holds" sEitH f fd) (n : Nat) (W : ∀ k, MOk P w K mg base (n + 11) (CY k) "holds" (spH CK CY n k)) : FnOk P w K mg base CX0 (n + 12) f fd ["self", "values"] (spH CK CY (n + 1) (.bin .or)) := by
  refine F.ok scEitH (fun vs H Q E h => ?_) (fun cdv A outer s H vs Q E hr h => ?_)
  · obtain ⟨v, d, t, kvs, l, vf, rfl, _⟩ := h
    rfl
  obtain ⟨v, d, t, kvs, l, vf, rfl, kt, ob, hd, O, ft, hn, q⟩ := h
  refine ⟨_, (@pss_one _ _ _ (@ps_ret _ _ _ _ (@pe_or _ _ _ _ _ _ _ (pe_methP (@pe_fld _ _ _ _ _ (pv 0) rfl) hr (@pa_cons _ _ _ _ _ (pv 1) pa_nil (by rfl))) (@pe_one _ _ _ _ _ (pe_methP (@pe_fld _ _ _ _ _ (pv 0) rfl) hr (@pa_cons _ _ _ _ _ (pv 1) pa_nil (by rfl))))))), ?_⟩
  cases t with
  | bin g a b =>
    cases kt
    obtain ⟨p, dx, va, vb, rfl, hp, oa, ob⟩ := ob
    obtain ⟨fa, fb⟩ : FitsS l a ∧ FitsS l b := ft
    have hn : max (dps a) (dps b) + 1 < n + 1 := hn
    obtain ⟨pa, dxa, fsa, rfl, ha, la⟩ := oa.at_
    obtain ⟨pb, dxb, fsb, rfl, hb, lb⟩ := ob.at_
    refine ⟨_, rfl, p, _, dx, _, _, rfl, hp, c.cl _, c.b1 _, two_one _ _, pa, _, dxa, fsa, _, rfl, ha, la, W _, _, rfl, _, d, a, kvs, l, vf, rfl, rfl, oa, hd, O, fa, by omega, _, rfl, ?_⟩
    have q : Q (.bl (bnB .or (hol vf a) (hol vf b))) H := q
    cases ha' : hol vf a with
    | true =>
      rw [ha'] at q
      exact q
    | false =>
      rw [ha'] at q
      exact ⟨_, rfl, p, _, dx, _, _, rfl, hp, c.cl _, c.b2 _, two_oth _ _, pb, _, dxb, fsb, _, rfl, hb, lb, W _, _, rfl, _, d, b, kvs, l, vf, rfl, rfl, ob, hd, O, fb, by omega, q⟩
  | _ => cases kt
theorem scNotH : FnScope ["self", "values"] ["self", "values"] (defScope sNotH) := ⟨rfl, rfl, rfl, by decide +kernel, rfl, by decide +kernel, by decide +kernel⟩
theorem ok_notH {f : Addr} {fd : FuncData} (c : ClsS K CY) (F : Fun K "holds" "Not.holds" sNotH f fd) (n : Nat) (W : ∀ k, MOk P w K mg base (n + 11) (CY k) "holds" (spH CK CY n k)) : FnOk P w K mg base CX0 (n + 12) f fd ["self", "values"] (spH CK CY (n + 1) .neg) := by
  refine F.ok scNotH (fun vs H Q E h => ?_) (fun cdv A outer s H vs Q E hr h => ?_)
  · obtain ⟨v, d, t, kvs, l, vf, rfl, _⟩ := h
    rfl
  obtain ⟨v, d, t, kvs, l, vf, rfl, kt, ob, hd, O, ft, hn, q⟩ := h
  refine ⟨_, (@pss_one _ _ _ (@ps_ret _ _ _ _ (@pe_not _ _ _ _ (pe_methP (@pe_fld _ _ _ _ _ (pv 0) rfl) hr (@pa_cons _ _ _ _ _ (pv 1) pa_nil (by rfl)))))), ?_⟩
  cases t with
  | neg a =>
    obtain ⟨p, dx, va, rfl, hp, oa⟩ := ob
    have ft : FitsS l a := ft
    have hn : dps a + 1 < n + 1 := hn
    obtain ⟨pa, dxa, fsa, rfl, ha, la⟩ := oa.at_
    exact ⟨_, rfl, p, _, dx, _, _, rfl, hp, c.cl _, c.n1, one_at _, pa, _, dxa, fsa, _, rfl, ha, la, W _, _, rfl, _, d, a, kvs, l, vf, rfl, rfl, oa, hd, O, ft, by omega, _, rfl, q⟩
  | _ => cases kt
end
end Nw

set_option Elab.async false
set_option linter.all false
set_option maxRecDepth 100000
set_option maxHeartbeats 4000000
namespace Nw
open PySem L2
section
variable {P : Program} {w : World} {K : PySem.W.Frag} {mg : Str → Option Value} {base : Heap} {CK : Kd → Addr} {CY : Ks → Addr}
/-! ### making sayings -/
theorem scPaiI : FnScope ["self", "one", "other"] ["self", "one", "other"] (defScope sPaiI) := ⟨rfl, rfl, rfl, by decide +kernel, rfl, by decide +kernel, by decide +kernel⟩
theorem ok_paiI {f C : Addr} {fd : FuncData} (c : Cls K C) (c1 : NoAttr K C "one") (c2 : NoAttr K C "other") (F : Fun K "__init__" "Pairing.__init__" sPaiI f fd) : FnOk P w K mg base CX0 1 f fd ["self", "one", "other"] (spTwoI C) := by
  refine F.ok scPaiI (fun vs H Q E h => ?_) (fun cdv A outer s H vs Q E hr h => ?_)
  · obtain ⟨x, dx, a, b, rfl, _⟩ := h
    rfl
  obtain ⟨x, dx, a, b, rfl, hx, k⟩ := h
  refine ⟨_, (@pss_cons _ _ _ _ _ (@ps_fld _ _ _ _ _ _ _ _ (pv 0) (pv 1) rfl) (@pss_one _ _ _ (@ps_fld _ _ _ _ _ _ _ _ (pv 0) (pv 2) rfl))), ?_⟩
  refine ⟨_, rfl, _, rfl, x, _, dx, _, rfl, hx, c, c1, (by show 0 < 1000; decide), ?_⟩
  refine ⟨_, rfl, _, rfl, x, _, dx, _, rfl, upd_same, c, c2, Nat.lt_of_le_of_lt (length_putF _ _ _) (by show 1 < 1000; decide), ?_⟩
  exact k _ upd_same fun b hb => by rw [upd_ne hb, upd_ne hb]
def spNotI (C : Addr) : Sp := fun vs H Q _ => ∃ (x dx : Addr) (a : V), vs = [.ref x, a] ∧ H x = some (.ins C dx []) ∧ Q .non (upd H x (.ins C dx (oneF a)))
theorem scNotI : FnScope ["self", "one"] ["self", "one"] (defScope sNotI) := ⟨rfl, rfl, rfl, by decide +kernel, rfl, by decide +kernel, by decide +kernel⟩
theorem ok_notI {f : Addr} {fd : FuncData} (c : ClsS K CY) (F : Fun K "__init__" "Not.__init__" sNotI f fd) : FnOk P w K mg base CX0 1 f fd ["self", "one"] (spNotI (CY .neg)) := by
  refine F.ok scNotI (fun vs H Q E h => ?_) (fun cdv A outer s H vs Q E hr h => ?_)
  · obtain ⟨x, dx, a, rfl, _⟩ := h
    rfl
  obtain ⟨x, dx, a, rfl, hx, k⟩ := h
  refine ⟨_, (@pss_one _ _ _ (@ps_fld _ _ _ _ _ _ _ _ (pv 0) (pv 1) rfl)), ?_⟩
  exact ⟨_, rfl, _, rfl, x, _, dx, _, rfl, hx, c.cl _, c.n1, (by show 0 < 1000; decide), k⟩
structure MakerS (K : PySem.W.Frag) (mg : Str → Option Value) (CY : Ks → Addr) (fP fN : Addr) (dP dN : FuncData) : Prop where
  cls : ClsS K CY
  mkP : ∀ c, Mk K (CY (.cmp c)) fP
  mkB : ∀ c, Mk K (CY (.bin c)) fP
  mkN : Mk K (CY .neg) fN
  mkY : Mk0 K (CY .yes)
  gY : mg "Saying" = some (.ref (CY .yes))
  gL : mg "Less" = some (.ref (CY (.cmp .lt)))
  gA : mg "AtMost" = some (.ref (CY (.cmp .le)))
  gE : mg "Equal" = some (.ref (CY (.cmp .eq)))
  gU : mg "Unlike" = some (.ref (CY (.cmp .ne)))
  gB : mg "Both" = some (.ref (CY (.bin .and)))
  gO : mg "Either" = some (.ref (CY (.bin .or)))
  gN : mg "Not" = some (.ref (CY .neg))
  FP : Fun K "__init__" "Pairing.__init__" sPaiI fP dP
  FN : Fun K "__init__" "Not.__init__" sNotI fN dN
  bP : Binds K dP ["self", "one", "other"] []
  bN : Binds K dN ["self", "one"] []
def spTold (K : PySem.W.Frag) (CK : Kd → Addr) (CY : Ks → Addr) (n : Nat) : Sp := fun vs H Q _ => ∃ (v : V) (t : Sy) (l : List Str), vs = [v] ∧ Is K H (syD t) v ∧ FitsS l t ∧ dps t < n ∧ ∀ (p : Addr) (H' : Hp), Same H H' → ObjS CK CY H' t (.ref p) → Q (.ref p) H'
theorem scTold : FnScope ["_law_one", "_law_here", "_law_there"] ["_law_one"] (defScope sTold) := ⟨rfl, rfl, rfl, by decide +kernel, rfl, by decide +kernel, by decide +kernel⟩
theorem ok_told {f fH fN fM fT fP fO : Addr} {fd fdH dN dM dT dP dO : FuncData} (T : Maker K mg CK fN fM fT dN dM dT) (S : MakerS K mg CY fP fO dP dO) (F : Fun K "_law_saying_of" "_law_saying_of" sTold f fd) (bT : Binds K fd ["_law_one"] []) (mT : mg "_law_saying_of" = some (.ref f))
    (FH : Fun K "_law_sum_of" "_law_sum_of" sHand fH fdH) (bH : Binds K fdH ["_law_one"] []) (mH : mg "_law_sum_of" = some (.ref fH)) :
    ∀ n : Nat, FnOk P w K mg base CX0 (n + 13) f fd ["_law_one"] (spTold K CK CY n)
  | 0 => fn_none fun vs H Q E h => by obtain ⟨v, t, l, _, _, _, h1, _⟩ := h; omega
  | n + 1 => by
    have GT := ok_told T S F bT mT FH bH mH n
    have GH : FnOk P w K mg base CX0 12 fH fdH ["_law_one"] (spHand K CK 9) := ok_hand T FH bH mH 9
    have GC : ∀ c, FnOk P w K mg base CX0 1 fP dP ["self", "one", "other"] (spTwoI (CY (.cmp c))) := fun c => ok_paiI (S.cls.cl _) (S.cls.c1 c) (S.cls.c2 c) S.FP
    have GB : ∀ c, FnOk P w K mg base CX0 1 fP dP ["self", "one", "other"] (spTwoI (CY (.bin c))) := fun c => ok_paiI (S.cls.cl _) (S.cls.b1 c) (S.cls.b2 c) S.FP
    have GN : FnOk P w K mg base CX0 1 fO dO ["self", "one"] (spNotI (CY .neg)) := ok_notI S.cls S.FN
    refine F.ok scTold (fun vs H Q E h => ?_) (fun cdv A outer s H vs Q E hr h => ?_)
    · obtain ⟨v, t, l, rfl, _⟩ := h
      rfl
    obtain ⟨v, t, l, rfl, it, ft, hn, q⟩ := h
    have hr2 := hr.mono (show 1 + 1 ≤ n + 13 by omega)
    have hrH := hr.mono (show 12 ≤ n + 13 by omega)
    refine ⟨_, (@pss_cons _ _ _ _ _ (@ps_if _ _ _ _ _ _ _ _ (@pt_cmpR _ _ _ _ _ _ _ _ op_eq (@pe_ix _ _ _ _ _ _ (rIxT K) ix_tup (pv 0) pe_int (fun _ _ => rfl)) pe_str (nomark _)) (@pss_one _ _ _ (@ps_ret _ _ _ _ (pe_make00 S.mkY rfl S.gY))) pss_nil) (@pss_cons _ _ _ _ _ (@ps_if _ _ _ _ _ _ _ _ (@pt_cmpR _ _ _ _ _ _ _ _ op_eq (@pe_ix _ _ _ _ _ _ (rIxT K) ix_tup (pv 0) pe_int (fun _ _ => rfl)) pe_str (nomark _)) (@pss_one _ _ _ (@ps_ret _ _ _ _ (pe_make S.mkN GN hr2 rfl S.gN S.bN .nil pass0 (@pa_cons _ _ _ _ _ (pe_call GT hr (by rfl) mT F.kp bT .nil pass0 (@pa_cons _ _ _ _ _ (@pe_ix _ _ _ _ _ _ (rIxT K) ix_tup (pv 0) pe_int (fun _ _ => rfl)) pa_nil (by rfl))) pa_nil (by rfl))))) pss_nil) (@pss_cons _ _ _ _ _ (@ps_if _ _ _ _ _ _ _ _ (@pt_cmpR _ _ _ _ _ _ _ _ op_eq (@pe_ix _ _ _ _ _ _ (rIxT K) ix_tup (pv 0) pe_int (fun _ _ => rfl)) pe_str (nomark _)) (@pss_one _ _ _ (@ps_ret _ _ _ _ (pe_make (S.mkB .and) (GB .and) hr2 rfl S.gB S.bP .nil pass0 (@pa_cons _ _ _ _ _ (pe_call GT hr (by rfl) mT F.kp bT .nil pass0 (@pa_cons _ _ _ _ _ (@pe_ix _ _ _ _ _ _ (rIxT K) ix_tup (pv 0) pe_int (fun _ _ => rfl)) pa_nil (by rfl))) (@pa_cons _ _ _ _ _ (pe_call GT hr (by rfl) mT F.kp bT .nil pass0 (@pa_cons _ _ _ _ _ (@pe_ix _ _ _ _ _ _ (rIxT K) ix_tup (pv 0) pe_int (fun _ _ => rfl)) pa_nil (by rfl))) pa_nil (by rfl)) (by rfl))))) pss_nil) (@pss_cons _ _ _ _ _ (@ps_if _ _ _ _ _ _ _ _ (@pt_cmpR _ _ _ _ _ _ _ _ op_eq (@pe_ix _ _ _ _ _ _ (rIxT K) ix_tup (pv 0) pe_int (fun _ _ => rfl)) pe_str (nomark _)) (@pss_one _ _ _ (@ps_ret _ _ _ _ (pe_make (S.mkB .or) (GB .or) hr2 rfl S.gO S.bP .nil pass0 (@pa_cons _ _ _ _ _ (pe_call GT hr (by rfl) mT F.kp bT .nil pass0 (@pa_cons _ _ _ _ _ (@pe_ix _ _ _ _ _ _ (rIxT K) ix_tup (pv 0) pe_int (fun _ _ => rfl)) pa_nil (by rfl))) (@pa_cons _ _ _ _ _ (pe_call GT hr (by rfl) mT F.kp bT .nil pass0 (@pa_cons _ _ _ _ _ (@pe_ix _ _ _ _ _ _ (rIxT K) ix_tup (pv 0) pe_int (fun _ _ => rfl)) pa_nil (by rfl))) pa_nil (by rfl)) (by rfl))))) pss_nil) (@pss_cons _ _ _ _ _ (@ps_set _ _ 1 _ _ _ _ scTold.nd rfl (Or.inl rfl) (pe_call GH hrH (by rfl) mH FH.kp bH .nil pass0 (@pa_cons _ _ _ _ _ (@pe_ix _ _ _ _ _ _ (rIxT K) ix_tup (pv 0) pe_int (fun _ _ => rfl)) pa_nil (by rfl))) rfl (Or.inl rfl)) (@pss_cons _ _ _ _ _ (@ps_set _ _ 2 _ _ _ _ scTold.nd rfl (Or.inl rfl) (pe_call GH hrH (by rfl) mH FH.kp bH .nil pass0 (@pa_cons _ _ _ _ _ (@pe_ix _ _ _ _ _ _ (rIxT K) ix_tup (pv 0) pe_int (fun _ _ => rfl)) pa_nil (by rfl))) rfl (Or.inl rfl)) (@pss_cons _ _ _ _ _ (@ps_if _ _ _ _ _ _ _ _ (@pt_cmpR _ _ _ _ _ _ _ _ op_eq (@pe_ix _ _ _ _ _ _ (rIxT K) ix_tup (pv 0) pe_int (fun _ _ => rfl)) pe_str (nomark _)) (@pss_one _ _ _ (@ps_ret _ _ _ _ (pe_make (S.mkP .lt) (GC .lt) hr2 rfl S.gL S.bP .nil pass0 (@pa_cons _ _ _ _ _ (pv 1) (@pa_cons _ _ _ _ _ (pv 2) pa_nil (by rfl)) (by rfl))))) pss_nil) (@pss_cons _ _ _ _ _ (@ps_if _ _ _ _ _ _ _ _ (@pt_cmpR _ _ _ _ _ _ _ _ op_eq (@pe_ix _ _ _ _ _ _ (rIxT K) ix_tup (pv 0) pe_int (fun _ _ => rfl)) pe_str (nomark _)) (@pss_one _ _ _ (@ps_ret _ _ _ _ (pe_make (S.mkP .le) (GC .le) hr2 rfl S.gA S.bP .nil pass0 (@pa_cons _ _ _ _ _ (pv 1) (@pa_cons _ _ _ _ _ (pv 2) pa_nil (by rfl)) (by rfl))))) pss_nil) (@pss_cons _ _ _ _ _ (@ps_if _ _ _ _ _ _ _ _ (@pt_cmpR _ _ _ _ _ _ _ _ op_eq (@pe_ix _ _ _ _ _ _ (rIxT K) ix_tup (pv 0) pe_int (fun _ _ => rfl)) pe_str (nomark _)) (@pss_one _ _ _ (@ps_ret _ _ _ _ (pe_make (S.mkP .eq) (GC .eq) hr2 rfl S.gE S.bP .nil pass0 (@pa_cons _ _ _ _ _ (pv 1) (@pa_cons _ _ _ _ _ (pv 2) pa_nil (by rfl)) (by rfl))))) pss_nil) (@pss_one _ _ _ (@ps_ret _ _ _ _ (pe_make (S.mkP .ne) (GC .ne) hr2 rfl S.gU S.bP .nil pass0 (@pa_cons _ _ _ _ _ (pv 1) (@pa_cons _ _ _ _ _ (pv 2) pa_nil (by rfl)) (by rfl)))))))))))))), ?_⟩
    cases t with
    | yes =>
      obtain ⟨p, rfl, ht⟩ := is_yes it
      refine ⟨_, rfl, p, _, _, _, rfl, rfl, ht, atI_nat (j := 0) rfl, rfl, _, rfl, ite2 (fun _ => ?_) (fun c => absurd (decide_eq_true rfl) c)⟩
      intro x dx hx hd hxd
      exact q x _ (same_made hx hd hxd _ _) ⟨x, dx, rfl, upd_same⟩
    | neg t =>
      obtain ⟨p, a, rfl, ht, ia⟩ := is_neg it
      have hn : dps t + 1 < n + 1 := hn
      refine ⟨_, rfl, p, _, _, _, rfl, rfl, ht, atI_nat (j := 0) rfl, rfl, _, rfl, ite2 (fun c => absurd (of_decide_eq_true c) (by decide +kernel)) (fun _ => ?_)⟩
      refine ⟨_, rfl, p, _, _, _, rfl, rfl, ht, atI_nat (j := 0) rfl, rfl, _, rfl, ite2 (fun _ => ?_) (fun c => absurd (decide_eq_true rfl) c)⟩
      refine ⟨_, rfl, p, _, _, _, rfl, rfl, ht, atI_nat (j := 1) rfl, a, t, l, rfl, ia, ft, by omega, fun p1 H1 s1 o1 => ?_⟩
      intro x dx hx hd hxd
      have s2 : Same H1 (upd (upd (upd H1 dx (.own x)) x (.ins (CY .neg) dx [])) x (.ins (CY .neg) dx (oneF (.ref p1)))) := by
        intro b u e
        rw [upd_ne (ne_of_none e hx)]
        exact same_made hx hd hxd _ _ b u e
      exact ⟨x, dx, _, rfl, upd_same, rfl, q x _ (s1.trans s2) ⟨x, dx, _, rfl, upd_same, o1.same s2⟩⟩
    | bin g a b =>
      obtain ⟨p, va, vb, rfl, ht, ia, ib⟩ := is_bin it
      obtain ⟨fa, fb⟩ : FitsS l a ∧ FitsS l b := ft
      have hn : max (dps a) (dps b) + 1 < n + 1 := hn
      have n1 : ¬ V.str (bnS g) = V.str "yes" := by cases g <;> decide +kernel
      have n2 : ¬ V.str (bnS g) = V.str "not" := by cases g <;> decide +kernel
      refine ⟨_, rfl, p, _, _, _, rfl, rfl, ht, atI_nat (j := 0) rfl, rfl, _, rfl, ite2 (fun c => absurd (of_decide_eq_true c) n1) (fun _ => ?_)⟩
      refine ⟨_, rfl, p, _, _, _, rfl, rfl, ht, atI_nat (j := 0) rfl, rfl, _, rfl, ite2 (fun c => absurd (of_decide_eq_true c) n2) (fun _ => ?_)⟩
      have fin : ∀ (p1 : Addr) (H1 : Hp), Same H H1 → ObjS CK CY H1 a (.ref p1) → ∀ (p2 : Addr) (H2 : Hp), Same H1 H2 → ObjS CK CY H2 b (.ref p2) → ∀ (x dx : Addr), H2 x = none → H2 dx = none → dx ≠ x → spTwoI (CY (.bin g)) [.ref x, .ref p1, .ref p2] (upd (upd H2 dx (.own x)) x (.ins (CY (.bin g)) dx [])) (fun v H3 => v = .non ∧ Q (.ref x) H3) E0 := by
        intro p1 H1 s1 o1 p2 H2 s2 o2 x dx hx hd hxd
        refine ⟨x, dx, _, _, rfl, upd_same, fun H3 h3 h4 => ⟨rfl, ?_⟩⟩
        have s3 : Same H2 H3 := by
          intro b' u e
          rw [h4 b' (ne_of_none e hx)]
          exact same_made hx hd hxd _ _ b' u e
        exact q x H3 (s1.trans (s2.trans s3)) ⟨x, dx, _, _, rfl, h3, o1.same (s2.trans s3), o2.same s3⟩
      cases g with
      | and =>
        refine ⟨_, rfl, p, _, _, _, rfl, rfl, ht, atI_nat (j := 0) rfl, rfl, _, rfl, ite2 (fun _ => ?_) (fun c => absurd (decide_eq_true rfl) c)⟩
        refine ⟨_, rfl, p, _, _, _, rfl, rfl, ht, atI_nat (j := 1) rfl, va, a, l, rfl, ia, fa, by omega, fun p1 H1 s1 o1 => ?_⟩
        exact ⟨_, rfl, p, _, _, _, rfl, rfl, s1.tup ht, atI_nat (j := 2) rfl, vb, b, l, rfl, ib.same s1, fb, by omega, fin p1 H1 s1 o1⟩
      | or =>
        refine ⟨_, rfl, p, _, _, _, rfl, rfl, ht, atI_nat (j := 0) rfl, rfl, _, rfl, ite2 (fun c => absurd (of_decide_eq_true c) (by decide +kernel)) (fun _ => ?_)⟩
        refine ⟨_, rfl, p, _, _, _, rfl, rfl, ht, atI_nat (j := 0) rfl, rfl, _, rfl, ite2 (fun _ => ?_) (fun c => absurd (decide_eq_true rfl) c)⟩
        refine ⟨_, rfl, p, _, _, _, rfl, rfl, ht, atI_nat (j := 1) rfl, va, a, l, rfl, ia, fa, by omega, fun p1 H1 s1 o1 => ?_⟩
        exact ⟨_, rfl, p, _, _, _, rfl, rfl, s1.tup ht, atI_nat (j := 2) rfl, vb, b, l, rfl, ib.same s1, fb, by omega, fin p1 H1 s1 o1⟩
    | cmp g a b =>
      obtain ⟨p, va, vb, rfl, ht, ia, ib⟩ := is_cmp it
      obtain ⟨fa, fb, la9, lb9⟩ : Fits l a ∧ Fits l b ∧ lv a ≤ 9 ∧ lv b ≤ 9 := ft
      have da := dp_lt a
      have db := dp_lt b
      have n1 : ¬ V.str (cmS g) = V.str "yes" := by cases g <;> decide +kernel
      have n2 : ¬ V.str (cmS g) = V.str "not" := by cases g <;> decide +kernel
      have n3 : ¬ V.str (cmS g) = V.str "and" := by cases g <;> decide +kernel
      have n4 : ¬ V.str (cmS g) = V.str "or" := by cases g <;> decide +kernel
      refine ⟨_, rfl, p, _, _, _, rfl, rfl, ht, atI_nat (j := 0) rfl, rfl, _, rfl, ite2 (fun c => absurd (of_decide_eq_true c) n1) (fun _ => ?_)⟩
      refine ⟨_, rfl, p, _, _, _, rfl, rfl, ht, atI_nat (j := 0) rfl, rfl, _, rfl, ite2 (fun c => absurd (of_decide_eq_true c) n2) (fun _ => ?_)⟩
      refine ⟨_, rfl, p, _, _, _, rfl, rfl, ht, atI_nat (j := 0) rfl, rfl, _, rfl, ite2 (fun c => absurd (of_decide_eq_true c) n3) (fun _ => ?_)⟩
      refine ⟨_, rfl, p, _, _, _, rfl, rfl, ht, atI_nat (j := 0) rfl, rfl, _, rfl, ite2 (fun c => absurd (of_decide_eq_true c) n4) (fun _ => ?_)⟩
      refine ⟨_, rfl, p, _, _, _, rfl, rfl, ht, atI_nat (j := 1) rfl, va, a, rfl, ia, by omega, fun p1 H1 s1 o1 => ?_⟩
      refine ⟨_, rfl, p, _, _, _, rfl, rfl, s1.tup ht, atI_nat (j := 2) rfl, vb, b, rfl, ib.same s1, by omega, fun p2 H2 s2 o2 => ?_⟩
      have ht2 := s2.tup (s1.tup ht)
      have fin : ∀ (x dx : Addr), H2 x = none → H2 dx = none → dx ≠ x → spTwoI (CY (.cmp g)) [.ref x, .ref p1, .ref p2] (upd (upd H2 dx (.own x)) x (.ins (CY (.cmp g)) dx [])) (fun v H3 => v = .non ∧ Q (.ref x) H3) E0 := by
        intro x dx hx hd hxd
        refine ⟨x, dx, _, _, rfl, upd_same, fun H3 h3 h4 => ⟨rfl, ?_⟩⟩
        have s3 : Same H2 H3 := by
          intro b' u e
          rw [h4 b' (ne_of_none e hx)]
          exact same_made hx hd hxd _ _ b' u e
        exact q x H3 (s1.trans (s2.trans s3)) ⟨x, dx, _, _, rfl, h3, o1.same (s2.trans s3), o2.same s3⟩
      cases g with
      | lt =>
        exact ⟨_, rfl, p, _, _, _, rfl, rfl, ht2, atI_nat (j := 0) rfl, rfl, _, rfl, ite2 (fun _ => ⟨_, rfl, _, rfl, fin⟩) (fun c => absurd (decide_eq_true rfl) c)⟩
      | le =>
        refine ⟨_, rfl, p, _, _, _, rfl, rfl, ht2, atI_nat (j := 0) rfl, rfl, _, rfl, ite2 (fun c => absurd (of_decide_eq_true c) (by decide +kernel)) (fun _ => ?_)⟩
        exact ⟨_, rfl, p, _, _, _, rfl, rfl, ht2, atI_nat (j := 0) rfl, rfl, _, rfl, ite2 (fun _ => ⟨_, rfl, _, rfl, fin⟩) (fun c => absurd (decide_eq_true rfl) c)⟩
      | eq =>
        refine ⟨_, rfl, p, _, _, _, rfl, rfl, ht2, atI_nat (j := 0) rfl, rfl, _, rfl, ite2 (fun c => absurd (of_decide_eq_true c) (by decide +kernel)) (fun _ => ?_)⟩
        refine ⟨_, rfl, p, _, _, _, rfl, rfl, ht2, atI_nat (j := 0) rfl, rfl, _, rfl, ite2 (fun c => absurd (of_decide_eq_true c) (by decide +kernel)) (fun _ => ?_)⟩
        exact ⟨_, rfl, p, _, _, _, rfl, rfl, ht2, atI_nat (j := 0) rfl, rfl, _, rfl, ite2 (fun _ => ⟨_, rfl, _, rfl, fin⟩) (fun c => absurd (decide_eq_true rfl) c)⟩
      | ne =>
        refine ⟨_, rfl, p, _, _, _, rfl, rfl, ht2, atI_nat (j := 0) rfl, rfl, _, rfl, ite2 (fun c => absurd (of_decide_eq_true c) (by decide +kernel)) (fun _ => ?_)⟩
        refine ⟨_, rfl, p, _, _, _, rfl, rfl, ht2, atI_nat (j := 0) rfl, rfl, _, rfl, ite2 (fun c => absurd (of_decide_eq_true c) (by decide +kernel)) (fun _ => ?_)⟩
        refine ⟨_, rfl, p, _, _, _, rfl, rfl, ht2, atI_nat (j := 0) rfl, rfl, _, rfl, ite2 (fun c => absurd (of_decide_eq_true c) (by decide +kernel)) (fun _ => ?_)⟩
        exact ⟨_, rfl, _, rfl, fin⟩
end
end Nw

set_option Elab.async false
set_option linter.all false
set_option maxRecDepth 100000
set_option maxHeartbeats 4000000
namespace Nw
open PySem L2
/-! ### data of tuples alone -/
mutual
def tOnly : Dt → Bool
  | .lst _ => false
  | .tup l => tOnlys l
  | _ => true
def tOnlys : List Dt → Bool
  | [] => true
  | a :: l => tOnly a && tOnlys l
end
mutual
theorem is_sb {K : PySem.W.Frag} {a : Addr} {H H' : Hp} {ys : List V} (ha : H a = some (.lst ys)) (s : Sb a H H') : ∀ {D : Dt} {v : V}, tOnly D = true → Is K H D v → Is K H' D v
  | .non, v, _, h => by rw [Is] at h ⊢; exact h
  | .bl _, v, _, h => by rw [Is] at h ⊢; exact h
  | .int _, v, _, h => by rw [Is] at h ⊢; exact h
  | .str _, v, _, h => by rw [Is] at h ⊢; exact h
  | .lst l, v, t, h => by rw [tOnly] at t; cases t
  | .tup l, v, t, h => by
    rw [Is] at h ⊢
    rw [tOnly] at t
    obtain ⟨p, xs, e, h1, h2⟩ := h
    exact ⟨p, xs, e, SqT.sb h1 ha s, iss_sb ha s t h2⟩
theorem iss_sb {K : PySem.W.Frag} {a : Addr} {H H' : Hp} {ys : List V} (ha : H a = some (.lst ys)) (s : Sb a H H') : ∀ {l : List Dt} {vs : List V}, tOnlys l = true → Iss K H l vs → Iss K H' l vs
  | [], vs, _, h => by rw [Iss] at h ⊢; exact h
  | d :: l, vs, t, h => by
    rw [Iss] at h ⊢
    rw [tOnlys, Bool.and_eq_true] at t
    obtain ⟨v, r, e, h1, h2⟩ := h
    exact ⟨v, r, e, is_sb ha s t.1 h1, iss_sb ha s t.2 h2⟩
end
theorem tr_only : ∀ t : Tr, tOnly (trD t) = true
  | .num n => by simp [trD, tOnly, tOnlys]
  | .nam n => by simp [trD, tOnly, tOnlys]
  | .op g l r => by simp [trD, tOnly, tOnlys, tr_only l, tr_only r]
theorem sy_only : ∀ t : Sy, tOnly (syD t) = true
  | .yes => by simp [syD, tOnly, tOnlys]
  | .cmp g l r => by simp [syD, tOnly, tOnlys, tr_only l, tr_only r]
  | .neg s => by simp [syD, tOnly, tOnlys, sy_only s]
  | .bin g l r => by simp [syD, tOnly, tOnlys, sy_only l, sy_only r]
theorem onlys_map {α : Type} {f : α → Dt} (h : ∀ x, tOnly (f x) = true) : ∀ l : List α, tOnlys (l.map f) = true
  | [] => by rw [List.map_nil, tOnlys]
  | a :: l => by rw [List.map_cons, tOnlys, h a, onlys_map h l]; rfl
theorem app_data {K : PySem.W.Frag} {α : Type} {D : α → Dt} (ho : ∀ x, tOnly (D x) = true) {H : Hp} {pl : Addr} {ys : List V} {xs : List α} {x : α} {v : V} (hl : H pl = some (.lst ys)) (hi : Iss K H (xs.map D) ys) (hv : Is K H (D x) v) : Iss K (upd H pl (.lst (ys ++ [v]))) ((xs ++ [x]).map D) (ys ++ [v]) := by
  rw [List.map_append]
  exact Iss.snoc (is_sb hl (Sb.upd pl H _) (ho x) hv) (iss_sb hl (Sb.upd pl H _) (onlys_map ho xs) hi)
theorem same_sb {H H' : Hp} {p : Addr} (hp : H p = none) (o : HO) (sb : Sb p (upd H p o) H') : Same H H' := fun b u e => sb b u (ne_of_none e hp) (by rw [upd_ne (ne_of_none e hp)]; exact e)
theorem same_made2 {H H3 : Hp} {x dx : Addr} {o o' : HO} (hx : H x = none) (hd : H dx = none) (n : dx ≠ x) (h4 : ∀ b, b ≠ x → H3 b = upd (upd H dx o) x o' b) : Same H H3 := by
  intro b u e
  rw [h4 b (ne_of_none e hx)]
  exact same_made hx hd n _ _ b u e
theorem iss_at {K : PySem.W.Frag} {H : Hp} {α : Type} {D : α → Dt} {xs : List α} {ys : List V} (h : Iss K H (xs.map D) ys) {i : Nat} (hi : i < xs.length) : ∃ v, ys[i]? = some v ∧ Is K H (D xs[i]) v := by
  have hl := h.length
  rw [List.length_map] at hl
  have hi' : i < ys.length := by omega
  obtain ⟨d, e, h1⟩ := h.get (i := i) (List.getElem?_eq_getElem hi')
  rw [List.getElem?_map, List.getElem?_eq_getElem hi] at e
  cases e
  exact ⟨ys[i], List.getElem?_eq_getElem hi', h1⟩
theorem eq_nilD {α : Type} (D : α → Dt) (ms : List α) : dEq (.lst (ms.map D)) (.lst []) = ms.isEmpty := by
  cases ms with
  | nil => rw [List.map_nil, dEq, dEqs]; rfl
  | cons m r => rw [List.map_cons, dEq]; simp [dEqs]
/-! ### places, changes, deeds -/
structure Pl where
  n : Str
  lo : Int
  hi : Int
  st : Int
structure PlOk (p : Pl) : Prop where
  a : 0 ≤ p.lo
  b : p.lo ≤ 94
  c : p.lo ≤ p.hi
  d : p.hi ≤ p.lo + 5
  e : p.lo ≤ p.st
  f : p.st ≤ p.hi
def plD (p : Pl) : Dt := .tup [.str p.n, .int p.lo, .int p.hi, .int p.st]
theorem is_pl {K : PySem.W.Frag} {H : Hp} {p : Pl} {v : V} (h : Is K H (plD p) v) : ∃ r, v = .ref r ∧ SqT K H r [.str p.n, .int p.lo, .int p.hi, .int p.st] := by
  rw [plD, Is] at h
  obtain ⟨r, xs, e, h1, h2⟩ := h
  simp only [Iss, Is] at h2
  obtain ⟨v1, r1, rfl, rfl, v2, r2, rfl, rfl, v3, r3, rfl, rfl, v4, r4, rfl, rfl, rfl⟩ := h2
  exact ⟨r, e, h1⟩
theorem pl_is {K : PySem.W.Frag} {H : Hp} {p : Pl} {r : Addr} (h : SqT K H r [.str p.n, .int p.lo, .int p.hi, .int p.st]) : Is K H (plD p) (.ref r) := by
  rw [plD, Is]
  exact ⟨r, _, rfl, h, .cons (by rw [Is]) (.cons (by rw [Is]) (.cons (by rw [Is]) (.cons (by rw [Is]) .nil)))⟩
theorem dep_pls : ∀ ps : List Pl, deps (ps.map plD) ≤ 1
  | [] => by simp [deps]
  | p :: ps => by
    have h := dep_pls ps
    rw [List.map_cons, deps]
    have : dep (plD p) = 1 := by simp [plD, dep, deps]
    omega
theorem pl_only (p : Pl) : tOnly (plD p) = true := by simp [plD, tOnly, tOnlys]
def chD : Ch → Dt
  | .cha n => .tup [.str n]
  | .put n t => .tup [.str n, trD t]
  | .any n t u => .tup [.str n, trD t, trD u]
theorem ch_only : ∀ c : Ch, tOnly (chD c) = true
  | .cha n => by simp [chD, tOnly, tOnlys]
  | .put n t => by simp [chD, tOnly, tOnlys, tr_only t]
  | .any n t u => by simp [chD, tOnly, tOnlys, tr_only t, tr_only u]
theorem is_put {K : PySem.W.Frag} {H : Hp} {n : Str} {t : Tr} {v : V} (h : Is K H (chD (.put n t)) v) : ∃ p a, v = .ref p ∧ SqT K H p [.str n, a] ∧ Is K H (trD t) a := by
  rw [chD, Is] at h
  obtain ⟨p, xs, e, h1, h2⟩ := h
  simp only [Iss] at h2
  obtain ⟨v1, r1, rfl, i1, v2, r2, rfl, i2, rfl⟩ := h2
  rw [Is] at i1
  subst i1
  exact ⟨p, v2, e, h1, i2⟩
theorem is_any {K : PySem.W.Frag} {H : Hp} {n : Str} {t u : Tr} {v : V} (h : Is K H (chD (.any n t u)) v) : ∃ p a b, v = .ref p ∧ SqT K H p [.str n, a, b] ∧ Is K H (trD t) a ∧ Is K H (trD u) b := by
  rw [chD, Is] at h
  obtain ⟨p, xs, e, h1, h2⟩ := h
  simp only [Iss] at h2
  obtain ⟨v1, r1, rfl, i1, v2, r2, rfl, i2, v3, r3, rfl, i3, rfl⟩ := h2
  rw [Is] at i1
  subst i1
  exact ⟨p, v2, v3, e, h1, i2, i3⟩
theorem put_is {K : PySem.W.Frag} {H : Hp} {p : Addr} {n : Str} {t : Tr} {a : V} (h : SqT K H p [.str n, a]) (h1 : Is K H (trD t) a) : Is K H (chD (.put n t)) (.ref p) := by
  rw [chD, Is]
  exact ⟨p, _, rfl, h, .cons (by rw [Is]) (.cons h1 .nil)⟩
theorem any_is {K : PySem.W.Frag} {H : Hp} {p : Addr} {n : Str} {t u : Tr} {a b : V} (h : SqT K H p [.str n, a, b]) (h1 : Is K H (trD t) a) (h2 : Is K H (trD u) b) : Is K H (chD (.any n t u)) (.ref p) := by
  rw [chD, Is]
  exact ⟨p, _, rfl, h, .cons (by rw [Is]) (.cons h1 (.cons h2 .nil))⟩
structure De where
  nm : Str
  wh : Sy
  chs : List Ch
structure DeOk (l : List Str) (d : De) : Prop where
  wh : FitsS l d.wh
  dp : dps d.wh < 4
  ch : ∀ c ∈ d.chs, FitsC l 8 c ∧ kc c ≠ .cha
  ln : d.chs.length ≤ 8
def deD (d : De) : Dt := .tup [.str d.nm, syD d.wh, .tup (d.chs.map chD)]
theorem de_only (d : De) : tOnly (deD d) = true := by simp [deD, tOnly, tOnlys, sy_only d.wh, onlys_map ch_only d.chs]
theorem is_de {K : PySem.W.Frag} {H : Hp} {d : De} {v : V} (h : Is K H (deD d) v) : ∃ p a c ys, v = .ref p ∧ SqT K H p [.str d.nm, a, .ref c] ∧ Is K H (syD d.wh) a ∧ SqT K H c ys ∧ Iss K H (d.chs.map chD) ys := by
  rw [deD, Is] at h
  obtain ⟨p, xs, e, h1, h2⟩ := h
  simp only [Iss] at h2
  obtain ⟨v1, r1, rfl, i1, v2, r2, rfl, i2, v3, r3, rfl, i3, rfl⟩ := h2
  rw [Is] at i1
  rw [Is] at i3
  subst i1
  obtain ⟨c, ys, rfl, j1, j2⟩ := i3
  exact ⟨p, v2, c, ys, e, h1, i2, j1, j2⟩
theorem de_is {K : PySem.W.Frag} {H : Hp} {d : De} {p c : Addr} {a : V} {ys : List V} (h : SqT K H p [.str d.nm, a, .ref c]) (h1 : Is K H (syD d.wh) a) (h2 : SqT K H c ys) (h3 : Iss K H (d.chs.map chD) ys) : Is K H (deD d) (.ref p) := by
  rw [deD, Is]
  exact ⟨p, _, rfl, h, .cons (by rw [Is]) (.cons h1 (.cons (by rw [Is]; exact ⟨c, ys, rfl, h2, h3⟩) .nil))⟩
section
variable {P : Program} {w : World} {K : PySem.W.Frag} {mg : Str → Option Value} {base : Heap}
def spPlaces (K : PySem.W.Frag) : Sp := fun vs H Q _ => ∃ (a b : Addr) (ns : List Int) (st : Int) (l : List Str), vs = [.ref a, .int st, .ref b] ∧ SqL K H a (ns.map V.int) ∧ ns.length ≤ 63 ∧ 0 ≤ st ∧ st ≤ 100 ∧ H b = some (.lst (l.map V.str)) ∧ l.length ≤ 8 ∧
  ∀ (p : Addr) (H' : Hp) (ps : List Pl) (ys : List V), Same H H' → H p = none → H' p = some (.lst ys) → Iss K H' (ps.map plD) ys → ps.map (·.n) = l → (∀ q ∈ ps, PlOk q) → Q (.ref p) H'
theorem scPlaces : FnScope ["_law_script", "_law_start", "_law_names_here", "_law_places_here", "_law_k", "_law_state", "_law_far", "_law_wide", "_law_first", "_law_low"] ["_law_script", "_law_start", "_law_names_here"] (defScope sPlaces) := ⟨rfl, rfl, rfl, by decide +kernel, rfl, by decide +kernel, by decide +kernel⟩
theorem ok_places {f fA fB fD : Addr} {fd fdA fdB fdD : FuncData} (B : Bl mg) (F : Fun K "_law_places" "_law_places" sPlaces f fd) (FA : Fun K "_law_at" "_law_at" sAt fA fdA) (bA : Binds K fdA ["_law_script", "_law_k"] []) (mA : mg "_law_at" = some (.ref fA))
    (FB : Fun K "_law_begin" "_law_begin" sBegin fB fdB) (bB : Binds K fdB ["_law_cell"] []) (mB : mg "_law_begin" = some (.ref fB)) (FD : Fun K "_law_draw" "_law_draw" sDraw fD fdD) (bD : Binds K fdD ["_law_state", "_law_many"] []) (mD : mg "_law_draw" = some (.ref fD)) : FnOk P w K mg base CX0 2 f fd ["_law_script", "_law_start", "_law_names_here"] (spPlaces K) := by
  have GA : FnOk P w K mg base CX0 1 fA fdA ["_law_script", "_law_k"] (spAt K) := ok_at B FA
  have GB : FnOk P w K mg base CX0 1 fB fdB ["_law_cell"] spBegin := ok_begin FB
  have GD : FnOk P w K mg base CX0 1 fD fdD ["_law_state", "_law_many"] spDraw := ok_draw FD
  refine F.ok scPlaces (fun vs H Q E h => ?_) (fun cdv A outer s H vs Q E hrA h => ?_)
  · obtain ⟨a, b, ns, st, l, rfl, _⟩ := h
    rfl
  obtain ⟨a, b, ns, st, l, rfl, hS, h63, st0, st1, hb, l8, q⟩ := h
  refine ⟨_, (@pss_cons _ _ _ _ _ (@ps_set _ _ 3 _ _ _ _ scPlaces.nd rfl (Or.inl rfl) (@pe_lst _ _ _ _ pa_nil) rfl (Or.inl rfl)) (@pss_cons _ _ _ _ _ (@ps_for _ _ _ _ _ _ _ _ PassesOwn.never rfl (pi_range1 rfl B.range (@pa_cons _ _ _ _ _ (pe_callB call_len_seq (by rfl) B.len PySem.boot_len (@pa_cons _ _ _ _ _ (pv 2) pa_nil (by rfl))) pa_nil (by rfl))) (pg_name (i := 4) scPlaces.nd rfl (Or.inl rfl)) (@pss_cons _ _ _ _ _ (@ps_set _ _ 5 _ _ _ _ scPlaces.nd rfl (Or.inl rfl) (pe_call GB hrA (by rfl) mB FB.kp bB .nil pass0 (@pa_cons _ _ _ _ _ (pe_call GA hrA (by rfl) mA FA.kp bA .nil pass0 (@pa_cons _ _ _ _ _ (pv 0) (@pa_cons _ _ _ _ _ (@pe_op _ _ _ _ _ _ _ _ op_add (pv 1) (pv 4)) pa_nil (by rfl)) (by rfl))) pa_nil (by rfl))) rfl (Or.inl rfl)) (@pss_cons _ _ _ _ _ (@ps_set _ _ 6 _ _ _ _ scPlaces.nd rfl (Or.inl rfl) (pe_call GD hrA (by rfl) mD FD.kp bD .nil pass0 (@pa_cons _ _ _ _ _ (pv 5) (@pa_cons _ _ _ _ _ pe_int pa_nil (by rfl)) (by rfl))) rfl (Or.inl rfl)) (@pss_cons _ _ _ _ _ (@ps_set _ _ 7 _ _ _ _ scPlaces.nd rfl (Or.inl rfl) (pe_call GD hrA (by rfl) mD FD.kp bD .nil pass0 (@pa_cons _ _ _ _ _ (pv 5) (@pa_cons _ _ _ _ _ pe_int pa_nil (by rfl)) (by rfl))) rfl (Or.inl rfl)) (@pss_cons _ _ _ _ _ (@ps_set _ _ 8 _ _ _ _ scPlaces.nd rfl (Or.inl rfl) (pe_call GD hrA (by rfl) mD FD.kp bD .nil pass0 (@pa_cons _ _ _ _ _ (pv 5) (@pa_cons _ _ _ _ _ (@pe_op _ _ _ _ _ _ _ _ op_add (pv 7) pe_int) pa_nil (by rfl)) (by rfl))) rfl (Or.inl rfl)) (@pss_cons _ _ _ _ _ (@ps_set _ _ 9 _ _ _ _ scPlaces.nd rfl (Or.inl rfl) (@pe_op _ _ _ _ _ _ _ _ op_mul (pv 6) (pe_call GD hrA (by rfl) mD FD.kp bD .nil pass0 (@pa_cons _ _ _ _ _ (pv 5) (@pa_cons _ _ _ _ _ pe_int pa_nil (by rfl)) (by rfl)))) rfl (Or.inl rfl)) (@pss_one _ _ _ (@ps_expr _ _ _ _ (pe_bm PySem.F.plainAttrs_list PySem.F.slot_list_append PySem.F.type_list_append mt_append (pv 3) (@pa_cons _ _ _ _ _ (@pe_tup _ _ _ _ _ (@pa_cons _ _ _ _ _ (@pe_ix _ _ _ _ _ _ (rIxL K) ix_list (pv 2) (pv 4) (fun _ _ => rfl)) (@pa_cons _ _ _ _ _ (pv 9) (@pa_cons _ _ _ _ _ (@pe_op _ _ _ _ _ _ _ _ op_add (pv 9) (pv 7)) (@pa_cons _ _ _ _ _ (@pe_op _ _ _ _ _ _ _ _ op_add (pv 9) (pv 8)) pa_nil (by rfl)) (by rfl)) (by rfl)) (by rfl))) pa_nil (by rfl))) (by rfl)))))))) (by intro _; rfl)) (@pss_one _ _ _ (@ps_ret _ _ _ _ (pv 3))))), ?_⟩
  refine ⟨by decide, fun pl hpl => ?_⟩
  have s1 := same_new hpl (.lst [])
  refine ⟨_, rfl, b, _, rfl, .inl (SqL.of (s1 _ _ hb)), _, rfl, by omega, ?_, ?_⟩
  · rw [List.length_map]; omega
  refine for_range (n := (((l.map V.str).length : Nat) : Int).toNat) (fun i σ H2 => ∃ (v1 v2 v3 v4 v5 v6 : Option V) (ys : List V) (ps : List Pl), σ = [some (.ref a), some (.int st), some (.ref b), some (.ref pl), v1, v2, v3, v4, v5, v6] ∧ Same H H2 ∧ H2 pl = some (.lst ys) ∧ Iss K H2 (ps.map plD) ys ∧ ps.map (·.n) = l.take i ∧ ∀ p ∈ ps, PlOk p) ⟨none, none, none, none, none, none, [], [], rfl, s1, upd_same, .nil, rfl, fun _ h => nomatch h⟩ ?_ ?_
  · rintro i σ H2 hi ⟨v1, v2, v3, v4, v5, v6, ys, ps, rfl, g1, g2, g3, g4, g5⟩
    have hi : i < l.length := by rw [List.length_map] at hi; omega
    have lp : ps.length = i := by
      have := congrArg List.length g4
      rw [List.length_map, List.length_take] at this
      omega
    have ly : ys.length = i := by rw [g3.length, List.length_map, lp]
    refine ⟨_, rfl, _, rfl, _, rfl, _, _, rfl, rfl, a, ns, _, rfl, g1.seq hS, h63, by omega, by omega, fun r H3 s3 => ⟨r, rfl, fun sp hsp => ?_⟩⟩
    refine ⟨_, rfl, sp, _, _, 2, rfl, upd_same, by decide, by decide, fun fa z1 a0 a1 => ?_⟩
    rw [upd_upd]
    refine ⟨_, rfl, sp, _, _, 6, rfl, upd_same, by decide, by decide, fun wd z2 w0 w1 => ?_⟩
    rw [upd_upd]
    refine ⟨_, rfl, _, rfl, _, _, rfl, rfl, sp, _, _, wd + 1, rfl, upd_same, by omega, by omega, fun fi z3 f0 f1 => ?_⟩
    rw [upd_upd]
    refine ⟨_, rfl, _, rfl, sp, _, _, 95, rfl, upd_same, by decide, by decide, fun lo z4 l0 l1 => ⟨_, _, rfl, rfl, .inl ⟨by omega, by omega⟩, ?_⟩⟩
    rw [upd_upd]
    have s4 := s3.trans (same_new hsp (.lst [.int z4, .int (r % 2)]))
    generalize upd H3 sp (.lst [.int z4, .int (r % 2)]) = H4 at s4 ⊢
    have t4 := g1.trans s4
    have e4 := s4 _ _ g2
    have i4 := g3.same s4
    have hat : atI (l.map V.str) (0 + (i : Int)) = some (.str l[i]) := by
      rw [Int.zero_add]
      exact atI_nat (by rw [List.getElem?_map, List.getElem?_eq_getElem hi]; rfl)
    refine ⟨_, rfl, .inl ⟨rfl, _, SqL.of e4⟩, _, rfl, _, rfl, b, _, _, _, rfl, rfl, SqL.of (t4 _ _ hb), hat, _, rfl, _, rfl, _, rfl, _, _, rfl, rfl, _, rfl, _, rfl, _, _, rfl, rfl, by show 4 ≤ sizeLine; decide, fun n hn => ⟨pl, _, _, rfl, rfl, (same_new hn _) _ _ e4, small1000 (by omega), ?_⟩⟩
    have bl : 0 ≤ fa * lo ∧ fa * lo ≤ 94 := by
      have : fa = 0 ∨ fa = 1 := by omega
      rcases this with rfl | rfl <;> omega
    have s5 := same_new hn (.tup [V.str l[i], V.int (fa * lo), V.int (fa * lo + wd), V.int (fa * lo + fi)])
    refine ⟨_, _, _, _, _, _, _, ps ++ [⟨l[i], fa * lo, fa * lo + wd, fa * lo + fi⟩], rfl, same_put (t4.trans s5) hpl _, upd_same, ?_, ?_, ?_⟩
    · exact app_data pl_only (s5 _ _ e4) (i4.same s5) (pl_is (SqT.of upd_same))
    · rw [List.map_append, g4, List.take_add_one, List.getElem?_eq_getElem hi]
      rfl
    · intro p hp
      rcases List.mem_append.mp hp with z | z
      · exact g5 p z
      · rw [List.mem_singleton.mp z]
        exact ⟨bl.1, bl.2, by show fa * lo ≤ fa * lo + wd; omega, by show fa * lo + wd ≤ fa * lo + 5; omega, by show fa * lo ≤ fa * lo + fi; omega, by show fa * lo + fi ≤ fa * lo + wd; omega⟩
  · rintro σ H2 ⟨v1, v2, v3, v4, v5, v6, ys, ps, rfl, g1, g2, g3, g4, g5⟩
    rw [List.take_of_length_le (by rw [List.length_map]; omega)] at g4
    exact ⟨_, rfl, q pl H2 ps ys g1 hpl g2 g3 g4 g5⟩
def spChange (K : PySem.W.Frag) : Sp := fun vs H Q _ => ∃ (c : Int) (v : V) (b : Addr) (p : Pl) (l : List Str), vs = [.int c, v, .ref b] ∧ Is K H (plD p) v ∧ H b = some (.lst (l.map V.str)) ∧ l.length ≤ 8 ∧ ∀ (x : Addr) (H' : Hp) (g : Ch), Same H H' → Is K H' (chD g) (.ref x) → FitsC l 8 g → kc g ≠ .cha → chN g = p.n → Q (.ref x) H'
theorem scChange : FnScope ["_law_cell", "_law_place", "_law_names_here", "_law_state", "_law_wide", "_law_one"] ["_law_cell", "_law_place", "_law_names_here"] (defScope sChange) := ⟨rfl, rfl, rfl, by decide +kernel, rfl, by decide +kernel, by decide +kernel⟩
theorem ok_change {f fS fB fD : Addr} {fd fdS fdB fdD : FuncData} (B : Bl mg) (F : Fun K "_law_change" "_law_change" sChange f fd) (FS : Fun K "_law_sum" "_law_sum" sSum fS fdS) (bS : Binds K fdS ["_law_state", "_law_names_here", "_law_near", "_law_depth"] []) (mS : mg "_law_sum" = some (.ref fS))
    (FB : Fun K "_law_begin" "_law_begin" sBegin fB fdB) (bB : Binds K fdB ["_law_cell"] []) (mB : mg "_law_begin" = some (.ref fB)) (FD : Fun K "_law_draw" "_law_draw" sDraw fD fdD) (bD : Binds K fdD ["_law_state", "_law_many"] []) (mD : mg "_law_draw" = some (.ref fD)) : FnOk P w K mg base CX0 7 f fd ["_law_cell", "_law_place", "_law_names_here"] (spChange K) := by
  have GB : FnOk P w K mg base CX0 1 fB fdB ["_law_cell"] spBegin := ok_begin FB
  have GD : FnOk P w K mg base CX0 1 fD fdD ["_law_state", "_law_many"] spDraw := ok_draw FD
  have GS : FnOk P w K mg base CX0 6 fS fdS ["_law_state", "_law_names_here", "_law_near", "_law_depth"] (spSum K 4) := ok_sum B FS bS mS FD bD mD 4
  refine F.ok scChange (fun vs H Q E h => ?_) (fun cdv A outer s H vs Q E hrS h => ?_)
  · obtain ⟨c, v, b, p, l, rfl, _⟩ := h
    rfl
  obtain ⟨c, v, b, p, l, rfl, ip, hb, l8, q⟩ := h
  have hrA : Room 1 _ := hrS.mono (by decide)
  obtain ⟨r, rfl, hr⟩ := is_pl ip
  refine ⟨_, (@pss_cons _ _ _ _ _ (@ps_set _ _ 3 _ _ _ _ scChange.nd rfl (Or.inl rfl) (pe_call GB hrA (by rfl) mB FB.kp bB .nil pass0 (@pa_cons _ _ _ _ _ (pv 0) pa_nil (by rfl))) rfl (Or.inl rfl)) (@pss_cons _ _ _ _ _ (@ps_set _ _ 4 _ _ _ _ scChange.nd rfl (Or.inl rfl) (pe_call GD hrA (by rfl) mD FD.kp bD .nil pass0 (@pa_cons _ _ _ _ _ (pv 3) (@pa_cons _ _ _ _ _ pe_int pa_nil (by rfl)) (by rfl))) rfl (Or.inl rfl)) (@pss_cons _ _ _ _ _ (@ps_set _ _ 5 _ _ _ _ scChange.nd rfl (Or.inl rfl) (pe_call GS hrS (by rfl) mS FS.kp bS .nil pass0 (@pa_cons _ _ _ _ _ (pv 3) (@pa_cons _ _ _ _ _ (pv 2) (@pa_cons _ _ _ _ _ (@pe_ix _ _ _ _ _ _ (rIxT K) ix_tup (pv 1) pe_int (fun _ _ => rfl)) (@pa_cons _ _ _ _ _ pe_int pa_nil (by rfl)) (by rfl)) (by rfl)) (by rfl))) rfl (Or.inl rfl)) (@pss_cons _ _ _ _ _ (@ps_if _ _ _ _ _ _ _ _ (@pt_cmpR _ _ _ _ _ _ _ _ op_eq (pv 4) pe_int (nomark _)) (@pss_one _ _ _ (@ps_ret _ _ _ _ (@pe_tup _ _ _ _ _ (@pa_cons _ _ _ _ _ (@pe_ix _ _ _ _ _ _ (rIxT K) ix_tup (pv 1) pe_int (fun _ _ => rfl)) (@pa_cons _ _ _ _ _ (pv 5) (@pa_cons _ _ _ _ _ (pe_call GS hrS (by rfl) mS FS.kp bS .nil pass0 (@pa_cons _ _ _ _ _ (pv 3) (@pa_cons _ _ _ _ _ (pv 2) (@pa_cons _ _ _ _ _ (@pe_op _ _ _ _ _ _ _ _ op_add (@pe_ix _ _ _ _ _ _ (rIxT K) ix_tup (pv 1) pe_int (fun _ _ => rfl)) pe_int) (@pa_cons _ _ _ _ _ pe_int pa_nil (by rfl)) (by rfl)) (by rfl)) (by rfl))) pa_nil (by rfl)) (by rfl)) (by rfl))))) pss_nil) (@pss_one _ _ _ (@ps_ret _ _ _ _ (@pe_tup _ _ _ _ _ (@pa_cons _ _ _ _ _ (@pe_ix _ _ _ _ _ _ (rIxT K) ix_tup (pv 1) pe_int (fun _ _ => rfl)) (@pa_cons _ _ _ _ _ (pv 5) pa_nil (by rfl)) (by rfl))))))))), ?_⟩
  refine ⟨_, rfl, c, rfl, fun a ha => ?_⟩
  refine ⟨_, rfl, a, _, _, 3, rfl, upd_same, by decide, by decide, fun wd z w0 w1 => ?_⟩
  rw [upd_upd]
  have s1 := same_new ha (.lst [.int z, .int (c % 2)])
  have S1 : StAt (upd H a (.lst [.int z, .int (c % 2)])) a b (c % 2) l := ⟨⟨z, upd_same⟩, s1 _ _ hb⟩
  have b1 : Sb a (upd H a (.lst [.int z, .int (c % 2)])) (upd H a (.lst [.int z, .int (c % 2)])) := fun _ _ _ e => e
  have k1 : ∀ H', Sb a (upd H a (.lst [.int z, .int (c % 2)])) H' → Same H H' := fun H' => same_sb ha _
  generalize upd H a (.lst [.int z, .int (c % 2)]) = H1 at s1 S1 b1 k1 ⊢
  obtain ⟨z1, hz1⟩ := S1.st
  refine ⟨_, rfl, _, rfl, _, rfl, r, _, _, _, rfl, rfl, s1.tup hr, atI_nat (j := 1) rfl, a, b, _, _, 2, l, rfl, S1, l8, by decide, by decide, fun p1 H2 t c2 S2 i2 f2 l2 e2 => ?_⟩
  have hr2 := (k1 H2 c2).tup hr
  have l2 : lv t ≤ 8 := l2
  have e2 : dp t ≤ 3 := e2
  refine ⟨_, rfl, rfl, _, rfl, ite2 (fun _ => ?_) (fun _ => ?_)⟩
  · refine ⟨_, rfl, r, _, _, _, rfl, rfl, hr2, atI_nat (j := 0) rfl, _, rfl, _, rfl, _, rfl, _, rfl, r, _, _, _, rfl, rfl, hr2, atI_nat (j := 1) rfl, _, _, rfl, rfl, a, b, _, _, 1, l, rfl, S2, l8, by decide, by decide, fun p2 H3 u c3 S3 i3 f3 l3 e3 => ?_⟩
    obtain ⟨z2, hz2⟩ := S2.st
    have l3 : lv u ≤ 4 := l3
    have e3 : dp u ≤ 2 := e3
    refine ⟨by show 3 ≤ sizeLine; decide, fun x hx => ?_⟩
    have sx := same_new hx (.tup [V.str p.n, .ref p1, .ref p2])
    exact q x _ (.any p.n t u) ((k1 H3 (c2.trans c3)).trans sx) (any_is (SqT.of upd_same) ((tr_sb hz2 c3 i2).same sx) (i3.same sx)) ⟨⟨f2, by omega, by omega⟩, f3, by omega, by omega⟩ (by intro z; cases z) rfl
  · refine ⟨_, rfl, r, _, _, _, rfl, rfl, hr2, atI_nat (j := 0) rfl, _, rfl, by show 2 ≤ sizeLine; decide, fun x hx => ?_⟩
    have sx := same_new hx (.tup [V.str p.n, .ref p1])
    exact q x _ (.put p.n t) ((k1 H2 c2).trans sx) (put_is (SqT.of upd_same) (i2.same sx)) ⟨f2, by omega, by omega⟩ (by intro z; cases z) rfl
def spDeed (K : PySem.W.Frag) : Sp := fun vs H Q _ => ∃ (a b : Addr) (ns : List Int) (st : Int) (nm : Str) (ps : List Pl) (ys : List V), vs = [.ref a, .int st, .str nm, .ref b] ∧ SqL K H a (ns.map V.int) ∧ ns.length ≤ 63 ∧ 0 ≤ st ∧ st ≤ 100 ∧ H b = some (.lst ys) ∧ Iss K H (ps.map plD) ys ∧ ps.length ≤ 8 ∧
  ∀ (x : Addr) (H' : Hp) (e : De), Same H H' → Is K H' (deD e) (.ref x) → e.nm = nm → DeOk (ps.map (·.n)) e → Q (.ref x) H'
theorem scDeed : FnScope ["_law_script", "_law_start", "_law_called", "_law_places_here", "_law_names_here", "_law_near", "_law_when", "_law_state", "_law_many", "_law_first", "_law_changes", "_law_k", "_law_place"] ["_law_script", "_law_start", "_law_called", "_law_places_here"] (defScope sDeed) := ⟨rfl, rfl, rfl, by decide +kernel, rfl, by decide +kernel, by decide +kernel⟩
theorem nd_scDeed1 : (["_law_script", "_law_start", "_law_called", "_law_places_here", "_law_names_here", "_law_near", "_law_when", "_law_state", "_law_many", "_law_first", "_law_changes", "_law_k", "_law_place"] : List Str).Nodup := by decide +kernel
theorem ok_deed {f fA fS fB fD fY fC : Addr} {fd fdA fdS fdB fdD fdY fdC : FuncData} (B : Bl mg) (F : Fun K "_law_deed" "_law_deed" sDeed f fd) (FA : Fun K "_law_at" "_law_at" sAt fA fdA) (bA : Binds K fdA ["_law_script", "_law_k"] []) (mA : mg "_law_at" = some (.ref fA))
    (FS : Fun K "_law_sum" "_law_sum" sSum fS fdS) (bS : Binds K fdS ["_law_state", "_law_names_here", "_law_near", "_law_depth"] []) (mS : mg "_law_sum" = some (.ref fS))
    (FB : Fun K "_law_begin" "_law_begin" sBegin fB fdB) (bB : Binds K fdB ["_law_cell"] []) (mB : mg "_law_begin" = some (.ref fB)) (FD : Fun K "_law_draw" "_law_draw" sDraw fD fdD) (bD : Binds K fdD ["_law_state", "_law_many"] []) (mD : mg "_law_draw" = some (.ref fD))
    (FY : Fun K "_law_saying" "_law_saying" sSaying fY fdY) (bY : Binds K fdY ["_law_state", "_law_names_here", "_law_near", "_law_depth"] []) (mY : mg "_law_saying" = some (.ref fY))
    (FC : Fun K "_law_change" "_law_change" sChange fC fdC) (bC : Binds K fdC ["_law_cell", "_law_place", "_law_names_here"] []) (mC : mg "_law_change" = some (.ref fC)) : FnOk P w K mg base CX0 12 f fd ["_law_script", "_law_start", "_law_called", "_law_places_here"] (spDeed K) := by
  have GA : FnOk P w K mg base CX0 1 fA fdA ["_law_script", "_law_k"] (spAt K) := ok_at B FA
  have GB : FnOk P w K mg base CX0 1 fB fdB ["_law_cell"] spBegin := ok_begin FB
  have GD : FnOk P w K mg base CX0 1 fD fdD ["_law_state", "_law_many"] spDraw := ok_draw FD
  have GY : FnOk P w K mg base CX0 11 fY fdY ["_law_state", "_law_names_here", "_law_near", "_law_depth"] (spSay K 4) := ok_say B FY bY mY FS bS mS FD bD mD 4
  have GC : FnOk P w K mg base CX0 7 fC fdC ["_law_cell", "_law_place", "_law_names_here"] (spChange K) := ok_change B FC FS bS mS FB bB mB FD bD mD
  refine F.ok scDeed (fun vs H Q E h => ?_) (fun cdv A outer s H vs Q E hrY h => ?_)
  · obtain ⟨a, b, ns, st, nm, ps, ys, rfl, _⟩ := h
    rfl
  obtain ⟨a, b, ns, st, nm, ps, ys, rfl, hS, h63, st0, st1, hb, hp, l8, q⟩ := h
  have hrA : Room 1 _ := hrY.mono (by decide)
  have hrC : Room 7 _ := hrY.mono (by decide)
  have hu := hu60 hrY
  have ly : ys.length = ps.length := by rw [hp.length, List.length_map]
  refine ⟨_, (@pss_cons _ _ _ _ _ (ps_comp (NX := ["_law_script", "_law_start", "_law_called", "_law_places_here", "_law_names_here", "_law_near", "_law_when", "_law_state", "_law_many", "_law_first", "_law_changes", "_law_k", "_law_place"]) (N := ["_law_script", "_law_start", "_law_called", "_law_places_here", "_law_names_here", "_law_near", "_law_when", "_law_state", "_law_many", "_law_first", "_law_changes", "_law_k", "_law_place"]) (ms := [true, true, true, true, true, true, true, true, true, true, true, true, false]) (ks := [12]) (out := defScope sDeed) (by exact ⟨rfl, by decide +kernel, by decide +kernel, by decide +kernel, by decide +kernel, by decide +kernel⟩) rfl rfl rfl (i := 4) scDeed.nd rfl (Or.inl rfl) (@pi_list _ _ _ _ (pv 3)) (@sets_name 12) (by decide) (fun C ex s H => (pg_name (i := 12) nd_scDeed1 rfl (Or.inl rfl))) (fun C ex s H => pts_nil) (fun C ex s H => (@pe_ix _ _ _ _ _ _ (rIxT K) ix_tup (pv 12) pe_int (fun _ _ => rfl))) (by with_unfolding_all rfl)) (@pss_cons _ _ _ _ _ (@ps_set _ _ 5 _ _ _ _ scDeed.nd rfl (Or.inl rfl) pe_int rfl (Or.inl rfl)) (@pss_cons _ _ _ _ _ (@ps_cut _ _ _ (@ps_if _ _ _ _ _ _ _ _ (@pt_cmpR _ _ _ _ _ _ _ _ (@op_neD _ hu) (pv 3) (@pe_lst _ _ _ _ pa_nil) (nomark _)) (@pss_one _ _ _ (@ps_set _ _ 5 _ _ _ _ scDeed.nd rfl (Or.inl rfl) (@pe_ix _ _ _ _ _ _ (rIxT K) ix_tup (@pe_ix _ _ _ _ _ _ (rIxL K) ix_list (pv 3) pe_int (fun _ _ => rfl)) pe_int (fun _ _ => rfl)) rfl (Or.inl rfl))) pss_nil)) (@pss_cons _ _ _ _ _ (@ps_set _ _ 6 _ _ _ _ scDeed.nd rfl (Or.inl rfl) (pe_call GY hrY (by rfl) mY FY.kp bY .nil pass0 (@pa_cons _ _ _ _ _ (pe_call GB hrA (by rfl) mB FB.kp bB .nil pass0 (@pa_cons _ _ _ _ _ (pe_call GA hrA (by rfl) mA FA.kp bA .nil pass0 (@pa_cons _ _ _ _ _ (pv 0) (@pa_cons _ _ _ _ _ (pv 1) pa_nil (by rfl)) (by rfl))) pa_nil (by rfl))) (@pa_cons _ _ _ _ _ (pv 4) (@pa_cons _ _ _ _ _ (pv 5) (@pa_cons _ _ _ _ _ pe_int pa_nil (by rfl)) (by rfl)) (by rfl)) (by rfl))) rfl (Or.inl rfl)) (@pss_cons _ _ _ _ _ (@ps_set _ _ 7 _ _ _ _ scDeed.nd rfl (Or.inl rfl) (pe_call GB hrA (by rfl) mB FB.kp bB .nil pass0 (@pa_cons _ _ _ _ _ (pe_call GA hrA (by rfl) mA FA.kp bA .nil pass0 (@pa_cons _ _ _ _ _ (pv 0) (@pa_cons _ _ _ _ _ (@pe_op _ _ _ _ _ _ _ _ op_add (pv 1) pe_int) pa_nil (by rfl)) (by rfl))) pa_nil (by rfl))) rfl (Or.inl rfl)) (@pss_cons _ _ _ _ _ (@ps_set _ _ 8 _ _ _ _ scDeed.nd rfl (Or.inl rfl) (pe_call GD hrA (by rfl) mD FD.kp bD .nil pass0 (@pa_cons _ _ _ _ _ (pv 7) (@pa_cons _ _ _ _ _ (@pe_op _ _ _ _ _ _ _ _ op_add (pe_callB call_len_seq (by rfl) B.len PySem.boot_len (@pa_cons _ _ _ _ _ (pv 3) pa_nil (by rfl))) pe_int) pa_nil (by rfl)) (by rfl))) rfl (Or.inl rfl)) (@pss_cons _ _ _ _ _ (@ps_set _ _ 9 _ _ _ _ scDeed.nd rfl (Or.inl rfl) (pe_call GD hrA (by rfl) mD FD.kp bD .nil pass0 (@pa_cons _ _ _ _ _ (pv 7) (@pa_cons _ _ _ _ _ pe_int pa_nil (by rfl)) (by rfl))) rfl (Or.inl rfl)) (@pss_cons _ _ _ _ _ (@ps_set _ _ 10 _ _ _ _ scDeed.nd rfl (Or.inl rfl) (@pe_lst _ _ _ _ pa_nil) rfl (Or.inl rfl)) (@pss_cons _ _ _ _ _ (@ps_for _ _ _ _ _ _ _ _ PassesOwn.never rfl (pi_range1 rfl B.range (@pa_cons _ _ _ _ _ (pv 8) pa_nil (by rfl))) (pg_name (i := 11) scDeed.nd rfl (Or.inl rfl)) (@pss_cons _ _ _ _ _ (@ps_set _ _ 12 _ _ _ _ scDeed.nd rfl (Or.inl rfl) (@pe_ix _ _ _ _ _ _ (rIxL K) ix_list (pv 3) (@pe_op _ _ _ _ _ _ _ _ op_mod (@pe_op _ _ _ _ _ _ _ _ op_add (pv 9) (pv 11)) (pe_callB call_len_seq (by rfl) B.len PySem.boot_len (@pa_cons _ _ _ _ _ (pv 3) pa_nil (by rfl)))) (fun _ _ => rfl)) rfl (Or.inl rfl)) (@pss_one _ _ _ (@ps_expr _ _ _ _ (pe_bm PySem.F.plainAttrs_list PySem.F.slot_list_append PySem.F.type_list_append mt_append (pv 10) (@pa_cons _ _ _ _ _ (pe_call GC hrC (by rfl) mC FC.kp bC .nil pass0 (@pa_cons _ _ _ _ _ (pe_call GA hrA (by rfl) mA FA.kp bA .nil pass0 (@pa_cons _ _ _ _ _ (pv 0) (@pa_cons _ _ _ _ _ (@pe_op _ _ _ _ _ _ _ _ op_add (@pe_op _ _ _ _ _ _ _ _ op_add (pv 1) pe_int) (pv 11)) pa_nil (by rfl)) (by rfl))) (@pa_cons _ _ _ _ _ (pv 12) (@pa_cons _ _ _ _ _ (pv 4) pa_nil (by rfl)) (by rfl)) (by rfl))) pa_nil (by rfl))) (by rfl)))) (by intro _; rfl)) (@pss_one _ _ _ (@ps_ret _ _ _ _ (@pe_tup _ _ _ _ _ (@pa_cons _ _ _ _ _ (pv 2) (@pa_cons _ _ _ _ _ (pv 6) (@pa_cons _ _ _ _ _ (pe_callTy call_tuple_of (by rfl) B.tuple PyProof.Rows.boot_tuple (@pa_cons _ _ _ _ _ (pv 10) pa_nil (by rfl))) pa_nil (by rfl)) (by rfl)) (by rfl)))))))))))))), ?_⟩
  refine ⟨_, rfl, b, rfl, ⟨_, SqL.of hb⟩, comp_list (xs := ys) (fun i zs H' => zs = ((ps.map (·.n)).take i).map V.str ∧ H' = H) ⟨rfl, rfl⟩ (fun i zs H' _ ⟨_, e⟩ => by rw [e]; exact SqL.of hb) (fun i zs H' _ ⟨e, _⟩ => by rw [e, List.length_map]; exact small1000 (by rw [List.length_take, List.length_map]; omega)) ?_ ?_⟩
  · rintro i x zs H' hx ⟨rfl, rfl⟩
    have hi : i < ps.length := by rw [← ly]; exact (List.getElem?_eq_some_iff.mp hx).1
    obtain ⟨v, e1, iv⟩ := iss_at hp hi
    rw [hx] at e1
    cases e1
    obtain ⟨r, rfl, hr⟩ := is_pl iv
    refine ⟨_, rfl, r, _, _, _, rfl, rfl, hr, atI_nat (j := 0) rfl, ?_, rfl⟩
    rw [List.take_add_one, List.getElem?_map, List.getElem?_eq_getElem hi, List.map_append]
    rfl
  rintro zs H' ⟨rfl, rfl⟩ pn hpn
  rw [List.take_of_length_le (by rw [List.length_map]; omega)]
  have lN : (ps.map (·.n)).length ≤ 8 := by rw [List.length_map]; exact l8
  have s1 := same_new hpn (.lst ((ps.map (·.n)).map V.str))
  have e1 : upd H' pn (.lst ((ps.map (·.n)).map V.str)) pn = some (.lst ((ps.map (·.n)).map V.str)) := upd_same
  generalize upd H' pn (.lst ((ps.map (·.n)).map V.str)) = H1 at s1 e1 ⊢
  refine ⟨fun σ H2 => ∃ near : Int, σ = [some (.ref a), some (.int st), some (.str nm), some (.ref b), some (.ref pn), some (.int near), none, none, none, none, none, none, none] ∧ Same H1 H2, ?_, ?_⟩
  · refine ⟨_, rfl, Nat.zero_le _, fun z hz => ⟨.lst (ps.map plD), .lst [], ?_, ?_, rfl, rfl, ?_, _, rfl, ?_⟩⟩
    · rw [Is]
      exact ⟨b, _, rfl, SqL.of ((same_new hz _) _ _ (s1 _ _ hb)), (hp.same s1).same (same_new hz _)⟩
    · rw [Is]
      exact ⟨z, _, rfl, SqL.of upd_same, Iss.nil⟩
    · rw [dep]; have := dep_pls ps; omega
    rw [eq_nilD]
    have s2 := same_new hz (.lst [])
    cases ps with
    | nil => exact iteF ⟨0, rfl, s2⟩
    | cons p0 r0 =>
      obtain ⟨v, ev, iv⟩ := iss_at hp (i := 0) (Nat.zero_lt_succ _)
      obtain ⟨r, rfl, hr⟩ := is_pl iv
      exact iteT ⟨_, rfl, b, _, _, _, rfl, rfl, SqL.of (s2 _ _ (s1 _ _ hb)), atI_nat (j := 0) ev, r, _, _, _, rfl, rfl, (s1.trans s2).tup hr, atI_nat (j := 1) rfl, _, rfl, s2⟩
  rintro σ H2 ⟨near, rfl, s2⟩
  have t2 := s1.trans s2
  have e2 := s2 _ _ e1
  refine ⟨_, rfl, _, rfl, a, ns, st, rfl, t2.seq hS, h63, st0, by omega, fun c H3 s3 => ⟨c, rfl, fun p hp' => ?_⟩⟩
  have e3 := s3 _ _ e2
  refine ⟨_, rfl, _, rfl, p, pn, _, near, 2, _, rfl, ⟨⟨_, upd_same⟩, (same_new hp' _) _ _ e3⟩, lN, by decide, by decide, fun pw H4 wh b4 _ i4 f4 d4 => ?_⟩
  have s4 := s3.trans (same_sb hp' _ b4)
  have t4 := t2.trans s4
  have e4 := s4 _ _ e2
  have d4 : dps wh ≤ 2 := d4
  refine ⟨_, rfl, _, rfl, _, _, rfl, rfl, a, ns, _, rfl, t4.seq hS, h63, by omega, by omega, fun c2 H5 s5 => ⟨c2, rfl, fun sp hsp => ?_⟩⟩
  have t5 := t4.trans s5
  refine ⟨_, rfl, _, rfl, b, _, rfl, .inl (SqL.of ((same_new hsp _) _ _ (t5 _ _ hb))), _, _, rfl, rfl, sp, _, _, _, rfl, upd_same, by omega, by omega, fun m z1 m0 m1 => ?_⟩
  rw [upd_upd]
  refine ⟨_, rfl, sp, _, _, 3, rfl, upd_same, by decide, by decide, fun fi z2 f0 f1 => ?_⟩
  rw [upd_upd]
  have s6 := s5.trans (same_new hsp (.lst [.int z2, .int (c2 % 2)]))
  generalize upd H5 sp (.lst [.int z2, .int (c2 % 2)]) = H6 at s6 ⊢
  have t6 := t4.trans s6
  have e6 := s6 _ _ e4
  have i6 := i4.same s6
  refine ⟨by decide, fun pc hpc => ?_⟩
  have npc : H' pc = none := t6.free hpc
  have s7 := same_new hpc (.lst [])
  refine ⟨_, rfl, m, rfl, by omega, by omega, for_range (n := m.toNat) (fun i σ H8 => ∃ (v1 v2 : Option V) (us : List V) (cs : List Ch), σ = [some (.ref a), some (.int st), some (.str nm), some (.ref b), some (.ref pn), some (.int near), some (.ref pw), some (.ref sp), some (.int m), some (.int fi), some (.ref pc), v1, v2] ∧ Same H6 H8 ∧ H8 pc = some (.lst us) ∧ Iss K H8 (cs.map chD) us ∧ cs.length = i ∧ ∀ g ∈ cs, FitsC (ps.map (·.n)) 8 g ∧ kc g ≠ .cha) ⟨none, none, [], [], rfl, s7, upd_same, .nil, rfl, fun _ h => nomatch h⟩ ?_ ?_⟩
  · rintro i σ H8 hi ⟨v1, v2, us, cs, rfl, g1, g2, g3, g4, g5⟩
    have lu : us.length = i := by rw [g3.length, List.length_map, g4]
    have hpos : 0 < ps.length := by omega
    have t8 := t6.trans g1
    have b8 := t8 _ _ hb
    have r1 := Int.emod_nonneg (fi + (0 + (i : Int))) (b := (ps.length : Int)) (by omega)
    have r2 := Int.emod_lt_of_pos (fi + (0 + (i : Int))) (b := (ps.length : Int)) (by omega)
    obtain ⟨j, hj⟩ : ∃ j : Nat, (fi + (0 + (i : Int))) % (ps.length : Int) = j := ⟨((fi + (0 + (i : Int))) % (ps.length : Int)).toNat, by omega⟩
    have hj' : j < ps.length := by omega
    obtain ⟨v, ev, iv⟩ := iss_at hp hj'
    obtain ⟨r, rfl, hr⟩ := is_pl iv
    have hat : atI ys ((fi + (0 + (i : Int))) % ((ys.length : Nat) : Int)) = some (.ref r) := by
      rw [ly, hj]
      exact atI_nat ev
    refine ⟨_, rfl, _, rfl, _, rfl, _, _, rfl, rfl, _, rfl, b, _, rfl, .inl (SqL.of b8), _, _, rfl, rfl, (by show (0 : Int) < ((ys.length : Nat) : Int); omega), b, _, _, _, rfl, rfl, SqL.of b8, hat, ?_⟩
    refine ⟨_, rfl, .inl ⟨rfl, _, SqL.of g2⟩, _, rfl, _, rfl, _, _, rfl, rfl, _, rfl, _, _, rfl, rfl, a, ns, _, rfl, t8.seq hS, h63, by omega, by omega, fun cc H9 s9 => ?_⟩
    refine ⟨_, rfl, _, rfl, cc, _, pn, ps[j], _, rfl, (iv.same t8).same s9, s9 _ _ (g1 _ _ e6), lN, fun x HA g sA iA fA kA _ => ?_⟩
    have tA := s9.trans sA
    refine ⟨pc, _, _, rfl, rfl, tA _ _ g2, small1000 (by omega), ?_⟩
    refine ⟨_, _, _, cs ++ [g], rfl, same_put (g1.trans tA) hpc _, upd_same, app_data ch_only (tA _ _ g2) (g3.same tA) iA, by rw [List.length_append, g4]; rfl, ?_⟩
    intro g' hg'
    rcases List.mem_append.mp hg' with z | z
    · exact g5 g' z
    · rw [List.mem_singleton.mp z]
      exact ⟨fA, kA⟩
  · rintro σ H8 ⟨v1, v2, us, cs, rfl, g1, g2, g3, g4, g5⟩
    refine ⟨_, rfl, _, rfl, _, rfl, pc, _, rfl, .inl ⟨SqL.of g2, fun t ht => ⟨by show 3 ≤ sizeLine; decide, fun x hx => ?_⟩⟩⟩
    have sx := (same_new ht (.tup us)).trans (same_new hx (.tup [V.str nm, .ref pw, .ref t]))
    exact q x _ ⟨nm, wh, cs⟩ ((t6.trans g1).trans sx) (de_is (SqT.of upd_same) ((i6.same g1).same sx) ((same_new hx _).tup (SqT.of upd_same)) (g3.same sx)) rfl ⟨f4, by show dps wh < 4; omega, g5, by show cs.length ≤ 8; omega⟩
structure MaOk (ps : List Pl) (ds : List De) : Prop where
  pl : ∀ p ∈ ps, PlOk p
  de : ∀ d ∈ ds, DeOk (ps.map (·.n)) d
  nd : (ds.map (·.nm)).Nodup
  ln : ∃ n : Nat, n ≤ 8 ∧ ∀ d ∈ ds, d.nm.length = n
  pn : (ps.map (·.n)).Nodup
  nam : ∀ p ∈ ps, Nam p.n
def maD (ps : List Pl) (ds : List De) : Dt := .tup [.tup (ps.map plD), .tup (ds.map deD)]
def spMachine (K : PySem.W.Frag) : Sp := fun vs H Q _ => ∃ (a : Addr) (ns : List Int) (st m k : Int), vs = [.ref a, .int st, .int m, .int k] ∧ SqL K H a (ns.map V.int) ∧ ns.length ≤ 63 ∧ 0 ≤ st ∧ st ≤ 20 ∧ 0 ≤ m ∧ m ≤ 5 ∧ 0 ≤ k ∧ k ≤ 6 ∧
  ∀ (x : Addr) (H' : Hp) (ps : List Pl) (ds : List De), Same H H' → Is K H' (maD ps ds) (.ref x) → MaOk ps ds → (ps.length : Int) = m → (ds.length : Int) = k → Q (.ref x) H'
theorem scMachine : FnScope ["_law_script", "_law_start", "_law_many_names", "_law_many_deeds", "_law_names_here", "_law_places_here", "_law_called", "_law_deeds", "_law_k"] ["_law_script", "_law_start", "_law_many_names", "_law_many_deeds"] (defScope sMachine) := ⟨rfl, rfl, rfl, by decide +kernel, rfl, by decide +kernel, by decide +kernel⟩
theorem ok_machine {f fA fN fP fE : Addr} {fd fdA fdN fdP fdE : FuncData} (B : Bl mg) (F : Fun K "_law_machine" "_law_machine" sMachine f fd) (FA : Fun K "_law_at" "_law_at" sAt fA fdA) (bA : Binds K fdA ["_law_script", "_law_k"] []) (mA : mg "_law_at" = some (.ref fA))
    (FN : Fun K "_law_names" "_law_names" sNames fN fdN) (bN : Binds K fdN ["_law_cell", "_law_many"] []) (mN : mg "_law_names" = some (.ref fN)) (GN : FnOk P w K mg base CX0 2 fN fdN ["_law_cell", "_law_many"] spNames)
    (FP : Fun K "_law_places" "_law_places" sPlaces fP fdP) (bP : Binds K fdP ["_law_script", "_law_start", "_law_names_here"] []) (mP : mg "_law_places" = some (.ref fP)) (GP : FnOk P w K mg base CX0 2 fP fdP ["_law_script", "_law_start", "_law_names_here"] (spPlaces K))
    (FE : Fun K "_law_deed" "_law_deed" sDeed fE fdE) (bE : Binds K fdE ["_law_script", "_law_start", "_law_called", "_law_places_here"] []) (mE : mg "_law_deed" = some (.ref fE)) (GE : FnOk P w K mg base CX0 12 fE fdE ["_law_script", "_law_start", "_law_called", "_law_places_here"] (spDeed K)) : FnOk P w K mg base CX0 13 f fd ["_law_script", "_law_start", "_law_many_names", "_law_many_deeds"] (spMachine K) := by
  have GA : FnOk P w K mg base CX0 1 fA fdA ["_law_script", "_law_k"] (spAt K) := ok_at B FA
  refine F.ok scMachine (fun vs H Q E h => ?_) (fun cdv A outer s H vs Q E hr h => ?_)
  · obtain ⟨a, ns, st, m, k, rfl, _⟩ := h
    rfl
  obtain ⟨a, ns, st, m, k, rfl, hS, h63, st0, st1, m0, m1, k0, k1, q⟩ := h
  have hrA : Room 1 _ := hr.mono (by decide)
  have hrN : Room 2 _ := hr.mono (by decide)
  have hrP : Room 2 _ := hr.mono (by decide)
  refine ⟨_, (@pss_cons _ _ _ _ _ (@ps_set _ _ 4 _ _ _ _ scMachine.nd rfl (Or.inl rfl) (pe_call GN hrN (by rfl) mN FN.kp bN .nil pass0 (@pa_cons _ _ _ _ _ (pe_call GA hrA (by rfl) mA FA.kp bA .nil pass0 (@pa_cons _ _ _ _ _ (pv 0) (@pa_cons _ _ _ _ _ (pv 1) pa_nil (by rfl)) (by rfl))) (@pa_cons _ _ _ _ _ (pv 2) pa_nil (by rfl)) (by rfl))) rfl (Or.inl rfl)) (@pss_cons _ _ _ _ _ (@ps_set _ _ 5 _ _ _ _ scMachine.nd rfl (Or.inl rfl) (pe_call GP hrP (by rfl) mP FP.kp bP .nil pass0 (@pa_cons _ _ _ _ _ (pv 0) (@pa_cons _ _ _ _ _ (@pe_op _ _ _ _ _ _ _ _ op_add (pv 1) pe_int) (@pa_cons _ _ _ _ _ (pv 4) pa_nil (by rfl)) (by rfl)) (by rfl))) rfl (Or.inl rfl)) (@pss_cons _ _ _ _ _ (@ps_set _ _ 6 _ _ _ _ scMachine.nd rfl (Or.inl rfl) (pe_call GN hrN (by rfl) mN FN.kp bN .nil pass0 (@pa_cons _ _ _ _ _ (pe_call GA hrA (by rfl) mA FA.kp bA .nil pass0 (@pa_cons _ _ _ _ _ (pv 0) (@pa_cons _ _ _ _ _ (@pe_op _ _ _ _ _ _ _ _ op_add (pv 1) pe_int) pa_nil (by rfl)) (by rfl))) (@pa_cons _ _ _ _ _ (pv 3) pa_nil (by rfl)) (by rfl))) rfl (Or.inl rfl)) (@pss_cons _ _ _ _ _ (@ps_set _ _ 7 _ _ _ _ scMachine.nd rfl (Or.inl rfl) (@pe_lst _ _ _ _ pa_nil) rfl (Or.inl rfl)) (@pss_cons _ _ _ _ _ (@ps_for _ _ _ _ _ _ _ _ PassesOwn.never rfl (pi_range1 rfl B.range (@pa_cons _ _ _ _ _ (pv 3) pa_nil (by rfl))) (pg_name (i := 8) scMachine.nd rfl (Or.inl rfl)) (@pss_one _ _ _ (@ps_expr _ _ _ _ (pe_bm PySem.F.plainAttrs_list PySem.F.slot_list_append PySem.F.type_list_append mt_append (pv 7) (@pa_cons _ _ _ _ _ (pe_call GE hr (by rfl) mE FE.kp bE .nil pass0 (@pa_cons _ _ _ _ _ (pv 0) (@pa_cons _ _ _ _ _ (@pe_op _ _ _ _ _ _ _ _ op_add (@pe_op _ _ _ _ _ _ _ _ op_add (pv 1) pe_int) (@pe_op _ _ _ _ _ _ _ _ op_mul pe_int (pv 8))) (@pa_cons _ _ _ _ _ (@pe_ix _ _ _ _ _ _ (rIxL K) ix_list (pv 6) (pv 8) (fun _ _ => rfl)) (@pa_cons _ _ _ _ _ (pv 5) pa_nil (by rfl)) (by rfl)) (by rfl)) (by rfl))) pa_nil (by rfl))) (by rfl))) (by intro _; rfl)) (@pss_one _ _ _ (@ps_ret _ _ _ _ (@pe_tup _ _ _ _ _ (@pa_cons _ _ _ _ _ (pe_callTy call_tuple_of (by rfl) B.tuple PyProof.Rows.boot_tuple (@pa_cons _ _ _ _ _ (pv 5) pa_nil (by rfl))) (@pa_cons _ _ _ _ _ (pe_callTy call_tuple_of (by rfl) B.tuple PyProof.Rows.boot_tuple (@pa_cons _ _ _ _ _ (pv 7) pa_nil (by rfl))) pa_nil (by rfl)) (by rfl)))))))))), ?_⟩
  refine ⟨_, rfl, _, rfl, a, ns, st, rfl, hS, h63, st0, by omega, fun c H1 s1 => ⟨_, rfl, c, m, rfl, m0, by omega, fun pn H2 l s2 _ e2 l2 nd2 nam2 _ => ?_⟩⟩
  have t2 := s1.trans s2
  refine ⟨_, rfl, _, rfl, _, _, rfl, rfl, _, rfl, a, pn, ns, _, l, rfl, t2.seq hS, h63, by omega, by omega, e2, by omega, fun pp H3 ps ys s3 _ e3 i3 n3 o3 => ?_⟩
  have t3 := t2.trans s3
  have lp : ps.length = l.length := by rw [← n3, List.length_map]
  refine ⟨_, rfl, _, rfl, _, _, rfl, rfl, a, ns, _, rfl, t3.seq hS, h63, by omega, by omega, fun c2 H4 s4 => ⟨_, rfl, c2, k, rfl, k0, by omega, fun pcl H5 cl s5 _ e5 l5 nd5 _ ln5 => ?_⟩⟩
  have s35 := s4.trans s5
  have t5 := t3.trans s35
  have p5 := s35 _ _ e3
  have i5 := i3.same s35
  refine ⟨by decide, fun pd hpd => ?_⟩
  have npd : H pd = none := t5.free hpd
  have s6 := same_new hpd (.lst [])
  refine ⟨_, rfl, k, rfl, by omega, by omega, for_range (n := k.toNat) (fun i σ H8 => ∃ (v1 : Option V) (us : List V) (ds : List De), σ = [some (.ref a), some (.int st), some (.int m), some (.int k), some (.ref pn), some (.ref pp), some (.ref pcl), some (.ref pd), v1] ∧ Same H5 H8 ∧ H8 pd = some (.lst us) ∧ Iss K H8 (ds.map deD) us ∧ ds.map (·.nm) = cl.take i ∧ ∀ d ∈ ds, DeOk (ps.map (·.n)) d) ⟨none, [], [], rfl, s6, upd_same, .nil, rfl, fun _ h => nomatch h⟩ ?_ ?_⟩
  · rintro i σ H8 hi ⟨v1, us, ds, rfl, g1, g2, g3, g4, g5⟩
    have hi : i < cl.length := by omega
    have ld : ds.length = i := by
      have := congrArg List.length g4
      rw [List.length_map, List.length_take] at this
      omega
    have lu : us.length = i := by rw [g3.length, List.length_map, ld]
    have t8 := t5.trans g1
    have hat : atI (cl.map V.str) (0 + (i : Int)) = some (.str cl[i]) := by
      rw [Int.zero_add]
      exact atI_nat (by rw [List.getElem?_map, List.getElem?_eq_getElem hi]; rfl)
    refine ⟨_, rfl, .inl ⟨rfl, _, SqL.of g2⟩, _, rfl, _, rfl, _, _, rfl, rfl, _, rfl, _, _, rfl, rfl, .inl ⟨by decide, by decide⟩, _, _, rfl, rfl, _, rfl, _, rfl, pcl, _, _, _, rfl, rfl, SqL.of (g1 _ _ e5), hat, _, rfl, a, pp, ns, _, _, ps, ys, rfl, t8.seq hS, h63, by omega, by omega, g1 _ _ p5, i5.same g1, by omega, fun x H9 e s9 i9 n9 o9 => ?_⟩
    refine ⟨pd, _, _, rfl, rfl, s9 _ _ g2, small1000 (by omega), ?_⟩
    refine ⟨_, _, ds ++ [e], rfl, same_put (g1.trans s9) hpd _, upd_same, app_data de_only (s9 _ _ g2) (g3.same s9) i9, ?_, ?_⟩
    · rw [List.map_append, g4, List.take_add_one, List.getElem?_eq_getElem hi, ← n9]
      rfl
    · intro d hd
      rcases List.mem_append.mp hd with z | z
      · exact g5 d z
      · rw [List.mem_singleton.mp z]
        exact o9
  · rintro σ H8 ⟨v1, us, ds, rfl, g1, g2, g3, g4, g5⟩
    rw [List.take_of_length_le (by omega)] at g4
    refine ⟨_, rfl, pp, _, rfl, .inl ⟨SqL.of (g1 _ _ p5), fun t1 ht1 => ?_⟩⟩
    have u1 := same_new ht1 (.tup ys)
    refine ⟨_, rfl, pd, _, rfl, .inl ⟨SqL.of (u1 _ _ g2), fun t2 ht2 => ⟨by show 2 ≤ sizeLine; decide, fun x hx => ?_⟩⟩⟩
    have u2 := same_new ht2 (.tup us)
    have u3 := same_new hx (.tup [V.ref t1, .ref t2])
    refine q x _ ps ds (t5.trans (g1.trans (u1.trans (u2.trans u3)))) ?_ ⟨o3, g5, by rw [g4]; exact nd5, ?_, by rw [n3]; exact nd2, fun p hp => nam2 _ (by rw [← n3]; exact List.mem_map_of_mem hp)⟩ (by rw [lp]; exact l2) ?_
    · rw [maD, Is]
      refine ⟨x, _, rfl, SqT.of upd_same, .cons ?_ (.cons ?_ .nil)⟩
      · rw [Is]
        exact ⟨t1, ys, rfl, (u2.trans u3).tup (SqT.of upd_same), ((i5.same g1).same u1).same (u2.trans u3)⟩
      · rw [Is]
        exact ⟨t2, us, rfl, u3.tup (SqT.of upd_same), g3.same (u1.trans (u2.trans u3))⟩
    · obtain ⟨n, hn, hl⟩ := ln5
      exact ⟨n, hn, fun d hd => hl _ (by rw [← g4]; exact List.mem_map.mpr ⟨d, hd, rfl⟩)⟩
    · have := congrArg List.length g4
      rw [List.length_map] at this
      omega
end
end Nw

set_option Elab.async false
set_option linter.all false
set_option maxRecDepth 100000
set_option maxHeartbeats 4000000
namespace Nw
open PySem L2
/-! ### the values -/
theorem keys_put {κ : Type} [DecidableEq κ] {kvs : List (κ × V)} (k : κ) (v : V) (hn : (kvs.map (·.1)).Nodup) : ((putK kvs k v).map (·.1)).Nodup := by
  by_cases h : valV kvs k = none
  · exact nd_putK v hn h
  · unfold putK
    have a : (kvs.any fun kv => decide (kv.1 = k)) = true := by
      rw [valV_any]
      cases e : valV kvs k with
      | none => exact absurd e h
      | some _ => rfl
    rw [if_pos a, List.map_map]
    have : ((fun kv : κ × V => kv.1) ∘ fun kv => if kv.1 = k then (kv.1, v) else kv) = fun kv => kv.1 := by
      funext kv
      show (if kv.1 = k then (kv.1, v) else kv).1 = kv.1
      split <;> rfl
    rw [this]
    exact hn
theorem mem_put {κ : Type} [DecidableEq κ] {kvs : List (κ × V)} {k : κ} {v : V} {p : κ × V} (h : p ∈ putK kvs k v) : p ∈ kvs ∨ p.2 = v := by
  unfold putK at h
  split at h
  · obtain ⟨q, hq, e⟩ := List.mem_map.mp h
    split at e
    · rw [← e]; exact .inr rfl
    · rw [← e]; exact .inl hq
  · rcases List.mem_append.mp h with z | z
    · exact .inl z
    · rw [List.mem_singleton.mp z]; exact .inr rfl
theorem putK_length {κ : Type} [DecidableEq κ] (kvs : List (κ × V)) (k : κ) (v : V) : (putK kvs k v).length ≤ kvs.length + 1 := by
  unfold putK
  split
  · rw [List.length_map]; omega
  · rw [List.length_append]; exact Nat.le_refl _
theorem valV_memP {κ : Type} [DecidableEq κ] : ∀ {kvs : List (κ × V)} {k : κ} {v : V}, valV kvs k = some v → (k, v) ∈ kvs
  | [], k, v, h => by rw [valV_nil] at h; cases h
  | p :: r, k, v, h => by
    by_cases e : p.1 = k
    · rw [valV_pos e] at h
      cases h
      rw [← e]
      exact List.mem_cons_self
    · rw [valV_neg e] at h
      exact List.mem_cons_of_mem _ (valV_memP h)
def vfOf (kvs : List (Key × V)) (x : Str) : Int := match valV kvs (.inr x) with
  | some (.int i) => i
  | _ => 0
structure Fil (l : List Str) (kvs : List (Key × V)) (n : Nat) : Prop where
  nd : (kvs.map (·.1)).Nodup
  nums : ∀ p ∈ kvs, ∃ i : Int, p.2 = .int i ∧ i.natAbs < 2 ^ 110
  got : ∀ x ∈ l, ∃ v, valV kvs (.inr x) = some v
  len : kvs.length ≤ n
theorem Fil.put {l : List Str} {kvs : List (Key × V)} {n : Nat} (F : Fil l kvs n) (x : Str) {i : Int} (h : i.natAbs < 2 ^ 110) : Fil (l ++ [x]) (putK kvs (.inr x) (.int i)) (n + 1) := by
  refine ⟨keys_put _ _ F.nd, fun p hp => ?_, fun y hy => ?_, Nat.le_trans (putK_length _ _ _) (Nat.succ_le_succ F.len)⟩
  · rcases mem_put hp with z | z
    · exact F.nums p z
    · exact ⟨i, z, h⟩
  · rw [valV_put]
    by_cases e : (Sum.inr y : Key) = .inr x
    · exact ⟨_, if_pos e⟩
    · rw [if_neg e]
      rcases List.mem_append.mp hy with z | z
      · exact F.got y z
      · exact absurd (by rw [List.mem_singleton.mp z]) e
theorem Fil.ok {l : List Str} {kvs : List (Key × V)} {n : Nat} (F : Fil l kvs n) : ValsOk kvs l (vfOf kvs) := by
  refine ⟨F.nd, fun p hp => ?_, fun x hx => ?_⟩
  · obtain ⟨i, e, _⟩ := F.nums p hp
    rw [e]
    rfl
  · obtain ⟨v, hv⟩ := F.got x hx
    obtain ⟨m, em, hm⟩ := F.nums _ (valV_memP hv)
    have em : v = .int m := em
    subst em
    have ev : vfOf kvs x = m := by
      unfold vfOf
      rw [hv]
    rw [ev]
    exact ⟨hv, hm⟩
structure Al {α : Type} (R : α → V → Prop) (ps : List α) (vs : List V) : Prop where
  len : ps.length = vs.length
  at_ : ∀ (i : Nat) p v, ps[i]? = some p → vs[i]? = some v → R p v
theorem Al.nil {α : Type} {R : α → V → Prop} : Al R [] [] := ⟨rfl, fun i p v h => by simp at h⟩
theorem Al.snoc {α : Type} {R : α → V → Prop} {p : α} {ps : List α} {v : V} {vs : List V} (a : Al R ps vs) (h : R p v) : Al R (ps ++ [p]) (vs ++ [v]) := by
  refine ⟨by rw [List.length_append, List.length_append, a.len]; rfl, fun i q u h1 h2 => ?_⟩
  by_cases hi : i < ps.length
  · rw [List.getElem?_append_left hi] at h1
    rw [List.getElem?_append_left (by rw [← a.len]; exact hi)] at h2
    exact a.at_ i q u h1 h2
  · rw [List.getElem?_append_right (by omega)] at h1
    rw [List.getElem?_append_right (by rw [← a.len]; omega), ← a.len] at h2
    have e : i - ps.length = 0 := by
      have := (List.getElem?_eq_some_iff.mp h1).1
      simp at this
      omega
    rw [e] at h1 h2
    cases h1
    cases h2
    exact h
theorem Al.mono {α : Type} {R S : α → V → Prop} {ps : List α} {vs : List V} (a : Al R ps vs) (h : ∀ p v, R p v → S p v) : Al S ps vs := ⟨a.len, fun i p v h1 h2 => h p v (a.at_ i p v h1 h2)⟩
/-! ### what a deed leads to -/
def rmD (r : List Int) : Dt := .tup (r.map Dt.int)
theorem rm_is {K : PySem.W.Frag} {H : Hp} {r : List Int} {p : Addr} (h : SqT K H p (r.map V.int)) : Is K H (rmD r) (.ref p) := by
  rw [rmD, Is]
  exact ⟨p, _, rfl, h, Iss.ints r⟩
def kvT (zs : List (Pl × Int)) : List (Key × V) := zs.foldl (fun k z => putK k (.inr z.1.n) (.int z.2)) []
theorem kvT_take {zs : List (Pl × Int)} {i : Nat} (h : i < zs.length) : kvT (zs.take (i + 1)) = putK (kvT (zs.take i)) (.inr zs[i].1.n) (.int zs[i].2) := by
  unfold kvT
  rw [List.take_add_one, List.getElem?_eq_getElem h, List.foldl_append]
  rfl
theorem fil_take {zs : List (Pl × Int)} (hb : ∀ z ∈ zs, z.2.natAbs < 1000) : ∀ i, i ≤ zs.length → Fil ((zs.map (·.1.n)).take i) (kvT (zs.take i)) i
  | 0, _ => ⟨by simp [kvT], fun p hp => by simp [kvT] at hp, fun x hx => by simp at hx, by simp [kvT]⟩
  | i + 1, h => by
    have h' : i < zs.length := h
    rw [kvT_take h', List.take_add_one, List.getElem?_map, List.getElem?_eq_getElem h']
    exact (fil_take hb i (Nat.le_of_lt h')).put zs[i].1.n (Nat.lt_of_lt_of_le (hb _ (List.getElem_mem h')) (by decide))
theorem fil_all {zs : List (Pl × Int)} (hb : ∀ z ∈ zs, z.2.natAbs < 1000) : Fil (zs.map (·.1.n)) (kvT zs) zs.length := by
  have := fil_take hb zs.length (Nat.le_refl _)
  rw [List.take_of_length_le (Nat.le_refl _), List.take_of_length_le (by rw [List.length_map]; exact Nat.le_refl _)] at this
  exact this
structure RmOk (ps : List Pl) (rm : List Int) : Prop where
  len : rm.length = ps.length
  few : ps.length ≤ 4
  small : ∀ r ∈ rm, r.natAbs < 1000
theorem RmOk.zs {ps : List Pl} {rm : List Int} (O : RmOk ps rm) : ∀ z ∈ ps.zip rm, z.2.natAbs < 1000 := fun z hz => O.small z.2 (List.of_mem_zip hz).2
theorem RmOk.names {ps : List Pl} {rm : List Int} (O : RmOk ps rm) : (ps.zip rm).map (·.1.n) = ps.map (·.n) := by
  have : (ps.zip rm).map (·.1) = ps := List.map_fst_zip (by rw [O.len]; exact Nat.le_refl _)
  have e : (ps.zip rm).map (·.1.n) = ((ps.zip rm).map (·.1)).map (·.n) := by rw [List.map_map]; rfl
  rw [e, this]
theorem RmOk.zlen {ps : List Pl} {rm : List Int} (O : RmOk ps rm) : (ps.zip rm).length = ps.length := by rw [List.length_zip, O.len, Nat.min_self]
theorem RmOk.vals {ps : List Pl} {rm : List Int} (O : RmOk ps rm) : ValsOk (kvT (ps.zip rm)) (ps.map (·.n)) (vfOf (kvT (ps.zip rm))) := by
  have := (fil_all O.zs).ok
  rw [O.names] at this
  exact this
/-! ### deeds as objects -/
def deeF (n w c : V) : List (Str × V) := putF "changes" c (putF "when" w (putF "called" n []))
theorem dee_n (n w c : V) : (deeF n w c).lookup ("called" : Str) = some n := by unfold deeF; rw [lookup_putF, if_neg (by decide +kernel), lookup_putF, if_neg (by decide +kernel), lookup_putF, if_pos rfl]
structure ClsD (K : PySem.W.Frag) (CD : Addr) : Prop where
  cl : Cls K CD
  n1 : NoAttr K CD "called"
  n2 : NoAttr K CD "when"
  n3 : NoAttr K CD "changes"
def ObjD (CK : Kd → Addr) (CC : Kc → Addr) (CY : Ks → Addr) (CD : Addr) (H : Hp) (d : De) (v : V) : Prop := ∃ p dx vw tc us, v = .ref p ∧ H p = some (.ins CD dx (deeF (.str d.nm) vw (.ref tc))) ∧ ObjS CK CY H d.wh vw ∧ H tc = some (.tup us) ∧ Al (ObjC CK CC H) d.chs us
theorem ObjD.same {CK : Kd → Addr} {CC : Kc → Addr} {CY : Ks → Addr} {CD : Addr} {H H' : Hp} (s : Same H H') {d : De} {v : V} (h : ObjD CK CC CY CD H d v) : ObjD CK CC CY CD H' d v := by
  obtain ⟨p, dx, vw, tc, us, e, h1, h2, h3, h4⟩ := h
  exact ⟨p, dx, vw, tc, us, e, s _ _ h1, h2.same s, s _ _ h3, h4.mono fun _ _ h => h.same s⟩
section
variable {P : Program} {w : World} {K : PySem.W.Frag} {mg : Str → Option Value} {base : Heap} {CK : Kd → Addr} {CC : Kc → Addr} {CY : Ks → Addr} {CD : Addr}
def spDeeI (C : Addr) : Sp := fun vs H Q _ => ∃ (x dx : Addr) (n o u : V), vs = [.ref x, n, o, u] ∧ H x = some (.ins C dx []) ∧ ∀ H', H' x = some (.ins C dx (deeF n o u)) → (∀ b, b ≠ x → H' b = H b) → Q .non H'
theorem scDeeI : FnScope ["self", "called", "when", "changes"] ["self", "called", "when", "changes"] (defScope sDeeI) := ⟨rfl, rfl, rfl, by decide +kernel, rfl, by decide +kernel, by decide +kernel⟩
theorem ok_deeI {f : Addr} {fd : FuncData} (c : ClsD K CD) (F : Fun K "__init__" "Deed.__init__" sDeeI f fd) : FnOk P w K mg base CX0 1 f fd ["self", "called", "when", "changes"] (spDeeI CD) := by
  refine F.ok scDeeI (fun vs H Q E h => ?_) (fun cdv A outer s H vs Q E hr h => ?_)
  · obtain ⟨x, dx, n, o, u, rfl, _⟩ := h
    rfl
  obtain ⟨x, dx, n, o, u, rfl, hx, q⟩ := h
  refine ⟨_, (@pss_cons _ _ _ _ _ (@ps_fld _ _ _ _ _ _ _ _ (pv 0) (pv 1) rfl) (@pss_cons _ _ _ _ _ (@ps_fld _ _ _ _ _ _ _ _ (pv 0) (pv 2) rfl) (@pss_one _ _ _ (@ps_fld _ _ _ _ _ _ _ _ (pv 0) (pv 3) rfl)))), ?_⟩
  refine ⟨_, rfl, _, rfl, x, _, dx, _, rfl, hx, c.cl, c.n1, (by show 0 < 1000; decide), ?_⟩
  refine ⟨_, rfl, _, rfl, x, _, dx, _, rfl, upd_same, c.cl, c.n2, Nat.lt_of_le_of_lt (length_putF _ _ _) (by show 1 < 1000; decide), ?_⟩
  refine ⟨_, rfl, _, rfl, x, _, dx, _, rfl, upd_same, c.cl, c.n3, Nat.lt_of_le_of_lt (length_putF _ _ _) (Nat.lt_of_le_of_lt (Nat.succ_le_succ (length_putF _ _ _)) (by show 2 < 1000; decide)), ?_⟩
  exact q _ upd_same fun b hb => by rw [upd_ne hb, upd_ne hb, upd_ne hb]
/-! ### the law's own makers -/
def spChangeOf (K : PySem.W.Frag) (CK : Kd → Addr) (CC : Kc → Addr) : Sp := fun vs H Q _ => ∃ (v : V) (g : Ch) (l : List Str), vs = [v] ∧ Is K H (chD g) v ∧ FitsC l 8 g ∧ kc g ≠ .cha ∧ ∀ (p : Addr) (H' : Hp), Same H H' → ObjC CK CC H' g (.ref p) → Q (.ref p) H'
theorem scChangeOf : FnScope ["_law_change_here"] ["_law_change_here"] (defScope sChangeOf) := ⟨rfl, rfl, rfl, by decide +kernel, rfl, by decide +kernel, by decide +kernel⟩
theorem ok_changeOf {f fH fU fA : Addr} {fd fdH dU dA : FuncData} (B : Bl mg) (F : Fun K "_law_change_of" "_law_change_of" sChangeOf f fd) (FH : Fun K "_law_sum_of" "_law_sum_of" sHand fH fdH) (bH : Binds K fdH ["_law_one"] []) (mH : mg "_law_sum_of" = some (.ref fH)) (GH : FnOk P w K mg base CX0 11 fH fdH ["_law_one"] (spHand K CK 8))
    (mkU : Mk K (CC .put) fU) (gU : mg "Put" = some (.ref (CC .put))) (bU : Binds K dU ["self", "name", "one"] []) (FU : Fun K "__init__" "Put.__init__" sPutI fU dU) (GU : FnOk P w K mg base CX0 2 fU dU ["self", "name", "one"] (spPutI (CC .put)))
    (mkA : Mk K (CC .any) fA) (gA : mg "Any" = some (.ref (CC .any))) (bA : Binds K dA ["self", "name", "one", "other"] []) (FA : Fun K "__init__" "Any.__init__" sAnyI fA dA) (GA : FnOk P w K mg base CX0 2 fA dA ["self", "name", "one", "other"] (spAnyI (CC .any))) : FnOk P w K mg base CX0 12 f fd ["_law_change_here"] (spChangeOf K CK CC) := by
  refine F.ok scChangeOf (fun vs H Q E h => ?_) (fun cdv A outer s H vs Q E hr h => ?_)
  · obtain ⟨v, g, l, rfl, _⟩ := h
    rfl
  obtain ⟨v, g, l, rfl, ig, ft, kg, q⟩ := h
  have hr3 : Room 3 _ := hr.mono (by decide)
  refine ⟨_, (@pss_cons _ _ _ _ _ (@ps_if _ _ _ _ _ _ _ _ (@pt_cmpR _ _ _ _ _ _ _ _ op_eq (pe_callB call_len_seq (by rfl) B.len PySem.boot_len (@pa_cons _ _ _ _ _ (pv 0) pa_nil (by rfl))) pe_int (nomark _)) (@pss_one _ _ _ (@ps_ret _ _ _ _ (pe_make mkA GA hr3 rfl gA bA .nil pass0 (@pa_cons _ _ _ _ _ (@pe_ix _ _ _ _ _ _ (rIxT K) ix_tup (pv 0) pe_int (fun _ _ => rfl)) (@pa_cons _ _ _ _ _ (pe_call GH hr (by rfl) mH FH.kp bH .nil pass0 (@pa_cons _ _ _ _ _ (@pe_ix _ _ _ _ _ _ (rIxT K) ix_tup (pv 0) pe_int (fun _ _ => rfl)) pa_nil (by rfl))) (@pa_cons _ _ _ _ _ (pe_call GH hr (by rfl) mH FH.kp bH .nil pass0 (@pa_cons _ _ _ _ _ (@pe_ix _ _ _ _ _ _ (rIxT K) ix_tup (pv 0) pe_int (fun _ _ => rfl)) pa_nil (by rfl))) pa_nil (by rfl)) (by rfl)) (by rfl))))) pss_nil) (@pss_one _ _ _ (@ps_ret _ _ _ _ (pe_make mkU GU hr3 rfl gU bU .nil pass0 (@pa_cons _ _ _ _ _ (@pe_ix _ _ _ _ _ _ (rIxT K) ix_tup (pv 0) pe_int (fun _ _ => rfl)) (@pa_cons _ _ _ _ _ (pe_call GH hr (by rfl) mH FH.kp bH .nil pass0 (@pa_cons _ _ _ _ _ (@pe_ix _ _ _ _ _ _ (rIxT K) ix_tup (pv 0) pe_int (fun _ _ => rfl)) pa_nil (by rfl))) pa_nil (by rfl)) (by rfl)))))), ?_⟩
  cases g with
  | cha n => exact absurd rfl kg
  | put n t =>
    obtain ⟨p, a, rfl, ht, ia⟩ := is_put ig
    obtain ⟨f1, f2, f3⟩ : Fits l t ∧ lv t ≤ 100 ∧ dp t < 8 := ft
    refine ⟨_, rfl, p, _, rfl, .inr ht, rfl, _, rfl, ite2 (fun c => absurd (of_decide_eq_true c) (by intro z; exact absurd (V.int.inj z) (by show ¬ ((2 : Nat) : Int) = 3; decide))) (fun _ => ?_)⟩
    refine ⟨_, rfl, p, _, _, _, rfl, rfl, ht, atI_nat (j := 0) rfl, _, rfl, p, _, _, _, rfl, rfl, ht, atI_nat (j := 1) rfl, a, t, rfl, ia, f3, fun p1 H1 s1 o1 => ?_⟩
    refine fun x dx hx hdx hxd => ⟨x, dx, _, _, rfl, upd_same, fun HJ h3 h4 => ⟨rfl, ?_⟩⟩
    have sJ := same_made2 hx hdx hxd h4
    exact q x HJ (s1.trans sJ) ⟨x, dx, _, rfl, h3, o1.same sJ⟩
  | any n t u =>
    obtain ⟨p, a, b, rfl, ht, ia, ib⟩ := is_any ig
    obtain ⟨⟨f1, f2, f3⟩, g1, g2, g3⟩ : (Fits l t ∧ lv t ≤ 100 ∧ dp t < 8) ∧ Fits l u ∧ lv u ≤ 100 ∧ dp u < 8 := ft
    refine ⟨_, rfl, p, _, rfl, .inr ht, rfl, _, rfl, ite2 (fun _ => ?_) (fun c => absurd (decide_eq_true rfl) c)⟩
    refine ⟨_, rfl, p, _, _, _, rfl, rfl, ht, atI_nat (j := 0) rfl, _, rfl, p, _, _, _, rfl, rfl, ht, atI_nat (j := 1) rfl, a, t, rfl, ia, f3, fun p1 H1 s1 o1 => ?_⟩
    refine ⟨_, rfl, p, _, _, _, rfl, rfl, s1.tup ht, atI_nat (j := 2) rfl, b, u, rfl, ib.same s1, g3, fun p2 H2 s2 o2 => ?_⟩
    refine fun x dx hx hdx hxd => ⟨x, dx, _, _, _, rfl, upd_same, fun HJ h3 h4 => ⟨rfl, ?_⟩⟩
    have sJ := same_made2 hx hdx hxd h4
    exact q x HJ (s1.trans (s2.trans sJ)) ⟨x, dx, _, _, rfl, h3, o1.same (s2.trans sJ), o2.same sJ⟩
def spDeedOf (K : PySem.W.Frag) (CK : Kd → Addr) (CC : Kc → Addr) (CY : Ks → Addr) (CD : Addr) : Sp := fun vs H Q _ => ∃ (v : V) (d : De) (l : List Str), vs = [v] ∧ Is K H (deD d) v ∧ DeOk l d ∧ ∀ (p : Addr) (H' : Hp), Same H H' → ObjD CK CC CY CD H' d (.ref p) → Q (.ref p) H'
theorem scDeedOf : FnScope ["_law_deed_here", "_law_changes"] ["_law_deed_here"] (defScope sDeedOf) := ⟨rfl, rfl, rfl, by decide +kernel, rfl, by decide +kernel, by decide +kernel⟩
theorem nd_scDeedOf1 : (["_law_deed_here", "_law_changes", "_law_change_here"] : List Str).Nodup := by decide +kernel
theorem ok_deedOf {f fC fT fD : Addr} {fd fdC fdT dD : FuncData} (B : Bl mg) (F : Fun K "_law_deed_of" "_law_deed_of" sDeedOf f fd) (FC : Fun K "_law_change_of" "_law_change_of" sChangeOf fC fdC) (bC : Binds K fdC ["_law_change_here"] []) (mC : mg "_law_change_of" = some (.ref fC)) (GC : FnOk P w K mg base CX0 12 fC fdC ["_law_change_here"] (spChangeOf K CK CC))
    (FT : Fun K "_law_saying_of" "_law_saying_of" sTold fT fdT) (bT : Binds K fdT ["_law_one"] []) (mT : mg "_law_saying_of" = some (.ref fT)) (GT : FnOk P w K mg base CX0 17 fT fdT ["_law_one"] (spTold K CK CY 4))
    (c : ClsD K CD) (mkD : Mk K CD fD) (gD : mg "Deed" = some (.ref CD)) (bD : Binds K dD ["self", "called", "when", "changes"] []) (FD : Fun K "__init__" "Deed.__init__" sDeeI fD dD) : FnOk P w K mg base CX0 18 f fd ["_law_deed_here"] (spDeedOf K CK CC CY CD) := by
  have GD : FnOk P w K mg base CX0 1 fD dD ["self", "called", "when", "changes"] (spDeeI CD) := ok_deeI c FD
  refine F.ok scDeedOf (fun vs H Q E h => ?_) (fun cdv A outer s H vs Q E hr h => ?_)
  · obtain ⟨v, d, l, rfl, _⟩ := h
    rfl
  obtain ⟨v, d, l, rfl, id, O, q⟩ := h
  have hr2 : Room 2 _ := hr.mono (by decide)
  have hrC : Room 12 _ := hr.mono (by decide)
  obtain ⟨p, a, tc, ys, rfl, ht, ia, hc, ic⟩ := is_de id
  have ly : ys.length = d.chs.length := by rw [ic.length, List.length_map]
  refine ⟨_, (@pss_cons _ _ _ _ _ (@ps_set _ _ 1 _ _ _ _ scDeedOf.nd rfl (Or.inl rfl) (pe_callTy call_tuple_of (by rfl) B.tuple PyProof.Rows.boot_tuple (@pa_cons _ _ _ _ _ (pe_comp (NX := ["_law_deed_here", "_law_changes"]) (N := ["_law_deed_here", "_law_changes", "_law_change_here"]) (ms := [true, true, false]) (ks := [2]) (out := defScope sDeedOf) (by exact ⟨rfl, by decide +kernel, by decide +kernel, by decide +kernel, by decide +kernel, by decide +kernel⟩) rfl rfl rfl (@pi_tup _ _ _ _ (@pe_ix _ _ _ _ _ _ (rIxT K) ix_tup (pv 0) pe_int (fun _ _ => rfl))) (@sets_name 2) (by decide) (fun C ex s H => (pg_name (i := 2) nd_scDeedOf1 rfl (Or.inl rfl))) (fun C ex s H => pts_nil) (fun C ex s H => (pe_call GC hrC (by rfl) mC FC.kp bC .nil pass0 (@pa_cons _ _ _ _ _ (pv 2) pa_nil (by rfl))))) pa_nil (by rfl))) rfl (Or.inl rfl)) (@pss_one _ _ _ (@ps_ret _ _ _ _ (pe_make mkD GD hr2 rfl gD bD .nil pass0 (@pa_cons _ _ _ _ _ (@pe_ix _ _ _ _ _ _ (rIxT K) ix_tup (pv 0) pe_int (fun _ _ => rfl)) (@pa_cons _ _ _ _ _ (pe_call GT hr (by rfl) mT FT.kp bT .nil pass0 (@pa_cons _ _ _ _ _ (@pe_ix _ _ _ _ _ _ (rIxT K) ix_tup (pv 0) pe_int (fun _ _ => rfl)) pa_nil (by rfl))) (@pa_cons _ _ _ _ _ (pv 1) pa_nil (by rfl)) (by rfl)) (by rfl)))))), ?_⟩
  refine ⟨_, rfl, p, _, _, _, rfl, rfl, ht, atI_nat (j := 2) rfl, tc, rfl, ⟨_, hc⟩, comp_tup (xs := ys) (fun i us H' => Same H H' ∧ Al (ObjC CK CC H') (d.chs.take i) us) ⟨Same.refl H, Al.nil⟩ (fun i us H' _ ⟨s', _⟩ => s'.tup hc) (fun i us H' _ ⟨_, al⟩ => small1000 (by have h1 := al.len; have h2 := O.ln; rw [List.length_take] at h1; omega)) ?_ ?_⟩
  · rintro i x us H' hx ⟨s', al⟩
    have hi : i < d.chs.length := by rw [← ly]; exact (List.getElem?_eq_some_iff.mp hx).1
    obtain ⟨v, e1, iv⟩ := iss_at ic hi
    rw [hx] at e1
    cases e1
    obtain ⟨o1, o2⟩ := O.ch _ (List.getElem_mem hi)
    refine ⟨_, rfl, x, d.chs[i], l, rfl, iv.same s', o1, o2, fun p1 H1 s1 ob => ⟨s'.trans s1, ?_⟩⟩
    rw [List.take_add_one, List.getElem?_eq_getElem hi]
    exact Al.snoc (al.mono fun _ _ h => h.same s1) ob
  rintro us H1 ⟨s1, al⟩ D hD
  rw [List.take_of_length_le (by omega)] at al
  refine ⟨D, _, rfl, .inl ⟨SqL.of upd_same, fun t ht' => ?_⟩⟩
  have u1 := (same_new hD (.lst us)).trans (same_new ht' (.tup us))
  have t1 := s1.trans u1
  have et : upd (upd H1 D (.lst us)) t (.tup us) t = some (.tup us) := upd_same
  have al1 := al.mono fun _ _ (h : ObjC CK CC H1 _ _) => h.same u1
  generalize upd (upd H1 D (.lst us)) t (.tup us) = H2 at u1 t1 et al1 ⊢
  refine ⟨_, rfl, p, _, _, _, rfl, rfl, t1.tup ht, atI_nat (j := 0) rfl, _, rfl, p, _, _, _, rfl, rfl, t1.tup ht, atI_nat (j := 1) rfl, a, d.wh, l, rfl, ia.same t1, O.wh, O.dp, fun pw H3 s3 o3 => ?_⟩
  refine ⟨_, rfl, fun x dx hx hdx hxd => ⟨x, dx, _, _, _, rfl, upd_same, fun HJ h3 h4 => ⟨rfl, ?_⟩⟩⟩
  have sJ := same_made2 hx hdx hxd h4
  exact q x HJ (t1.trans (s3.trans sJ)) ⟨x, dx, _, t, us, rfl, h3, o3.same sJ, sJ _ _ (s3 _ _ et), al1.mono fun _ _ h => h.same (s3.trans sJ)⟩
/-! ### a drawn room -/
def spRoom (K : PySem.W.Frag) : Sp := fun vs H Q _ => ∃ (tp : Addr) (c : Int) (ys : List V) (ps : List Pl), vs = [.ref tp, .int c] ∧ SqT K H tp ys ∧ Iss K H (ps.map plD) ys ∧ ps.length ≤ 4 ∧ (∀ p ∈ ps, PlOk p) ∧ ∀ (q : Addr) (H' : Hp) (rm : List Int), Same H H' → H' q = some (.tup (rm.map V.int)) → RmOk ps rm → Q (.ref q) H'
theorem scRoom : FnScope ["_law_places_here", "_law_cell", "_law_state"] ["_law_places_here", "_law_cell"] (defScope sRoom) := ⟨rfl, rfl, rfl, by decide +kernel, rfl, by decide +kernel, by decide +kernel⟩
theorem nd_scRoom1 : (["_law_places_here", "_law_cell", "_law_state", "_law_name", "_law_low", "_law_high", "_law_start"] : List Str).Nodup := by decide +kernel
theorem ok_room {f fB fD : Addr} {fd fdB fdD : FuncData} (B : Bl mg) (F : Fun K "_law_room" "_law_room" sRoom f fd) (FB : Fun K "_law_begin" "_law_begin" sBegin fB fdB) (bB : Binds K fdB ["_law_cell"] []) (mB : mg "_law_begin" = some (.ref fB)) (FD : Fun K "_law_draw" "_law_draw" sDraw fD fdD) (bD : Binds K fdD ["_law_state", "_law_many"] []) (mD : mg "_law_draw" = some (.ref fD)) : FnOk P w K mg base CX0 2 f fd ["_law_places_here", "_law_cell"] (spRoom K) := by
  have GB : FnOk P w K mg base CX0 1 fB fdB ["_law_cell"] spBegin := ok_begin FB
  have GD : FnOk P w K mg base CX0 1 fD fdD ["_law_state", "_law_many"] spDraw := ok_draw FD
  refine F.ok scRoom (fun vs H Q E h => ?_) (fun cdv A outer s H vs Q E hrA h => ?_)
  · obtain ⟨tp, c, ys, ps, rfl, _⟩ := h
    rfl
  obtain ⟨tp, c, ys, ps, rfl, hp, ip, few, op, q⟩ := h
  have ly : ys.length = ps.length := by rw [ip.length, List.length_map]
  refine ⟨_, (@pss_cons _ _ _ _ _ (@ps_set _ _ 2 _ _ _ _ scRoom.nd rfl (Or.inr rfl) (pe_call GB hrA (by rfl) mB FB.kp bB .nil pass0 (@pa_cons _ _ _ _ _ (pv 1) pa_nil (by rfl))) rfl (Or.inl rfl)) (@pss_one _ _ _ (@ps_ret _ _ _ _ (pe_callTy call_tuple_of (by rfl) B.tuple PyProof.Rows.boot_tuple (@pa_cons _ _ _ _ _ (pe_comp (NX := ["_law_places_here", "_law_cell", "_law_state"]) (N := ["_law_places_here", "_law_cell", "_law_state", "_law_name", "_law_low", "_law_high", "_law_start"]) (ms := [true, true, true, false, false, false, false]) (ks := [3, 4, 5, 6]) (out := defScope sRoom) (by exact ⟨rfl, by decide +kernel, by decide +kernel, by decide +kernel, by decide +kernel, by decide +kernel⟩) rfl rfl rfl (@pi_tup _ _ _ _ (pv 0)) (@sets_tup _ _ _ _ (@sets_cons _ _ _ _ (@sets_name 3) (@sets_cons _ _ _ _ (@sets_name 4) (@sets_cons _ _ _ _ (@sets_name 5) (@sets_cons _ _ _ _ (@sets_name 6) sets_nil))))) (by decide) (fun C ex s H => (pg_tup (n := 4) rfl (pgs_cons (pg_name (i := 3) nd_scRoom1 rfl (Or.inl rfl)) (pgs_cons (pg_name (i := 4) nd_scRoom1 rfl (Or.inl rfl)) (pgs_cons (pg_name (i := 5) nd_scRoom1 rfl (Or.inl rfl)) (pgs_cons (pg_name (i := 6) nd_scRoom1 rfl (Or.inl rfl)) pgs_nil)))))) (fun C ex s H => pts_nil) (fun C ex s H => (@pe_op _ _ _ _ _ _ _ _ op_add (pv 4) (pe_call GD hrA (by rfl) mD FD.kp bD .nil pass0 (@pa_cons _ _ _ _ _ (pv 2) (@pa_cons _ _ _ _ _ (@pe_op _ _ _ _ _ _ _ _ op_add (@pe_op _ _ _ _ _ _ _ _ op_sub (pv 5) (pv 4)) pe_int) pa_nil (by rfl)) (by rfl)))))) pa_nil (by rfl)))))), ?_⟩
  refine ⟨_, rfl, c, rfl, fun a ha => ?_⟩
  refine ⟨_, rfl, tp, rfl, ⟨_, (same_new ha _).tup hp⟩, comp_tup (xs := ys) (fun i us H' => ∃ (z : Int) (rm : List Int), us = rm.map V.int ∧ rm.length = i ∧ (∀ r ∈ rm, r.natAbs < 1000) ∧ H' = upd H a (.lst [.int z, .int (c % 2)])) ⟨_, [], rfl, rfl, (fun _ h => nomatch h), rfl⟩ (fun i us H' _ ⟨_, _, _, _, _, e⟩ => by rw [e]; exact (same_new ha _).tup hp) (fun i us H' _ ⟨_, _, e, e2, _⟩ => by rw [e, List.length_map, e2]; exact small1000 (by omega)) ?_ ?_⟩
  · rintro i x us H' hx ⟨z, rm, rfl, e2, e3, rfl⟩
    have hi : i < ps.length := by rw [← ly]; exact (List.getElem?_eq_some_iff.mp hx).1
    obtain ⟨v, e1, iv⟩ := iss_at ip hi
    rw [hx] at e1
    cases e1
    obtain ⟨r, rfl, hr⟩ := is_pl iv
    have o := op _ (List.getElem_mem hi)
    have oa := o.a
    have ob := o.b
    have oc := o.c
    have odd := o.d
    refine ⟨r, _, rfl, (same_new ha _).tup hr, rfl, _, _, rfl, _, _, rfl, _, _, rfl, _, _, rfl, rfl, ?_⟩
    refine ⟨_, rfl, _, rfl, _, rfl, _, rfl, _, _, rfl, rfl, _, _, rfl, rfl, a, _, _, _, rfl, upd_same, by omega, by omega, fun y z2 y0 y1 => ⟨_, _, rfl, rfl, ?_⟩⟩
    rw [upd_upd]
    refine ⟨z2, rm ++ [ps[i].lo + y], by rw [List.map_append]; rfl, by rw [List.length_append, e2]; rfl, fun r hr => ?_, rfl⟩
    rcases List.mem_append.mp hr with h | h
    · exact e3 r h
    · rw [List.mem_singleton.mp h]
      omega
  rintro us H' ⟨z, rm, rfl, e2, e3, rfl⟩ D hD
  refine ⟨D, _, rfl, .inl ⟨SqL.of upd_same, fun t ht => ?_⟩⟩
  exact q t _ rm ((same_new ha _).trans ((same_new hD _).trans (same_new ht _))) upd_same ⟨by rw [e2, ly], few, e3⟩
end
end Nw

set_option Elab.async false
set_option linter.all false
set_option maxRecDepth 100000
set_option maxHeartbeats 4000000
namespace Nw
open PySem L2
/-! ### rules that name K, for comprehensions -/
theorem pe_fldK {X : Cx} {K : PySem.W.Frag} {e : Expr} {f : Str} {pos : Pos} {ta : TE} (hK : X.K = K) (he : PE X e ta) (hb : attributeBase e f X.env (eval e X.env) = eval e X.env) : PE X (.Attribute e f pos) (tFld K ta f) := hK ▸ pe_fld he hb
/-! ### a machine as an object -/
def macF (p k d : V) : List (Str × V) := putF "deeds" d (putF "keeps" k (putF "places" p []))
theorem mac_p (p k d : V) : (macF p k d).lookup ("places" : Str) = some p := by unfold macF; rw [lookup_putF, if_neg (by decide +kernel), lookup_putF, if_neg (by decide +kernel), lookup_putF, if_pos rfl]
theorem mac_d (p k d : V) : (macF p k d).lookup ("deeds" : Str) = some d := by unfold macF; rw [lookup_putF, if_pos rfl]
theorem mac_no {x : Str} (p k d : V) (h1 : x ≠ "deeds") (h2 : x ≠ "keeps") (h3 : x ≠ "places") : (macF p k d).lookup x = none := by unfold macF; rw [lookup_putF, if_neg h1, lookup_putF, if_neg h2, lookup_putF, if_neg h3]; rfl
structure ClsM (K : PySem.W.Frag) (CM : Addr) : Prop where
  cl : Cls K CM
  n1 : NoAttr K CM "places"
  n2 : NoAttr K CM "keeps"
  n3 : NoAttr K CM "deeds"
structure ObjM (K : PySem.W.Frag) (CK : Kd → Addr) (CC : Kc → Addr) (CY : Ks → Addr) (CD CM : Addr) (H : Hp) (ps : List Pl) (ds : List De) (m dx tp td : Addr) (vk : V) (ys us : List V) : Prop where
  at_ : H m = some (.ins CM dx (macF (.ref tp) vk (.ref td)))
  hp : SqT K H tp ys
  ip : Iss K H (ps.map plD) ys
  hd : H td = some (.tup us)
  al : Al (ObjD CK CC CY CD H) ds us
theorem ObjM.same {K : PySem.W.Frag} {CK : Kd → Addr} {CC : Kc → Addr} {CY : Ks → Addr} {CD CM : Addr} {H H' : Hp} {ps : List Pl} {ds : List De} {m dx tp td : Addr} {vk : V} {ys us : List V} (s : Same H H') (M : ObjM K CK CC CY CD CM H ps ds m dx tp td vk ys us) : ObjM K CK CC CY CD CM H' ps ds m dx tp td vk ys us :=
  ⟨s _ _ M.at_, s.tup M.hp, M.ip.same s, s _ _ M.hd, M.al.mono fun _ _ h => h.same s⟩
section
variable {P : Program} {w : World} {K : PySem.W.Frag} {mg : Str → Option Value} {base : Heap} {CK : Kd → Addr} {CC : Kc → Addr} {CY : Ks → Addr} {CD CM : Addr}
def spMacI (C : Addr) : Sp := fun vs H Q _ => ∃ (x dx : Addr) (n o u : V), vs = [.ref x, n, o, u] ∧ H x = some (.ins C dx []) ∧ ∀ H', H' x = some (.ins C dx (macF n o u)) → (∀ b, b ≠ x → H' b = H b) → Q .non H'
theorem scMacI : FnScope ["self", "places", "keeps", "deeds"] ["self", "places", "keeps", "deeds"] (defScope sMacI) := ⟨rfl, rfl, rfl, by decide +kernel, rfl, by decide +kernel, by decide +kernel⟩
theorem ok_macI {f : Addr} {fd : FuncData} (c : ClsM K CM) (F : Fun K "__init__" "Machine.__init__" sMacI f fd) : FnOk P w K mg base CX0 1 f fd ["self", "places", "keeps", "deeds"] (spMacI CM) := by
  refine F.ok scMacI (fun vs H Q E h => ?_) (fun cdv A outer s H vs Q E hr h => ?_)
  · obtain ⟨x, dx, n, o, u, rfl, _⟩ := h
    rfl
  obtain ⟨x, dx, n, o, u, rfl, hx, q⟩ := h
  refine ⟨_, (@pss_cons _ _ _ _ _ (@ps_fld _ _ _ _ _ _ _ _ (pv 0) (pv 1) rfl) (@pss_cons _ _ _ _ _ (@ps_fld _ _ _ _ _ _ _ _ (pv 0) (pv 2) rfl) (@pss_one _ _ _ (@ps_fld _ _ _ _ _ _ _ _ (pv 0) (pv 3) rfl)))), ?_⟩
  refine ⟨_, rfl, _, rfl, x, _, dx, _, rfl, hx, c.cl, c.n1, (by show 0 < 1000; decide), ?_⟩
  refine ⟨_, rfl, _, rfl, x, _, dx, _, rfl, upd_same, c.cl, c.n2, Nat.lt_of_le_of_lt (length_putF _ _ _) (by show 1 < 1000; decide), ?_⟩
  refine ⟨_, rfl, _, rfl, x, _, dx, _, rfl, upd_same, c.cl, c.n3, Nat.lt_of_le_of_lt (length_putF _ _ _) (Nat.lt_of_le_of_lt (Nat.succ_le_succ (length_putF _ _ _)) (by show 2 < 1000; decide)), ?_⟩
  exact q _ upd_same fun b hb => by rw [upd_ne hb, upd_ne hb, upd_ne hb]
/-! ### values in a room -/
def spValuesIn (K : PySem.W.Frag) (CK : Kd → Addr) (CC : Kc → Addr) (CY : Ks → Addr) (CD CM : Addr) : Sp := fun vs H Q _ => ∃ (m dx tp td tr : Addr) (vk : V) (ys us : List V) (ps : List Pl) (ds : List De) (rm : List Int), vs = [.ref m, .ref tr] ∧ ObjM K CK CC CY CD CM H ps ds m dx tp td vk ys us ∧ SqT K H tr (rm.map V.int) ∧ RmOk ps rm ∧
  ∀ (q : Addr) (H' : Hp), Same H H' → H q = none → H' q = some (.dK (kvT (ps.zip rm))) → Q (.ref q) H'
theorem scValuesIn : FnScope ["self", "room", "values", "place", "value"] ["self", "room"] (defScope sValuesIn) := ⟨rfl, rfl, rfl, by decide +kernel, rfl, by decide +kernel, by decide +kernel⟩
theorem ok_valuesIn {f : Addr} {fd : FuncData} (B : Bl mg) (c : ClsM K CM) (F : Fun K "values_in" "Machine.values_in" sValuesIn f fd) : FnOk P w K mg base CX0 1 f fd ["self", "room"] (spValuesIn K CK CC CY CD CM) := by
  refine F.ok scValuesIn (fun vs H Q E h => ?_) (fun cdv A outer s H vs Q E hr h => ?_)
  · obtain ⟨m, dx, tp, td, tr, vk, ys, us, ps, ds, rm, rfl, _⟩ := h
    rfl
  obtain ⟨m, dx, tp, td, tr, vk, ys, us, ps, ds, rm, rfl, M, hrm, R, q⟩ := h
  have hu1 := hu1_of hr
  have ly : ys.length = ps.length := by rw [M.ip.length, List.length_map]
  refine ⟨_, (@pss_cons _ _ _ _ _ (@ps_set _ _ 2 _ _ _ _ scValuesIn.nd rfl (Or.inl rfl) pe_dnewK rfl (Or.inl rfl)) (@pss_cons _ _ _ _ _ (@ps_for _ _ _ _ _ _ _ _ PassesOwn.never rfl (pi_zip false false rfl B.zip (@pa_cons _ _ _ _ _ (@pe_fld _ _ _ _ _ (pv 0) rfl) (@pa_cons _ _ _ _ _ (pv 1) pa_nil (by rfl)) (by rfl))) (pg_tup (n := 2) rfl (pgs_cons (pg_name (i := 3) scValuesIn.nd rfl (Or.inl rfl)) (pgs_cons (pg_name (i := 4) scValuesIn.nd rfl (Or.inl rfl)) pgs_nil))) (@pss_one _ _ _ (@ps_dput _ _ _ _ _ _ _ _ _ hu1 (pv 2) (@pe_ix _ _ _ _ _ _ (rIxT K) ix_tup (pv 3) pe_int (fun _ _ => rfl)) (pv 4) rfl)) (by intro _; rfl)) (@pss_one _ _ _ (@ps_ret _ _ _ _ (pv 2))))), ?_⟩
  refine fun pv hpv => ?_
  have s1 := same_new hpv (.dK [])
  refine ⟨_, rfl, m, _, dx, _, _, rfl, s1 _ _ M.at_, c.cl, c.n1, mac_p _ _ _, _, rfl, tp, tr, rfl, ⟨_, s1.tup M.hp⟩, ⟨_, s1.tup hrm⟩, for_zip (b1 := false) (b2 := false) (xs := ys) (ys := rm.map V.int) (by rw [List.length_map, R.len, ly]) (fun i σ H2 => ∃ v1 v2 : Option V, σ = [some (.ref m), some (.ref tr), some (.ref pv), v1, v2] ∧ Same H H2 ∧ H2 pv = some (.dK (kvT ((ps.zip rm).take i)))) ⟨none, none, rfl, s1, upd_same⟩ (fun i σ H2 _ ⟨_, _, _, s2, _⟩ => ⟨s2.tup M.hp, s2.tup hrm⟩) ?_ ?_⟩
  · rintro i x y σ H2 t hx hy ⟨v1, v2, rfl, g1, g2⟩ ht
    have hi : i < ps.length := by rw [← ly]; exact (List.getElem?_eq_some_iff.mp hx).1
    have hir : i < rm.length := by rw [R.len]; exact hi
    have hz : i < (ps.zip rm).length := by rw [R.zlen]; exact hi
    obtain ⟨v, ev, iv⟩ := iss_at M.ip hi
    rw [hx] at ev
    cases ev
    obtain ⟨r, rfl, hr'⟩ := is_pl iv
    rw [List.getElem?_map, List.getElem?_eq_getElem hir] at hy
    cases hy
    have n1 := same_new ht (.tup [V.ref r, V.int rm[i]])
    refine ⟨_, _, rfl, SqT.of upd_same, rfl, _, _, rfl, _, _, rfl, rfl, ?_⟩
    refine ⟨_, rfl, _, rfl, _, rfl, r, _, _, _, rfl, rfl, (g1.trans n1).tup hr', atI_nat (j := 0) rfl, pv, _, rfl, DPut.k (k := .inr ps[i].n) (n1 _ _ g2) (small1000 (by have h1 := (fil_take R.zs i (Nat.le_of_lt hz)).len; have h2 := R.few; omega)), ?_⟩
    refine ⟨_, _, rfl, same_put (g1.trans n1) hpv _, ?_⟩
    rw [upd_same, kvT_take hz, List.getElem_zip]
  · rintro σ H2 ⟨v1, v2, rfl, g1, g2⟩
    rw [List.take_of_length_le (by rw [R.zlen]; omega)] at g2
    exact ⟨_, rfl, q pv H2 g1 hpv g2⟩
end
end Nw

set_option Elab.async false
set_option linter.all false
set_option maxRecDepth 100000
set_option maxHeartbeats 4000000
namespace Nw
open PySem L2
section
variable {P : Program} {w : World} {K : PySem.W.Frag} {mg : Str → Option Value} {base : Heap} {CK : Kd → Addr} {CC : Kc → Addr} {CY : Ks → Addr} {CD CM : Addr}
def spFirst (K : PySem.W.Frag) (CK : Kd → Addr) (CC : Kc → Addr) (CY : Ks → Addr) (CD CM : Addr) : Sp := fun vs H Q _ => ∃ (m dx tp td : Addr) (vk : V) (ys us : List V) (ps : List Pl) (ds : List De), vs = [.ref m] ∧ ObjM K CK CC CY CD CM H ps ds m dx tp td vk ys us ∧ ps.length ≤ 8 ∧
  ∀ (q : Addr) (H' : Hp), Same H H' → H' q = some (.tup ((ps.map (·.st)).map V.int)) → Q (.ref q) H'
theorem scFirst : FnScope ["self"] ["self"] (defScope sFirst) := ⟨rfl, rfl, rfl, by decide +kernel, rfl, by decide +kernel, by decide +kernel⟩
theorem nd_scFirst1 : (["self", "place"] : List Str).Nodup := by decide +kernel
theorem ok_first {f : Addr} {fd : FuncData} (B : Bl mg) (c : ClsM K CM) (F : Fun K "first" "Machine.first" sFirst f fd) : FnOk P w K mg base CX0 1 f fd ["self"] (spFirst K CK CC CY CD CM) := by
  refine F.ok scFirst (fun vs H Q E h => ?_) (fun cdv A outer s H vs Q E hr h => ?_)
  · obtain ⟨m, dx, tp, td, vk, ys, us, ps, ds, rfl, _⟩ := h
    rfl
  obtain ⟨m, dx, tp, td, vk, ys, us, ps, ds, rfl, M, l8, q⟩ := h
  have ly : ys.length = ps.length := by rw [M.ip.length, List.length_map]
  refine ⟨_, (@pss_one _ _ _ (@ps_ret _ _ _ _ (pe_callTy call_tuple_of (by rfl) B.tuple PyProof.Rows.boot_tuple (@pa_cons _ _ _ _ _ (pe_comp (NX := ["self"]) (N := ["self", "place"]) (ms := [true, false]) (ks := [1]) (out := defScope sFirst) (by exact ⟨rfl, by decide +kernel, by decide +kernel, by decide +kernel, by decide +kernel, by decide +kernel⟩) rfl rfl rfl (@pi_tup _ _ _ _ (@pe_fld _ _ _ _ _ (pv 0) rfl)) (@sets_name 1) (by decide) (fun C ex s H => (pg_name (i := 1) nd_scFirst1 rfl (Or.inl rfl))) (fun C ex s H => pts_nil) (fun C ex s H => (@pe_ix _ _ _ _ _ _ (rIxT K) ix_tup (pv 1) pe_int (fun _ _ => rfl)))) pa_nil (by rfl))))), ?_⟩
  refine ⟨_, rfl, m, _, dx, _, _, rfl, M.at_, c.cl, c.n1, mac_p _ _ _, tp, rfl, ⟨_, M.hp⟩, comp_tup (xs := ys) (fun i ws H' => ws = ((ps.map (·.st)).take i).map V.int ∧ H' = H) ⟨rfl, rfl⟩ (fun i ws H' _ ⟨_, e'⟩ => by rw [e']; exact M.hp) (fun i ws H' _ ⟨e', _⟩ => by rw [e', List.length_map]; exact small1000 (by rw [List.length_take, List.length_map]; omega)) ?_ ?_⟩
  · rintro i y ws H' hy ⟨rfl, rfl⟩
    have hi : i < ps.length := by rw [← ly]; exact (List.getElem?_eq_some_iff.mp hy).1
    obtain ⟨v, ev, iv⟩ := iss_at M.ip hi
    rw [hy] at ev
    cases ev
    obtain ⟨r, rfl, hr'⟩ := is_pl iv
    refine ⟨_, rfl, r, _, _, _, rfl, rfl, hr', atI_nat (j := 3) rfl, ?_, rfl⟩
    rw [List.take_add_one, List.getElem?_map, List.getElem?_eq_getElem hi, List.map_append]
    rfl
  rintro ws H6 ⟨rfl, rfl⟩ D2 hD2
  rw [List.take_of_length_le (by rw [List.length_map]; omega)]
  exact ⟨D2, _, rfl, .inl ⟨SqL.of upd_same, fun t1 ht1 => q t1 _ ((same_new hD2 _).trans (same_new ht1 _)) upd_same⟩⟩
theorem kvT_nd {zs : List (Pl × Int)} (hn : (zs.map (·.1.n)).Nodup) : ∀ i, i ≤ zs.length → (kvT (zs.take i)).length = i ∧ ∀ j (hj : j < zs.length), valV (kvT (zs.take i)) (.inr zs[j].1.n : Key) = if j < i then some (.int zs[j].2) else none
  | 0, _ => ⟨rfl, fun j hj => by rw [if_neg (Nat.not_lt_zero j)]; rfl⟩
  | i + 1, h => by
    have h' : i < zs.length := h
    obtain ⟨h1, h2⟩ := kvT_nd hn i (Nat.le_of_lt h')
    have h3 := h2 i h'
    rw [if_neg (Nat.lt_irrefl i)] at h3
    rw [kvT_take h']
    refine ⟨by rw [putK_new _ h3, List.length_append, h1]; rfl, fun j hj => ?_⟩
    rw [valV_put]
    by_cases e : j = i
    · subst e
      rw [if_pos rfl, if_pos (Nat.lt_succ_self _)]
    · have ne : ¬ (Sum.inr zs[j].1.n : Key) = .inr zs[i].1.n := by
        intro z
        have z : zs[j].1.n = zs[i].1.n := Sum.inr.inj z
        have lz : (zs.map (·.1.n)).length = zs.length := List.length_map ..
        rcases Nat.lt_or_gt_of_ne e with g | g
        · have := List.pairwise_iff_getElem.mp hn j i (by omega) (by omega) g
          simp only [List.getElem_map] at this
          exact this z
        · have := List.pairwise_iff_getElem.mp hn i j (by omega) (by omega) g
          simp only [List.getElem_map] at this
          exact this z.symm
      rw [if_neg ne, h2 j hj]
      by_cases g : j < i
      · rw [if_pos g, if_pos (by omega)]
      · rw [if_neg g, if_neg (by omega)]
end
end Nw

set_option Elab.async false
set_option linter.all false
set_option maxRecDepth 100000
set_option maxHeartbeats 4000000
namespace L2
open PySem PySem.Spec PyProof.Rows
section
variable {X : Cx}
end
end L2

set_option Elab.async false
set_option linter.all false
set_option maxRecDepth 100000
set_option maxHeartbeats 4000000
namespace NwI
open PySem
theorem entry_iter : entryFor table "dict_itemiterator.__iter__" = some Builtin.«dict_keyiterator.__iter__» :=
  entryFor_alias (id' := "dict_keyiterator.__iter__") (by kernel_rfl) rfl (by decide +kernel) (by kernel_rfl)
end NwI
namespace L2
open PySem PySem.Spec PyProof.Rows
/-! ### f'c{e}', e a text -/
section
variable {X : Cx}
theorem str_nil (c : Str) : Str.empty ++ c = c := by
  cases c
  exact congrArg Str.mk (Array.empty_append)
theorem pe_fstr {c : Str} {e : Expr} {te : TE} {j : Nat} {p1 p2 pos : Pos} (he : PE X e te) (hc : c.length ≤ 1000 := by decide) :
    PE X (.JoinedStr [.Constant (.str c) j p1, .FormattedValue e (-1) none p2] pos) (fun σ H Q => te σ H fun v H1 => ∃ y, v = .str y ∧ y.length ≤ 1000 ∧ Q (.str (c ++ y)) H1) := by
  intro pins s σ H Q I h
  refine JoinedStr_many (joinParts_cons (Calls.Constant_str ⟨?_, ?_⟩))
  · rw [str_nil]; exact Nat.le_of_lt (small1000 hc)
  rw [str_nil]
  refine joinParts_cons (FormattedValue_plain (thn (he pins _ σ H _ (I.tok _) h) fun u s1 ⟨v, H1, I1, r1, y, e, hy, q⟩ => ?_))
  subst e
  obtain ⟨t, rfl⟩ := r1
  have hz : (c ++ y).length ≤ sizeLine := by
    show (c.cps ++ y.cps).size ≤ _
    rw [Array.size_append]
    have h1 : c.cps.size ≤ 1000 := hc
    have h2 : y.cps.size ≤ 1000 := hy
    rw [sizeLine_eq]; omega
  refine formatField_str (fun t' tk => ⟨hz, joinParts_nil ⟨.str (c ++ y), H1, ?_, ⟨_, rfl⟩, q⟩ hz⟩) (Nat.le_of_lt (small1000 hy))
  exact (I1.tok tk).tok _
/-! ### for k, v in d.items() -/
def Itd (d : Addr) (o : Obj) (kvs : List (Key × V)) : It :=
  ⟨fun i H => H d = some (.frz o (.dK kvs)) ∧ i < kvs.length, fun i H x H' => ∃ t k y, x = .ref t ∧ H t = none ∧ H' = upd H t (.tup [kV k, y]) ∧ kvs[i]? = some (k, y), fun i H => H d = some (.frz o (.dK kvs)) ∧ kvs.length ≤ i⟩
theorem relV_kV {k : Key} {u : Value} (h : keyIs k u = true) : RelV (kV k) u := by
  rcases keyIs_shape h with ⟨i, t, rfl, rfl⟩ | ⟨x, t, rfl, rfl⟩
  · exact ⟨t, rfl⟩
  · exact ⟨t, rfl⟩
theorem KV.get {κ : Type} : ∀ {kvs : List (κ × V)} {vs : List (κ × Value)} {i : Nat} {k : κ} {y : V}, KV kvs vs → kvs[i]? = some (k, y) → ∃ u, vs[i]? = some (k, u) ∧ RelV y u
  | _, _, i, _, _, .nil, e => by simp at e
  | _, _, 0, k, y, .cons (b := q) r _, e => by
    simp at e; subst e
    obtain ⟨r1, r2⟩ := r
    obtain ⟨q1, q2⟩ := q
    dsimp only at r1 r2
    subst r1
    exact ⟨_, rfl, r2⟩
  | _, _, i + 1, k, y, .cons _ t, e => by
    obtain ⟨u, h1, h2⟩ := KV.get (i := i) t (by simpa using e)
    exact ⟨u, by simpa using h1, h2⟩
theorem KV.len {κ : Type} {kvs : List (κ × V)} {vs : List (κ × Value)} (h : KV kvs vs) : kvs.length = vs.length := Paired.length h
theorem dictAt_of {P : Program} {w : World} {H : Hp} {h : Heap} {d : Addr} {o : Obj} {es0 : Array DictEntry} {ep : Nat} {kvs : List (Key × V)} (hd : o.data = .dict es0 ep) (hx : ObjOk P w H h d (.frz o (.dK kvs))) :
    ∃ vs, KV kvs vs ∧ h.DictAt (mixKind P w) d vs ep := by
  obtain ⟨ho, _, _, vs, kv, o', es, ep', ho', ex, hd', k1, k2, k3⟩ := hx
  rw [ho] at ho'
  cases ho'
  rw [hd] at hd'
  cases hd'
  exact ⟨vs, kv, o, _, ho, ex, hd, k1, k2, k3⟩
theorem turn_items {P : Program} {w : World} {K : PySem.W.Frag} {elts : List Expr} {x1 : Nat} {pos : Pos} (d it : Addr) (o : Obj) (es0 : Array DictEntry) (ep : Nat) (kvs : List (Key × V)) (hd : o.data = .dict es0 ep) :
    Turn P w K (.Tuple elts x1 pos) (Itd d o kvs) [it] it (fun i h => ∃ ok ov, IsItemIter h it d i kvs.length ep ok ov) where
  mem := by simp
  obj := fun i h st b hb => by
    have e : b = it := by simpa using hb
    subst e
    obtain ⟨ok, ov, e⟩ := st
    exact ⟨_, e, fun v z => by cases z⟩
  keep := fun i h h' st k => by
    obtain ⟨ok, ov, e⟩ := st
    exact ⟨ok, ov, k it (by simp) _ e⟩
  item := by
    intro X hP hw hK hc i pins s σ H E I hf st hg
    subst hP hw hK
    obtain ⟨ok, ov, hit⟩ := st
    obtain ⟨hH, hi⟩ := hg
    obtain ⟨vs, kv, hm⟩ := dictAt_of hd (I.hok d _ hH)
    obtain ⟨⟨k, y⟩, hx⟩ : ∃ p, kvs[i]? = some p := ⟨kvs[i], by simp [hi]⟩
    obtain ⟨u, hu, ru⟩ := kv.get hx
    rw [kv.len] at hit
    have hlt : it < s.heap.objs.size := Heap.lt_size hit
    refine wpAny_pyNext_items_item hit hm hu fun key h' hk ho hT hsz hkp => ⟨_, rfl, ?_⟩
    refine wpAny_letOwnedTupleGo_items ho fun h2 he2 sb => ?_
    refine ⟨.ref s.heap.objs.size, upd H s.heap.objs.size (.tup [kV k, y]), ?_, rfl, ⟨_, k, y, rfl, I.hok.fresh (Nat.le_refl _), rfl, hx⟩, ⟨_, _, by rw [kv.len]; exact he2⟩, fun b hb => ?_⟩
    · refine I.tupled (ch := [it]) (its := [key, u]) hf (fun b o hb q => ?_) (by show 2 ≤ sizeLine; decide) (.cons (relV_kV hk) (.cons ru .nil)) ?_
      · have h1 : b ≠ it := fun z => hb (by simp [z])
        exact sb.extBut b o h1 (hkp b o h1 q)
      · exact ⟨_, sb.extBut _ _ (Ne.symm (Nat.ne_of_lt hlt)) hT, rfl, _, rfl⟩
    · have hb' := (hf b hb).1
      have z := List.mem_singleton.mp hb
      rw [upd_ne (by rw [z]; exact Nat.ne_of_lt hlt)]
      exact hb'
  done := by
    intro X hP hw hK hc i pins s σ H E I hf st hg
    subst hP hw hK
    obtain ⟨ok, ov, hit⟩ := st
    obtain ⟨hH, hi⟩ := hg
    obtain ⟨vs, kv, hm⟩ := dictAt_of hd (I.hok d _ hH)
    obtain ⟨f0, f1, f2, f3, f4, f5⟩ := hf it (by simp)
    rw [kv.len] at hit hi
    exact wpAny_pyNext_items_end (I.ok.hd hc) hit hm (List.getElem?_eq_none hi) fun h' eb => ⟨rfl, I.turned (t' := s.toks) (fun b o hb e => eb b o hb e) f0 f1 f3 f4 f5⟩
  self := fun _ _ _ _ _ st h => by
    obtain ⟨ok, ov, hit⟩ := st
    have hT : Shared.TypeIs _ (.ref it) "dict_itemiterator" := ⟨_, hit, rfl⟩
    refine wpAny_pyIter_slot hT PySem.F.slot_dict_itemiterator_iter (wpAny_call_entry PySem.F.slot_dict_itemiterator_iter hT NwI.entry_iter ?_ (PySem.F.args_dict_itemiterator_iter_1 _))
    show wpAny _ _ (ret (.ref it)) _ _ _
    exact wpAny_pure ⟨_, rfl, "dict_itemiterator", _, hT, PySem.F.slot_dict_itemiterator_next.lookup, h⟩
def iItems (te : TE) : TI := fun σ H R => te σ H fun v H1 => ∃ d kvs, v = .ref d ∧ H1 d = some (.dK kvs) ∧ ∀ o, R (Itd d o kvs) (upd H1 d (.frz o (.dK kvs)))
theorem pi_items {e : Expr} {te : TE} {elts : List Expr} {x1 : Nat} {tpos apos pos : Pos} (he : PE X e te)
    (hbase : attributeBase e "items" X.env (eval e X.env) = eval e X.env := by rfl) (hline : (apos.endLine == pos.line) = true := by rfl) :
    PI X (.Tuple elts x1 tpos) (.Call (.Attribute e "items" apos) [] [] pos) (iItems te) := by
  intro pins s σ H R I h
  refine wpAny_Call_method0_late hbase hline (thn (he pins s σ H _ I h) fun v s1 ⟨x, H1, I1, r1, d, kvs, ex, hH, q⟩ => ?_)
  subst ex
  cases r1
  obtain ⟨hl, hsys, vs, kv, hdo⟩ := I1.hok d _ hH
  obtain ⟨o, es, ep, ho, hex, hdat, k1, k2, k3⟩ := id hdo
  have hlt : d < s1.heap.objs.size := Heap.lt_size ho
  refine ⟨"dict", "dict.items", PySem.F.plainAttrs_dict, PySem.F.slot_dict_items, PySem.F.type_dict_items, hdo.typeIs, (fun b e => by injection e with e; subst e; exact ⟨o, ho, hex.2.1⟩), Calls.callWith_builtin rfl (PySem.evalArgs_none (call_meetsIn PySem.F.slot_dict_items hdo.typeIs PySem.F.entry_dict_items (PySem.F.args_dict_items_1 _) (meets_dict_items (mixKind X.prog X.w) d hsys) ⟨⟨vs, hdo⟩, ?_⟩))⟩
  have hm : (s1.heap.push { cls := .type "dict_items", data := .fields #[.ref d] }).DictAt (mixKind X.prog X.w) d vs ep := ⟨o, es, Heap.get?_push_of_some _ ho, hex, hdat, k1, k2, k3⟩
  refine wpAny_pyIter_items ⟨_, Heap.get?_push_size _ rfl, rfl, rfl⟩ hm ?_
  have n1 : H1 (s1.heap.objs.size + 1) = none := I1.hok.fresh (Nat.le_succ _)
  have hz : (s1.heap.push { cls := .type "dict_items", data := .fields #[.ref d] }).objs.size = s1.heap.objs.size + 1 := Heap.size_push _ _
  have I2 := I1.kept (t' := s1.toks) (h' := (s1.heap.push { cls := .type "dict_items", data := .fields #[.ref d] }).push { cls := .type "dict_itemiterator", data := .fields #[.none, .bool false, .ref d, .int 0 0, .int vs.length 0, .int ep 0, .none, .none] }) fun b u e => Heap.get?_push_of_some _ (Heap.get?_push_of_some _ e)
  have ho2 : ((s1.heap.push { cls := .type "dict_items", data := .fields #[.ref d] }).push { cls := .type "dict_itemiterator", data := .fields #[.none, .bool false, .ref d, .int 0 0, .int vs.length 0, .int ep 0, .none, .none] }).get? d = some o := Heap.get?_push_of_some _ (Heap.get?_push_of_some _ ho)
  have I3 := I2.write (x := d) (e := d) (o := .frz o (.dK kvs)) (t' := s1.toks) (h' := (s1.heap.push { cls := .type "dict_items", data := .fields #[.ref d] }).push { cls := .type "dict_itemiterator", data := .fields #[.none, .bool false, .ref d, .int 0 0, .int vs.length 0, .int ep 0, .none, .none] }) (by rw [hH]; trivial) (.inl rfl) (fun b u _ e => e) ⟨o, ho2⟩ ⟨ho2, hl, hsys, vs, kv, o, es, ep, ho2, hex, hdat, k1, k2, k3⟩
  refine ⟨s1.heap.objs.size + 1, [s1.heap.objs.size + 1], _, _, _, by rw [hz], I3, turn_items d _ o es ep kvs hdat, ⟨.none, .none, ?_⟩, fun b hb => ?_, q o⟩
  · rw [kv.len, ← hz]
    exact Heap.get?_push_size _ rfl
  · have z := List.mem_singleton.mp hb
    subst z
    have f := I1.fpOk (Nat.le_succ _) n1
    exact ⟨by rw [upd_ne (Nat.ne_of_gt (Nat.lt_succ_of_lt hlt))]; exact n1, f.2⟩
/-- a loop over a dict's pairs -/
theorem for_items {d : Addr} {o : Obj} {kvs : List (Key × V)} {g : TG} {tb : TS} {D : Ends} {σ : St} {H : Hp} (Pv : Nat → St → Hp → Prop) (h0 : Pv 0 σ H) (hl : ∀ i σ H, i ≤ kvs.length → Pv i σ H → H d = some (.frz o (.dK kvs)))
    (hs : ∀ i k y σ H t, kvs[i]? = some (k, y) → Pv i σ H → H t = none → g (.ref t) σ (upd H t (.tup [kV k, y])) fun σ2 H2 => tb { D with nx := Pv (i + 1), ct := Pv (i + 1), bk := D.nx } σ2 H2) (hd : ∀ σ H, Pv kvs.length σ H → D.nx σ H) :
    ∃ W : Nat → Nat → St → Hp → Prop, (∃ m, W 0 m σ H) ∧ ∀ i m σ H, W i m σ H →
      ((Itd d o kvs).stop i H ∧ D.nx σ H) ∨ ((Itd d o kvs).go i H ∧ ∃ N : St → Hp → Prop, (∀ σ' H', N σ' H' → ∃ m', m' < m ∧ W (i + 1) m' σ' H') ∧ ∀ x H', (Itd d o kvs).yld i H x H' → g x σ H' fun σ2 H2 => tb { D with nx := N, ct := N, bk := D.nx } σ2 H2) := by
  refine ⟨fun i m σ H => m = kvs.length - i ∧ i ≤ kvs.length ∧ Pv i σ H, ⟨kvs.length, by simp, Nat.zero_le _, h0⟩, ?_⟩
  rintro i m σ H ⟨rfl, hi, p⟩
  have q := hl i σ H hi p
  by_cases hlt : i < kvs.length
  · refine .inr ⟨⟨q, hlt⟩, Pv (i + 1), fun σ' H' p' => ⟨kvs.length - (i + 1), by omega, rfl, hlt, p'⟩, fun x H' y => ?_⟩
    obtain ⟨t, k, y, rfl, hn, rfl, hx⟩ := y
    exact hs i k y σ H t hx p hn
  · have e : i = kvs.length := by omega
    subst e
    exact .inl ⟨⟨q, Nat.le_refl _⟩, hd σ H p⟩
end
end L2

set_option Elab.async false
set_option linter.all false
set_option maxRecDepth 100000
set_option maxHeartbeats 4000000
namespace Nw
open PySem L2
/-! ### a machine's own saying -/
def ownY : List Str → Sy
  | [] => .yes
  | [x] => .cmp .eq (.nam ("@" ++ x)) (.nam x)
  | x :: y :: r => .bin .and (.cmp .eq (.nam ("@" ++ x)) (.nam x)) (ownY (y :: r))
def ownT : List Str → Str
  | [] => "yes"
  | [x] => "@" ++ x ++ " = " ++ x
  | x :: y :: r => "[ @" ++ x ++ " = " ++ x ++ " and " ++ ownT (y :: r) ++ " ]"
theorem cut1 (a : V) (xs : List V) : cutV (a :: xs) (some 1) none = xs := by
  unfold cutV
  have e1 : HT.sIx (a :: xs).length 0 (some 1) = 1 := by
    have := HT.sIx_nat (a :: xs).length 0 1
    rw [List.length_cons] at *
    rw [show (some (1 : Int)) = some ((1 : Nat) : Int) from rfl, this]
    omega
  rw [e1, HT.sIx_none, List.length_cons, Nat.add_sub_cancel]
  show (xs.take xs.length) = xs
  exact List.take_length
theorem is_strs {K : PySem.W.Frag} {H : Hp} {p : Addr} {l : List Str} (h : SqL K H p (l.map V.str)) : Is K H (.lst (l.map Dt.str)) (.ref p) := by
  rw [Is]
  exact ⟨p, _, rfl, h, Iss.strs l⟩
theorem is_no {K : PySem.W.Frag} {H : Hp} {p : Addr} (h : H p = some (.lst [])) : Is K H (.lst []) (.ref p) := by
  rw [Is]
  exact ⟨p, _, rfl, SqL.of h, .nil⟩
theorem dep_strs (l : List Str) : dep (.lst (l.map Dt.str)) ≤ 50 := by rw [dep, deps_strs]; decide
theorem str_assoc (a b c : Str) : a ++ b ++ c = a ++ (b ++ c) := by
  cases a; cases b; cases c
  exact congrArg Str.mk (Array.append_assoc)
theorem join5s (a b c : Str) : Txt.join " " ["[", a, b, c, "]"] = "[ " ++ a ++ " " ++ b ++ " " ++ c ++ " ]" := by
  rw [join_eq]
  show "[" ++ " " ++ (a ++ " " ++ (b ++ " " ++ (c ++ " " ++ "]"))) = _
  have e1 : ("[" : Str) ++ " " = "[ " := by decide +kernel
  have e2 : (" " : Str) ++ "]" = " ]" := by decide +kernel
  rw [e1, str_assoc c, e2]
  simp only [str_assoc]
theorem join3 (a b c : Str) : Txt.join " " [a, b, c] = a ++ " " ++ b ++ " " ++ c := by
  rw [join_eq]
  show a ++ " " ++ (b ++ " " ++ c) = _
  simp only [str_assoc]
theorem same_two {H : Hp} {x dx : Addr} {o o' u : HO} (hx : H x = none) (hd : H dx = none) (n : dx ≠ x) : Same H (upd (upd (upd H dx o) x o') x u) := by
  intro b v e
  rw [upd_ne (ne_of_none e hx)]
  exact same_made hx hd n _ _ b v e
section
variable {P : Program} {w : World} {K : PySem.W.Frag} {mg : Str → Option Value} {base : Heap} {CK : Kd → Addr} {CY : Ks → Addr}
def spOwnSay (K : PySem.W.Frag) (CK : Kd → Addr) (CY : Ks → Addr) (n : Nat) : Sp := fun vs H Q _ => ∃ (p : Addr) (l : List Str), vs = [.ref p] ∧ SqL K H p (l.map V.str) ∧ l.length < n ∧ (∀ x ∈ l, x.length ≤ 8) ∧ l.length ≤ 8 ∧ ∀ (q : Addr) (H' : Hp), Same H H' → ObjS CK CY H' (ownY l) (.ref q) → Q (.ref q) H'
theorem scOwnSay : FnScope ["names", "alike"] ["names"] (defScope sOwnSay) := ⟨rfl, rfl, rfl, by decide +kernel, rfl, by decide +kernel, by decide +kernel⟩
theorem ok_ownSay {f fN fM fT fP fO : Addr} {fd dN dM dT dP dO : FuncData} (B : Bl mg) (T : Maker K mg CK fN fM fT dN dM dT) (S : MakerS K mg CY fP fO dP dO) (F : Fun K "own_saying" "own_saying" sOwnSay f fd) (bO : Binds K fd ["names"] []) (mO : mg "own_saying" = some (.ref f)) :
    ∀ n : Nat, FnOk P w K mg base CX0 (n + 3) f fd ["names"] (spOwnSay K CK CY n)
  | 0 => fn_none fun vs H Q E h => by obtain ⟨p, l, _, _, h1, _⟩ := h; omega
  | n + 1 => by
    have GO := ok_ownSay B T S F bO mO n
    have GM : FnOk P w K mg base CX0 1 fM dM ["self", "name"] (spNamI (CK .nam)) := ok_namI T.cls T.FM
    have GC : FnOk P w K mg base CX0 1 fP dP ["self", "one", "other"] (spTwoI (CY (.cmp .eq))) := ok_paiI (S.cls.cl _) (S.cls.c1 _) (S.cls.c2 _) S.FP
    have GB : FnOk P w K mg base CX0 1 fP dP ["self", "one", "other"] (spTwoI (CY (.bin .and))) := ok_paiI (S.cls.cl _) (S.cls.b1 _) (S.cls.b2 _) S.FP
    refine F.ok scOwnSay (fun vs H Q E h => ?_) (fun cdv A outer s H vs Q E hr h => ?_)
    · obtain ⟨p, l, rfl, _⟩ := h
      rfl
    obtain ⟨p, l, rfl, hp, hn, h8, l8, q⟩ := h
    have hr2 := hr.mono (show 1 + 1 ≤ n + 3 by omega)
    have hu := hu60 hr
    refine ⟨_, (@pss_cons _ _ _ _ _ (@ps_if _ _ _ _ _ _ _ _ (@pt_cmpR _ _ _ _ _ _ _ _ (@op_eqD _ hu) (pv 0) (@pe_lst _ _ _ _ pa_nil) (nomark _)) (@pss_one _ _ _ (@ps_ret _ _ _ _ (pe_make00 S.mkY rfl S.gY))) pss_nil) (@pss_cons _ _ _ _ _ (@ps_set _ _ 1 _ _ _ _ scOwnSay.nd rfl (Or.inl rfl) (pe_make (S.mkP .eq) GC hr2 rfl S.gE S.bP .nil pass0 (@pa_cons _ _ _ _ _ (pe_make T.mkM GM hr2 rfl T.gM T.bM .nil pass0 (@pa_cons _ _ _ _ _ (pe_fstr (@pe_ix _ _ _ _ _ _ (rIxL K) ix_list (pv 0) pe_int (fun _ _ => rfl))) pa_nil (by rfl))) (@pa_cons _ _ _ _ _ (pe_make T.mkM GM hr2 rfl T.gM T.bM .nil pass0 (@pa_cons _ _ _ _ _ (@pe_ix _ _ _ _ _ _ (rIxL K) ix_list (pv 0) pe_int (fun _ _ => rfl)) pa_nil (by rfl))) pa_nil (by rfl)) (by rfl))) rfl (Or.inl rfl)) (@pss_cons _ _ _ _ _ (@ps_if _ _ _ _ _ _ _ _ (@pt_cmpR _ _ _ _ _ _ _ _ op_eq (pe_callB call_len_seq (by rfl) B.len PySem.boot_len (@pa_cons _ _ _ _ _ (pv 0) pa_nil (by rfl))) pe_int (nomark _)) (@pss_one _ _ _ (@ps_ret _ _ _ _ (pv 1))) pss_nil) (@pss_one _ _ _ (@ps_ret _ _ _ _ (pe_make (S.mkB .and) GB hr2 rfl S.gB S.bP .nil pass0 (@pa_cons _ _ _ _ _ (pv 1) (@pa_cons _ _ _ _ _ (pe_call GO hr (by rfl) mO F.kp bO .nil pass0 (@pa_cons _ _ _ _ _ (@pe_slice _ _ _ _ _ _ _ _ _ _ sl_list (pv 0) (@po_some _ _ _ pe_int) po_none) pa_nil (by rfl))) pa_nil (by rfl)) (by rfl)))))))), ?_⟩
    refine ⟨_, rfl, Nat.zero_le _, fun z hz => ⟨_, _, is_strs ((same_new hz _).seq hp), is_no upd_same, rfl, rfl, dep_strs _, _, rfl, ?_⟩⟩
    have s0 := same_new hz (.lst [])
    generalize upd H z (.lst []) = H0 at s0 ⊢
    have hp := s0.seq hp
    rw [eq_nilD]
    cases l with
    | nil =>
      refine ite2 (fun _ => ?_) (fun c => absurd rfl c)
      intro x dx hx hd hxd
      exact q x _ (s0.trans (same_made hx hd hxd _ _)) ⟨x, dx, rfl, upd_same⟩
    | cons a r =>
      refine ite2 (fun c => absurd c (by simp)) (fun _ => ?_)
      have a8 : a.length ≤ 8 := h8 a (by simp)
      refine ⟨_, rfl, p, _, _, _, rfl, rfl, hp, atI_nat (j := 0) rfl, a, rfl, by omega, fun x1 d1 hx1 hd1 n1 => ?_⟩
      refine ⟨x1, d1, _, rfl, upd_same, rfl, ?_⟩
      have s1 := same_two (o := .own x1) (o' := .ins (CK .nam) d1 []) (u := .ins (CK .nam) d1 (namF (.str ("@" ++ a)))) hx1 hd1 n1
      have e1 : upd (upd (upd H0 d1 (.own x1)) x1 (.ins (CK .nam) d1 [])) x1 (.ins (CK .nam) d1 (namF (.str ("@" ++ a)))) x1 = some (.ins (CK .nam) d1 (namF (.str ("@" ++ a)))) := upd_same
      generalize upd (upd (upd H0 d1 (.own x1)) x1 (.ins (CK .nam) d1 [])) x1 (.ins (CK .nam) d1 (namF (.str ("@" ++ a)))) = H1 at s1 e1 ⊢
      have hp := s1.seq hp
      refine ⟨_, rfl, p, _, _, _, rfl, rfl, hp, atI_nat (j := 0) rfl, fun x2 d2 hx2 hd2 n2 => ?_⟩
      refine ⟨x2, d2, _, rfl, upd_same, rfl, ?_⟩
      have s2 := same_two (o := .own x2) (o' := .ins (CK .nam) d2 []) (u := .ins (CK .nam) d2 (namF (.str a))) hx2 hd2 n2
      have e2 : upd (upd (upd H1 d2 (.own x2)) x2 (.ins (CK .nam) d2 [])) x2 (.ins (CK .nam) d2 (namF (.str a))) x2 = some (.ins (CK .nam) d2 (namF (.str a))) := upd_same
      generalize upd (upd (upd H1 d2 (.own x2)) x2 (.ins (CK .nam) d2 [])) x2 (.ins (CK .nam) d2 (namF (.str a))) = H2 at s2 e2 ⊢
      have hp := s2.seq hp
      refine fun x3 d3 hx3 hd3 n3 => ⟨x3, d3, _, _, rfl, upd_same, fun H3 h3 h4 => ⟨rfl, ?_⟩⟩
      have s3 : Same H2 H3 := by
        intro b' u e
        rw [h4 b' (ne_of_none e hx3)]
        exact same_made hx3 hd3 n3 _ _ b' u e
      have hp := s3.seq hp
      have t3 := s0.trans (s1.trans (s2.trans s3))
      have ob : ObjS CK CY H3 (.cmp .eq (.nam ("@" ++ a)) (.nam a)) (.ref x3) := ⟨x3, d3, _, _, rfl, h3, ⟨x1, d1, rfl, s3 _ _ (s2 _ _ e1)⟩, ⟨x2, d2, rfl, s3 _ _ e2⟩⟩
      refine ⟨_, rfl, p, _, rfl, .inl hp, rfl, _, rfl, ite2 (fun c => ?_) (fun c => ?_)⟩
      · have c : V.int ((((a :: r).map V.str).length : Nat) : Int) = V.int 1 := of_decide_eq_true c
        have c := V.int.inj c
        rw [List.length_map, List.length_cons] at c
        have : r = [] := List.length_eq_zero_iff.mp (by omega)
        subst this
        exact ⟨_, rfl, q x3 _ t3 ob⟩
      · have c : ¬ V.int ((((a :: r).map V.str).length : Nat) : Int) = V.int 1 := of_decide_eq_false (Bool.eq_false_iff.mpr c)
        obtain ⟨y, r, rfl⟩ : ∃ y r', r = y :: r' := by
          cases r with
          | nil => exact absurd rfl c
          | cons y r => exact ⟨y, r, rfl⟩
        refine ⟨_, rfl, _, rfl, _, rfl, p, _, rfl, hp, fun p4 hp4 => ?_⟩
        have s4 := same_new hp4 (.lst (cutV ((a :: y :: r).map V.str) (some 1) none))
        have e4 : upd H3 p4 (.lst (cutV ((a :: y :: r).map V.str) (some 1) none)) p4 = some (.lst ((y :: r).map V.str)) := by
          rw [upd_same, List.map_cons, cut1]
        generalize upd H3 p4 (.lst (cutV ((a :: y :: r).map V.str) (some 1) none)) = H4 at s4 e4 ⊢
        refine ⟨p4, y :: r, rfl, SqL.of e4, by have : (y :: r).length + 1 < n + 1 := hn; omega, fun x hx => h8 x (List.mem_cons_of_mem _ hx), by have : (y :: r).length + 1 ≤ 8 := l8; omega, fun q5 H5 s5 o5 => ?_⟩
        have s45 := s4.trans s5
        refine fun x6 d6 hx6 hd6 n6 => ⟨x6, d6, _, _, rfl, upd_same, fun H6 h6 h7 => ⟨rfl, ?_⟩⟩
        have s6 : Same H5 H6 := by
          intro b' u e
          rw [h7 b' (ne_of_none e hx6)]
          exact same_made hx6 hd6 n6 _ _ b' u e
        exact q x6 H6 (t3.trans (s45.trans s6)) ⟨x6, d6, _, _, rfl, h6, (ob.same s45).same s6, o5.same s6⟩
/-! ### shown -/
def spNS (C : Addr) : Sp := fun vs H Q _ => ∃ (p dx : Addr) (x : Str), vs = [.ref p] ∧ H p = some (.ins C dx (namF (.str x))) ∧ Q (.str x) H
theorem scNamS : FnScope ["self"] ["self"] (defScope sNamS) := ⟨rfl, rfl, rfl, by decide +kernel, rfl, by decide +kernel, by decide +kernel⟩
theorem ok_namS {f : Addr} {fd : FuncData} (c : ClsA K CK) (F : Fun K "shown" "Named.shown" sNamS f fd) : FnOk P w K mg base CX0 1 f fd ["self"] (spNS (CK .nam)) := by
  refine F.ok scNamS (fun vs H Q E h => ?_) (fun cdv A outer s H vs Q E hr h => ?_)
  · obtain ⟨p, dx, x, rfl, _⟩ := h
    rfl
  obtain ⟨p, dx, x, rfl, hp, q⟩ := h
  exact ⟨_, (@pss_one _ _ _ (@ps_ret _ _ _ _ (@pe_fld _ _ _ _ _ (pv 0) rfl))), _, rfl, p, _, dx, _, _, rfl, hp, c.cl _, c.nam, nam_at _, q⟩
def spZS (C : Addr) : Sp := fun vs H Q _ => ∃ (p dx : Addr), vs = [.ref p] ∧ H p = some (.ins C dx (numF (.int 0))) ∧ Q (.str "0") H
theorem scNumS : FnScope ["self"] ["self"] (defScope sNumS) := ⟨rfl, rfl, rfl, by decide +kernel, rfl, by decide +kernel, by decide +kernel⟩
theorem ok_numS {f : Addr} {fd : FuncData} (B : Bl mg) (c : ClsA K CK) (F : Fun K "shown" "Number.shown" sNumS f fd) : FnOk P w K mg base CX0 1 f fd ["self"] (spZS (CK .num)) := by
  refine F.ok scNumS (fun vs H Q E h => ?_) (fun cdv A outer s H vs Q E hr h => ?_)
  · obtain ⟨p, dx, rfl, _⟩ := h
    rfl
  obtain ⟨p, dx, rfl, hp, q⟩ := h
  exact ⟨_, (@pss_one _ _ _ (@ps_ret _ _ _ _ (pe_callTy call_str_int (by rfl) B.str PyProof.Rows.boot_str (@pa_cons _ _ _ _ _ (@pe_fld _ _ _ _ _ (pv 0) rfl) pa_nil (by rfl))))), _, rfl, p, _, dx, _, _, rfl, hp, c.cl _, c.num, num_at _, 0, rfl, by decide, q⟩
def spCmpN (C : Addr) : Sp := fun vs H Q _ => ∃ (pa da pb db : Addr) (x y : Str), vs = [.ref pa, .str "=", .ref pb] ∧ H pa = some (.ins C da (namF (.str x))) ∧ H pb = some (.ins C db (namF (.str y))) ∧ x.length ≤ 1000 ∧ y.length ≤ 1000 ∧ ∀ H', Same H H' → Q (.str (x ++ " " ++ "=" ++ " " ++ y)) H'
theorem nam_s (v : V) : (namF v).lookup ("shown" : Str) = none := by unfold namF; rw [lookup_putF, if_neg (by decide +kernel)]; rfl
theorem two_s (a b : V) : (twoF a b).lookup ("shown" : Str) = none := by unfold twoF; rw [lookup_putF, if_neg (by decide +kernel), lookup_putF, if_neg (by decide +kernel)]; rfl
theorem scCmp : FnScope ["one", "sign", "other"] ["one", "sign", "other"] (defScope sCmp) := ⟨rfl, rfl, rfl, by decide +kernel, rfl, by decide +kernel, by decide +kernel⟩
theorem ok_cmp {f : Addr} {fd : FuncData} (F : Fun K "compared" "compared" sCmp f fd) (M : MOk P w K mg base 1 (CK .nam) "shown" (spNS (CK .nam))) : FnOk P w K mg base CX0 2 f fd ["one", "sign", "other"] (spCmpN (CK .nam)) := by
  refine F.ok scCmp (fun vs H Q E h => ?_) (fun cdv A outer s H vs Q E hr h => ?_)
  · obtain ⟨pa, da, pb, db, x, y, rfl, _⟩ := h
    rfl
  obtain ⟨pa, da, pb, db, x, y, rfl, ha, hb, lx, ly, q⟩ := h
  refine ⟨_, (@pss_one _ _ _ (@ps_ret _ _ _ _ (pe_bm (r := rJoin K) PySem.F.plainAttrs_str PySem.F.slot_str_join PySem.F.type_str_join mt_join pe_str (@pa_cons _ _ _ _ _ (@pe_lst _ _ _ _ (@pa_cons _ _ _ _ _ (pe_methP0 (pv 0) hr) (@pa_cons _ _ _ _ _ (pv 1) (@pa_cons _ _ _ _ _ (pe_methP0 (pv 2) hr) pa_nil (by rfl)) (by rfl)) (by rfl))) pa_nil (by rfl))))), ?_⟩
  refine ⟨rfl, _, rfl, pa, _, da, _, _, rfl, ha, nam_s _, M, pa, da, x, rfl, ha, ?_⟩
  refine ⟨_, rfl, _, rfl, pb, _, db, _, _, rfl, hb, nam_s _, M, pb, db, y, rfl, hb, ?_⟩
  refine ⟨by show 3 ≤ sizeLine; decide, fun z hz => ⟨_, z, [x, "=", y], rfl, rfl, SqL.of upd_same, ?_, ?_⟩⟩
  · have e1 : ("=" : Str).length = 1 := by decide +kernel
    have e3 : (" " : Str).length = 1 := by decide +kernel
    simp only [List.map_cons, List.map_nil, List.sum_cons, List.sum_nil, List.length_cons, List.length_nil, e1, e3]
    omega
  · rw [join3]
    exact q _ (same_new hz _)
def spYS (CK : Kd → Addr) (CY : Ks → Addr) (n : Nat) (k : Ks) : Sp := fun vs H Q _ => ∃ (v : V) (l : List Str), vs = [v] ∧ ks (ownY l) = k ∧ ObjS CK CY H (ownY l) v ∧ l.length ≤ n ∧ (∀ x ∈ l, x.length ≤ 8) ∧ l.length ≤ 8 ∧ ∀ H', Same H H' → Q (.str (ownT l)) H'
theorem t_eq : (" " : Str) ++ "=" ++ " " = " = " ∧ (" " : Str) ++ "and" ++ " " = " and " ∧ ("[ " : Str) ++ "@" = "[ @" := by decide +kernel
theorem own_one (x : Str) : "@" ++ x ++ " " ++ "=" ++ " " ++ x = "@" ++ x ++ " = " ++ x := by
  rw [← t_eq.1]
  simp only [str_assoc]
theorem own_two (x t : Str) : "[ " ++ ("@" ++ x ++ " = " ++ x) ++ " " ++ "and" ++ " " ++ t ++ " ]" = "[ @" ++ x ++ " = " ++ x ++ " and " ++ t ++ " ]" := by
  rw [← t_eq.2.1, ← t_eq.2.2]
  simp only [str_assoc]
theorem own_len : ∀ {l : List Str}, (∀ x ∈ l, x.length ≤ 8) → (ownT l).length ≤ 100 * l.length + 10
  | [], _ => by show ("yes" : Str).length ≤ _; decide
  | [x], h => by
    have := h x (by simp)
    have e1 : ("@" : Str).length = 1 := by decide +kernel
    have e2 : (" = " : Str).length = 3 := by decide +kernel
    show ("@" ++ x ++ " = " ++ x : Str).length ≤ 100 * 1 + 10
    simp only [str_len, e1, e2]
    omega
  | x :: y :: r, h => by
    have := h x (by simp)
    have ih := own_len (l := y :: r) (fun z hz => h z (List.mem_cons_of_mem _ hz))
    have e1 : ("[ @" : Str).length = 3 := by decide +kernel
    have e2 : (" = " : Str).length = 3 := by decide +kernel
    have e3 : (" and " : Str).length = 5 := by decide +kernel
    have e4 : (" ]" : Str).length = 2 := by decide +kernel
    show ("[ @" ++ x ++ " = " ++ x ++ " and " ++ ownT (y :: r) ++ " ]" : Str).length ≤ 100 * ((y :: r).length + 1) + 10
    simp only [str_len, e1, e2, e3, e4]
    omega
theorem scSayS : FnScope ["self"] ["self"] (defScope sSayS) := ⟨rfl, rfl, rfl, by decide +kernel, rfl, by decide +kernel, by decide +kernel⟩
theorem ok_sayS {f : Addr} {fd : FuncData} (F : Fun K "shown" "Saying.shown" sSayS f fd) (n : Nat) : FnOk P w K mg base CX0 1 f fd ["self"] (spYS CK CY n .yes) := by
  refine F.ok scSayS (fun vs H Q E h => ?_) (fun cdv A outer s H vs Q E hr h => ?_)
  · obtain ⟨v, l, rfl, _⟩ := h
    rfl
  obtain ⟨v, l, rfl, kt, ob, hn, h8, l8, q⟩ := h
  refine ⟨_, (@pss_one _ _ _ (@ps_ret _ _ _ _ pe_str)), ?_⟩
  match l, kt, q with
  | [], _, q => exact q _ (Same.refl _)
  | [_], kt, _ => cases kt
  | _ :: _ :: _, kt, _ => cases kt
theorem scEquS : FnScope ["self"] ["self"] (defScope sEquS) := ⟨rfl, rfl, rfl, by decide +kernel, rfl, by decide +kernel, by decide +kernel⟩
def spES (CK : Kd → Addr) (CY : Ks → Addr) : Sp := fun vs H Q _ => ∃ (v : V) (x : Str), vs = [v] ∧ ObjS CK CY H (.cmp .eq (.nam ("@" ++ x)) (.nam x)) v ∧ x.length ≤ 8 ∧ ∀ H', Same H H' → Q (.str ("@" ++ x ++ " = " ++ x)) H'
theorem ok_equS {f fB : Addr} {fd dB : FuncData} (c : ClsS K CY) (F : Fun K "shown" "Equal.shown" sEquS f fd) (FB : Fun K "compared" "compared" sCmp fB dB) (bB : Binds K dB ["one", "sign", "other"] []) (mB : mg "compared" = some (.ref fB)) (M : MOk P w K mg base 1 (CK .nam) "shown" (spNS (CK .nam))) : FnOk P w K mg base CX0 3 f fd ["self"] (spES CK CY) := by
  have GB := ok_cmp FB M
  refine F.ok scEquS (fun vs H Q E h => ?_) (fun cdv A outer s H vs Q E hr h => ?_)
  · obtain ⟨v, x, rfl, _⟩ := h
    rfl
  obtain ⟨v, x, rfl, ob, h8, q⟩ := h
  obtain ⟨p, dx, a, b, rfl, hp, ⟨pa, da, rfl, ha⟩, ⟨pb, db, rfl, hb⟩⟩ := ob
  have e1 : ("@" : Str).length = 1 := by decide +kernel
  refine ⟨_, (@pss_one _ _ _ (@ps_ret _ _ _ _ (pe_call GB hr (by rfl) mB FB.kp bB .nil pass0 (@pa_cons _ _ _ _ _ (@pe_fld _ _ _ _ _ (pv 0) rfl) (@pa_cons _ _ _ _ _ pe_str (@pa_cons _ _ _ _ _ (@pe_fld _ _ _ _ _ (pv 0) rfl) pa_nil (by rfl)) (by rfl)) (by rfl))))), ?_⟩
  refine ⟨_, rfl, p, _, dx, _, _, rfl, hp, c.cl _, c.c1 _, two_one _ _, _, rfl, p, _, dx, _, _, rfl, hp, c.cl _, c.c2 _, two_oth _ _, ?_⟩
  refine ⟨pa, da, pb, db, "@" ++ x, x, rfl, ha, hb, by rw [str_len, e1]; omega, by omega, fun H' s' => ?_⟩
  rw [own_one]
  exact q H' s'
theorem scBrs : FnScope ["one", "word", "other"] ["one", "word", "other"] (defScope sBrs) := ⟨rfl, rfl, rfl, by decide +kernel, rfl, by decide +kernel, by decide +kernel⟩
def spBrs (CK : Kd → Addr) (CY : Ks → Addr) (n : Nat) : Sp := fun vs H Q _ => ∃ (va vb : V) (x y : Str) (r : List Str), vs = [va, .str "and", vb] ∧ ObjS CK CY H (.cmp .eq (.nam ("@" ++ x)) (.nam x)) va ∧ ObjS CK CY H (ownY (y :: r)) vb ∧ (y :: r).length ≤ n ∧ (∀ z ∈ x :: y :: r, z.length ≤ 8) ∧ (y :: r).length ≤ 8 ∧ ∀ H', Same H H' → Q (.str (ownT (x :: y :: r))) H'
theorem two_at {H : Hp} {c : Cm} {a b : Tr} {v : V} (h : ObjS CK CY H (.cmp c a b) v) : ∃ p dx fs, v = .ref p ∧ H p = some (.ins (CY (.cmp c)) dx fs) ∧ fs.lookup ("shown" : Str) = none := by
  obtain ⟨p, dx, va, vb, rfl, hp, _⟩ := h
  exact ⟨p, dx, _, rfl, hp, two_s _ _⟩
theorem own_at {H : Hp} : ∀ {l : List Str} {v : V}, ObjS CK CY H (ownY l) v → ∃ p dx fs, v = .ref p ∧ H p = some (.ins (CY (ks (ownY l))) dx fs) ∧ fs.lookup ("shown" : Str) = none
  | [], v, h => by
    obtain ⟨p, dx, rfl, hp⟩ := h
    exact ⟨p, dx, _, rfl, hp, rfl⟩
  | [x], v, h => two_at h
  | x :: y :: r, v, h => by
    obtain ⟨p, dx, va, vb, rfl, hp, _⟩ := h
    exact ⟨p, dx, _, rfl, hp, two_s _ _⟩
theorem ok_brs {f : Addr} {fd : FuncData} (F : Fun K "bracketed" "bracketed" sBrs f fd) (n k : Nat) (ME : MOk P w K mg base k (CY (.cmp .eq)) "shown" (spES CK CY)) (W : ∀ (y : Str) (r : List Str), MOk P w K mg base k (CY (ks (ownY (y :: r)))) "shown" (spYS CK CY n (ks (ownY (y :: r))))) : FnOk P w K mg base CX0 (k + 1) f fd ["one", "word", "other"] (spBrs CK CY n) := by
  refine F.ok scBrs (fun vs H Q E h => ?_) (fun cdv A outer s H vs Q E hr h => ?_)
  · obtain ⟨va, vb, x, y, r, rfl, _⟩ := h
    rfl
  obtain ⟨va, vb, x, y, r, rfl, oa, ob, hn, h8, l8, q⟩ := h
  obtain ⟨pa, da, fa, rfl, ha, la⟩ := two_at oa
  obtain ⟨pb, db, fb, rfl, hb, lb⟩ := own_at ob
  have x8 := h8 x (by simp)
  have r8 : ∀ z ∈ y :: r, z.length ≤ 8 := fun z hz => h8 z (List.mem_cons_of_mem _ hz)
  have lo := own_len r8
  refine ⟨_, (@pss_one _ _ _ (@ps_ret _ _ _ _ (pe_bm (r := rJoin K) PySem.F.plainAttrs_str PySem.F.slot_str_join PySem.F.type_str_join mt_join pe_str (@pa_cons _ _ _ _ _ (@pe_lst _ _ _ _ (@pa_cons _ _ _ _ _ pe_str (@pa_cons _ _ _ _ _ (pe_methP0 (pv 0) hr) (@pa_cons _ _ _ _ _ (pv 1) (@pa_cons _ _ _ _ _ (pe_methP0 (pv 2) hr) (@pa_cons _ _ _ _ _ pe_str pa_nil (by rfl)) (by rfl)) (by rfl)) (by rfl)) (by rfl))) pa_nil (by rfl))))), ?_⟩
  refine ⟨rfl, _, rfl, pa, _, da, fa, _, rfl, ha, la, ME, .ref pa, x, rfl, oa, x8, fun H1 t1 => ?_⟩
  refine ⟨_, rfl, _, rfl, pb, _, db, fb, _, rfl, t1 _ _ hb, lb, W y r, .ref pb, y :: r, rfl, rfl, ob.same t1, hn, r8, l8, fun H2 t2 => ?_⟩
  refine ⟨by show 5 ≤ sizeLine; decide, fun z hz => ⟨_, z, ["[", "@" ++ x ++ " = " ++ x, "and", ownT (y :: r), "]"], rfl, rfl, SqL.of upd_same, ?_, ?_⟩⟩
  · have e1 : ("[" : Str).length = 1 := by decide +kernel
    have e2 : ("]" : Str).length = 1 := by decide +kernel
    have e3 : (" " : Str).length = 1 := by decide +kernel
    have e4 : ("and" : Str).length = 3 := by decide +kernel
    have e5 : ("@" : Str).length = 1 := by decide +kernel
    have e6 : (" = " : Str).length = 3 := by decide +kernel
    simp only [List.map_cons, List.map_nil, List.sum_cons, List.sum_nil, List.length_cons, List.length_nil, str_len, e1, e2, e3, e4, e5, e6]
    rw [List.length_cons] at lo l8
    omega
  · rw [join5s, own_two]
    exact q _ (t1.trans (t2.trans (same_new hz _)))
theorem scBotS : FnScope ["self"] ["self"] (defScope sBotS) := ⟨rfl, rfl, rfl, by decide +kernel, rfl, by decide +kernel, by decide +kernel⟩
theorem ok_botS {f fB : Addr} {fd dB : FuncData} (c : ClsS K CY) (F : Fun K "shown" "Both.shown" sBotS f fd) (FB : Fun K "bracketed" "bracketed" sBrs fB dB) (bB : Binds K dB ["one", "word", "other"] []) (mB : mg "bracketed_sayings" = some (.ref fB)) (n k : Nat) (GB : FnOk P w K mg base CX0 (k + 1) fB dB ["one", "word", "other"] (spBrs CK CY n)) : FnOk P w K mg base CX0 (k + 2) f fd ["self"] (spYS CK CY (n + 1) (.bin .and)) := by
  refine F.ok scBotS (fun vs H Q E h => ?_) (fun cdv A outer s H vs Q E hr h => ?_)
  · obtain ⟨v, l, rfl, _⟩ := h
    rfl
  obtain ⟨v, l, rfl, kt, ob, hn, h8, l8, q⟩ := h
  refine ⟨_, (@pss_one _ _ _ (@ps_ret _ _ _ _ (pe_call GB hr (by rfl) mB FB.kp bB .nil pass0 (@pa_cons _ _ _ _ _ (@pe_fld _ _ _ _ _ (pv 0) rfl) (@pa_cons _ _ _ _ _ pe_str (@pa_cons _ _ _ _ _ (@pe_fld _ _ _ _ _ (pv 0) rfl) pa_nil (by rfl)) (by rfl)) (by rfl))))), ?_⟩
  match l, kt, ob, hn, h8, l8, q with
  | [], kt, _, _, _, _, _ => cases kt
  | [_], kt, _, _, _, _, _ => cases kt
  | x :: y :: r, _, ob, hn, h8, l8, q =>
    obtain ⟨p, dx, va, vb, rfl, hp, oa, ob⟩ := ob
    refine ⟨_, rfl, p, _, dx, _, _, rfl, hp, c.cl _, c.b1 _, two_one _ _, _, rfl, p, _, dx, _, _, rfl, hp, c.cl _, c.b2 _, two_oth _ _, ?_⟩
    exact ⟨va, vb, x, y, r, rfl, oa, ob, by have : (y :: r).length + 1 ≤ n + 1 := hn; omega, h8, by have : (y :: r).length + 1 ≤ 8 := l8; omega, q⟩
end
end Nw

set_option Elab.async false
set_option linter.all false
set_option maxRecDepth 100000
set_option maxHeartbeats 4000000
namespace Nw
open PySem L2
/-! ### ties as objects -/
def tieF (s t f : V) : List (Str × V) := putF "falling" f (putF "table" t (putF "saying" s []))
theorem tie_s (s t f : V) : (tieF s t f).lookup ("saying" : Str) = some s := by unfold tieF; rw [lookup_putF, if_neg (by decide +kernel), lookup_putF, if_neg (by decide +kernel), lookup_putF, if_pos rfl]
theorem tie_t (s t f : V) : (tieF s t f).lookup ("table" : Str) = some t := by unfold tieF; rw [lookup_putF, if_neg (by decide +kernel), lookup_putF, if_pos rfl]
theorem tie_f (s t f : V) : (tieF s t f).lookup ("falling" : Str) = some f := by unfold tieF; rw [lookup_putF, if_pos rfl]
structure ClsT (K : PySem.W.Frag) (CT : Addr) : Prop where
  cl : Cls K CT
  n1 : NoAttr K CT "saying"
  n2 : NoAttr K CT "table"
  n3 : NoAttr K CT "falling"
def prD (d : De) : Dt := .tup [.str d.nm, .str d.nm]
theorem pr_is {K : PySem.W.Frag} {H : Hp} {d : De} {t : Addr} (h : SqT K H t [.str d.nm, .str d.nm]) : Is K H (prD d) (.ref t) := by
  rw [prD, Is]
  refine ⟨t, _, rfl, h, ?_⟩
  exact Iss.cons (by rw [Is]) (Iss.cons (by rw [Is]) Iss.nil)
theorem dep_prs : ∀ ds : List De, deps (ds.map prD) ≤ 1
  | [] => by simp [deps]
  | d :: ds => by
    have h := dep_prs ds
    simp only [List.map_cons, deps, prD, dep]
    omega
structure ObjT (K : PySem.W.Frag) (CK : Kd → Addr) (CY : Ks → Addr) (CT : Addr) (H : Hp) (ps : List Pl) (ds : List De) (q dq : Addr) (sv fv : V) (tt : Addr) (zs : List V) : Prop where
  at_ : H q = some (.ins CT dq (tieF sv (.ref tt) fv))
  say : ObjS CK CY H (ownY (ps.map (·.n))) sv
  fal : Obj CK H (.num 0) fv
  tab : H tt = some (.tup zs)
  its : Iss K H (ds.map prD) zs
theorem ObjT.same {K : PySem.W.Frag} {CK : Kd → Addr} {CY : Ks → Addr} {CT : Addr} {H H' : Hp} {ps : List Pl} {ds : List De} {q dq : Addr} {sv fv : V} {tt : Addr} {zs : List V} (s : Same H H') (h : ObjT K CK CY CT H ps ds q dq sv fv tt zs) : ObjT K CK CY CT H' ps ds q dq sv fv tt zs :=
  ⟨s _ _ h.at_, h.say.same s, h.fal.same s, s _ _ h.tab, h.its.same s⟩
/-! ### the values of two rooms -/
theorem nam_at64 {x y : Str} (hx : Nam x) : x ≠ "@" ++ y := by
  intro e
  obtain ⟨cs, ex, hne, _, hc⟩ := hx.signs
  have e0 : (x.cps.toList)[0]? = some 64 := by
    rw [e]
    show (("@" : Str).cps ++ y.cps).toList[0]? = some 64
    rw [Array.toList_append]
    rfl
  rw [ex] at e0
  cases cs with
  | nil => exact hne rfl
  | cons c cs =>
    have e0 : (cps (c :: cs)).cps.toList[0]? = some 64 := e0
    have : c = 64 := by simpa [cps] using e0
    have := hc c (by simp)
    omega
theorem at_inj {x y : Str} (h : ("@" : Str) ++ x = "@" ++ y) : x = y := by
  cases x; cases y
  have h := congrArg (fun s : Str => s.cps.toList) h
  have h : (("@" : Str).cps ++ _).toList = (("@" : Str).cps ++ _).toList := h
  rw [Array.toList_append, Array.toList_append] at h
  have := List.append_cancel_left h
  exact congrArg Str.mk (Array.toList_inj.mp this)
theorem putK_new {κ : Type} [DecidableEq κ] {kvs : List (κ × V)} {k : κ} {v : V} (h : valV kvs k = none) : putK kvs k v = kvs ++ [(k, v)] := by
  unfold putK
  have a : (kvs.any fun kv => decide (kv.1 = k)) = false := by
    rw [valV_any, h]; rfl
  rw [if_neg (by rw [a]; exact Bool.false_ne_true)]
theorem kvT_eq {zs : List (Pl × Int)} (hn : (zs.map (·.1.n)).Nodup) : ∀ i, i ≤ zs.length → kvT (zs.take i) = (zs.take i).map fun z => ((Sum.inr z.1.n : Key), V.int z.2)
  | 0, _ => rfl
  | i + 1, h => by
    have h' : i < zs.length := h
    have ih := kvT_eq hn i (Nat.le_of_lt h')
    have hv := (kvT_nd hn i (Nat.le_of_lt h')).2 i h'
    rw [if_neg (Nat.lt_irrefl i)] at hv
    rw [kvT_take h', putK_new hv, ih, List.take_add_one, List.getElem?_eq_getElem h', List.map_append]
    rfl
/-- the values of the near room, and of the first i places of the far one -/
def kv2 (zs : List (Pl × Int)) (kvs : List (Key × V)) : List (Key × V) := zs.foldl (fun k z => putK k (.inr ("@" ++ z.1.n)) (.int z.2)) kvs
theorem kv2_take {zs : List (Pl × Int)} {kvs : List (Key × V)} {i : Nat} (h : i < zs.length) : kv2 (zs.take (i + 1)) kvs = putK (kv2 (zs.take i) kvs) (.inr ("@" ++ zs[i].1.n)) (.int zs[i].2) := by
  unfold kv2
  rw [List.take_add_one, List.getElem?_eq_getElem h, List.foldl_append]
  rfl
theorem kv2_fil {l : List Str} {zs : List (Pl × Int)} {kvs : List (Key × V)} {n : Nat} (F : Fil l kvs n) (hb : ∀ z ∈ zs, z.2.natAbs < 1000) : ∀ i, i ≤ zs.length → Fil (l ++ (zs.take i).map fun z => (("@" : Str) ++ z.1.n)) (kv2 (zs.take i) kvs) (n + i)
  | 0, _ => by
    show Fil (l ++ []) kvs (n + 0)
    rw [List.append_nil]; exact F
  | i + 1, h => by
    have h' : i < zs.length := h
    have ih := kv2_fil F hb i (Nat.le_of_lt h')
    have hi := hb zs[i] (List.getElem_mem h')
    have := ih.put ("@" ++ zs[i].1.n) (i := zs[i].2) (Nat.lt_of_lt_of_le hi (by decide))
    rw [kv2_take h', List.take_add_one, List.getElem?_eq_getElem h', List.map_append, ← List.append_assoc]
    exact this
theorem kv2_old {zs : List (Pl × Int)} {kvs : List (Key × V)} {x : Str} (hx : Nam x) : ∀ i, i ≤ zs.length → valV (kv2 (zs.take i) kvs) (.inr x : Key) = valV kvs (.inr x)
  | 0, _ => rfl
  | i + 1, h => by
    have h' : i < zs.length := h
    rw [kv2_take h', valV_put, if_neg (fun z => nam_at64 hx (Sum.inr.inj z)), kv2_old hx i (Nat.le_of_lt h')]
theorem kv2_new {zs : List (Pl × Int)} {kvs : List (Key × V)} (hn : (zs.map (·.1.n)).Nodup) : ∀ i, i ≤ zs.length → ∀ j (hj : j < zs.length), j < i → valV (kv2 (zs.take i) kvs) (.inr ("@" ++ zs[j].1.n) : Key) = some (.int zs[j].2)
  | 0, _, j, hj, h => absurd h (Nat.not_lt_zero j)
  | i + 1, h, j, hj, hji => by
    have h' : i < zs.length := h
    rw [kv2_take h', valV_put]
    by_cases e : j = i
    · subst e
      rw [if_pos rfl]
    · have ne : ¬ (Sum.inr ("@" ++ zs[j].1.n) : Key) = .inr ("@" ++ zs[i].1.n) := by
        intro z
        have z : zs[j].1.n = zs[i].1.n := at_inj (Sum.inr.inj z)
        have lz : (zs.map (·.1.n)).length = zs.length := List.length_map ..
        have := List.pairwise_iff_getElem.mp hn j i (by omega) (by omega) (by omega)
        simp only [List.getElem_map] at this
        exact this z
      rw [if_neg ne]
      exact kv2_new hn i (Nat.le_of_lt h') j hj (by omega)
theorem hol_own (vf : Str → Int) : ∀ l : List Str, hol vf (ownY l) = l.all fun x => decide (vf ("@" ++ x) = vf x)
  | [] => rfl
  | [x] => by
    show decide (vf ("@" ++ x) = vf x) = (decide (vf ("@" ++ x) = vf x) && true)
    rw [Bool.and_true]
  | x :: y :: r => by
    show (decide (vf ("@" ++ x) = vf x) && hol vf (ownY (y :: r))) = _
    rw [hol_own vf (y :: r)]
    rfl
theorem own_fits {l : List Str} : ∀ (r : List Str), (∀ x ∈ r, x ∈ l ∧ "@" ++ x ∈ l) → FitsS l (ownY r) ∧ dps (ownY r) ≤ r.length
  | [], _ => ⟨trivial, Nat.le_refl _⟩
  | [x], h => ⟨⟨(h x (by simp)).2, (h x (by simp)).1, by show 1 ≤ 9; decide, by show 1 ≤ 9; decide⟩, Nat.zero_le _⟩
  | x :: y :: r, h => by
    have ih := own_fits (y :: r) fun z hz => h z (List.mem_cons_of_mem _ hz)
    refine ⟨⟨⟨(h x (by simp)).2, (h x (by simp)).1, by show 1 ≤ 9; decide, by show 1 ≤ 9; decide⟩, ih.1⟩, ?_⟩
    have i2 := ih.2
    show max 0 (dps (ownY (y :: r))) + 1 ≤ (y :: r).length + 1
    omega
section
variable {ps : List Pl} {r1 r2 : List Int}
theorem two_rooms (O1 : RmOk ps r1) (O2 : RmOk ps r2) (hn : (ps.map (·.n)).Nodup) (hp : ∀ p ∈ ps, Nam p.n) :
    ∃ (l : List Str) (vf : Str → Int), ValsOk (kv2 (ps.zip r1) (kvT (ps.zip r2))) l vf ∧ FitsS l (ownY (ps.map (·.n))) ∧ dps (ownY (ps.map (·.n))) < 5 ∧ hol vf (ownY (ps.map (·.n))) = decide (r1 = r2) := by
  have F := fil_all O2.zs
  have G := kv2_fil F O1.zs (ps.zip r1).length (Nat.le_refl _)
  rw [List.take_of_length_le (Nat.le_refl _)] at G
  have z1 := O1.zlen
  have z2 := O2.zlen
  have l1 := O1.len
  have l2 := O2.len
  have few := O1.few
  have m1 : ((ps.zip r1).map fun z => (("@" : Str) ++ z.1.n)) = (ps.map (·.n)).map fun x => ("@" : Str) ++ x := by
    rw [← O1.names, List.map_map]; rfl
  rw [O2.names, m1] at G
  have fo := own_fits (l := ps.map (·.n) ++ (ps.map (·.n)).map fun x => ("@" : Str) ++ x) (ps.map (·.n)) fun x hx => ⟨List.mem_append_left _ hx, List.mem_append_right _ (List.mem_map_of_mem hx)⟩
  refine ⟨_, _, G.ok, fo.1, by have := fo.2; rw [List.length_map] at this; omega, ?_⟩
  rw [hol_own]
  have v2 : ∀ j (hj : j < ps.length), vfOf (kv2 (ps.zip r1) (kvT (ps.zip r2))) ps[j].n = r2[j]'(by omega) := fun j hj => by
    have e := kv2_old (zs := ps.zip r1) (kvs := kvT (ps.zip r2)) (hp ps[j] (List.getElem_mem hj)) (ps.zip r1).length (Nat.le_refl _)
    rw [List.take_of_length_le (Nat.le_refl _)] at e
    have n2 : ((ps.zip r2).map (·.1.n)).Nodup := by rw [O2.names]; exact hn
    have e2 := (kvT_nd n2 (ps.zip r2).length (Nat.le_refl _)).2 j (by omega)
    rw [List.take_of_length_le (Nat.le_refl _), if_pos (by omega), List.getElem_zip] at e2
    rw [e2] at e
    unfold vfOf
    rw [e]
  have v1 : ∀ j (hj : j < ps.length), vfOf (kv2 (ps.zip r1) (kvT (ps.zip r2))) ("@" ++ ps[j].n) = r1[j]'(by omega) := fun j hj => by
    have n1 : ((ps.zip r1).map (·.1.n)).Nodup := by rw [O1.names]; exact hn
    have e := kv2_new (zs := ps.zip r1) (kvs := kvT (ps.zip r2)) n1 (ps.zip r1).length (Nat.le_refl _) j (by omega) (by omega)
    rw [List.take_of_length_le (Nat.le_refl _)] at e
    rw [List.getElem_zip] at e
    unfold vfOf
    rw [e]
  by_cases h : r1 = r2
  · rw [decide_eq_true h, List.all_eq_true]
    intro x hx
    obtain ⟨j, hj, rfl⟩ := List.mem_iff_getElem.mp hx
    have hj : j < ps.length := by rw [List.length_map] at hj; exact hj
    rw [List.getElem_map, v1 j hj, v2 j hj]
    subst h
    exact decide_eq_true rfl
  · rw [decide_eq_false h, ← Bool.not_eq_true, List.all_eq_true]
    intro hall
    apply h
    apply List.ext_getElem (by omega)
    intro j h1 h2
    have hj : j < ps.length := by omega
    have := of_decide_eq_true (hall (ps[j].n) (List.mem_map_of_mem (List.getElem_mem hj)))
    rw [v1 j hj, v2 j hj] at this
    exact this
end
section
variable {P : Program} {w : World} {K : PySem.W.Frag} {mg : Str → Option Value} {base : Heap} {CK : Kd → Addr} {CC : Kc → Addr} {CY : Ks → Addr} {CD CM CT : Addr}
def spTieI (C : Addr) : Sp := fun vs H Q _ => ∃ (x dx : Addr) (n o u : V), vs = [.ref x, n, o, u] ∧ H x = some (.ins C dx []) ∧ ∀ H', H' x = some (.ins C dx (tieF n o u)) → (∀ b, b ≠ x → H' b = H b) → Q .non H'
theorem scTieI : FnScope ["self", "saying", "table", "falling"] ["self", "saying", "table", "falling"] (defScope sTieI) := ⟨rfl, rfl, rfl, by decide +kernel, rfl, by decide +kernel, by decide +kernel⟩
theorem ok_tieI {f : Addr} {fd : FuncData} (c : ClsT K CT) (F : Fun K "__init__" "Tie.__init__" sTieI f fd) : FnOk P w K mg base CX0 1 f fd ["self", "saying", "table", "falling"] (spTieI CT) := by
  refine F.ok scTieI (fun vs H Q E h => ?_) (fun cdv A outer s H vs Q E hr h => ?_)
  · obtain ⟨x, dx, n, o, u, rfl, _⟩ := h
    rfl
  obtain ⟨x, dx, n, o, u, rfl, hx, q⟩ := h
  refine ⟨_, (@pss_cons _ _ _ _ _ (@ps_fld _ _ _ _ _ _ _ _ (pv 0) (pv 1) rfl) (@pss_cons _ _ _ _ _ (@ps_fld _ _ _ _ _ _ _ _ (pv 0) (pv 2) rfl) (@pss_one _ _ _ (@ps_fld _ _ _ _ _ _ _ _ (pv 0) (pv 3) rfl)))), ?_⟩
  refine ⟨_, rfl, _, rfl, x, _, dx, _, rfl, hx, c.cl, c.n1, (by show 0 < 1000; decide), ?_⟩
  refine ⟨_, rfl, _, rfl, x, _, dx, _, rfl, upd_same, c.cl, c.n2, Nat.lt_of_le_of_lt (length_putF _ _ _) (by show 1 < 1000; decide), ?_⟩
  refine ⟨_, rfl, _, rfl, x, _, dx, _, rfl, upd_same, c.cl, c.n3, Nat.lt_of_le_of_lt (length_putF _ _ _) (Nat.lt_of_le_of_lt (Nat.succ_le_succ (length_putF _ _ _)) (by show 2 < 1000; decide)), ?_⟩
  exact q _ upd_same fun b hb => by rw [upd_ne hb, upd_ne hb, upd_ne hb]
/-! ### the own tie -/
def spOwnTie (K : PySem.W.Frag) (CK : Kd → Addr) (CC : Kc → Addr) (CY : Ks → Addr) (CD CM CT : Addr) : Sp := fun vs H Q _ => ∃ (m dx tp td : Addr) (vk : V) (ys us : List V) (ps : List Pl) (ds : List De), vs = [.ref m] ∧ ObjM K CK CC CY CD CM H ps ds m dx tp td vk ys us ∧ ps.length ≤ 4 ∧ ds.length ≤ 8 ∧ (∀ p ∈ ps, p.n.length ≤ 8) ∧
  ∀ (q dq : Addr) (sv fv : V) (tt : Addr) (zs : List V) (H' : Hp), Same H H' → ObjT K CK CY CT H' ps ds q dq sv fv tt zs → Q (.ref q) H'
theorem scOwnTie : FnScope ["machine", "names", "table"] ["machine"] (defScope sOwnTie) := ⟨rfl, rfl, rfl, by decide +kernel, rfl, by decide +kernel, by decide +kernel⟩
theorem nd_scOwnTie1 : (["machine", "names", "table", "place"] : List Str).Nodup := by decide +kernel
theorem nd_scOwnTie2 : (["machine", "names", "table", "deed"] : List Str).Nodup := by decide +kernel
theorem ok_ownTie {f fN fM fT fP fO fS fI : Addr} {fd dN dM dT dP dO dS dI : FuncData} (B : Bl mg) (T : Maker K mg CK fN fM fT dN dM dT) (S : MakerS K mg CY fP fO dP dO) (cm : ClsM K CM) (cd : ClsD K CD) (ct : ClsT K CT) (F : Fun K "own_tie" "own_tie" sOwnTie f fd)
    (FS : Fun K "own_saying" "own_saying" sOwnSay fS dS) (bS : Binds K dS ["names"] []) (mS : mg "own_saying" = some (.ref fS)) (FI : Fun K "__init__" "Tie.__init__" sTieI fI dI) (bI : Binds K dI ["self", "saying", "table", "falling"] []) (mkI : Mk K CT fI) (gT : mg "Tie" = some (.ref CT)) : FnOk P w K mg base CX0 9 f fd ["machine"] (spOwnTie K CK CC CY CD CM CT) := by
  have GS : FnOk P w K mg base CX0 8 fS dS ["names"] (spOwnSay K CK CY 5) := ok_ownSay B T S FS bS mS 5
  have GI : FnOk P w K mg base CX0 1 fI dI ["self", "saying", "table", "falling"] (spTieI CT) := ok_tieI ct FI
  have GN : FnOk P w K mg base CX0 1 fN dN ["self", "number"] (spNumI (CK .num)) := ok_numI T.cls T.FN
  refine F.ok scOwnTie (fun vs H Q E h => ?_) (fun cdv A outer s H vs Q E hr h => ?_)
  · obtain ⟨m, dx, tp, td, vk, ys, us, ps, ds, rfl, _⟩ := h
    rfl
  obtain ⟨m, dx, tp, td, vk, ys, us, ps, ds, rfl, M, l4, l8, h8, q⟩ := h
  have ly : ys.length = ps.length := by rw [M.ip.length, List.length_map]
  have lu : us.length = ds.length := M.al.len.symm
  have hr2 := hr.mono (show 1 + 1 ≤ 8 by decide)
  refine ⟨_, (@pss_cons _ _ _ _ _ (ps_comp (NX := ["machine", "names", "table"]) (N := ["machine", "names", "table", "place"]) (ms := [true, true, true, false]) (ks := [3]) (out := defScope sOwnTie) (by exact ⟨rfl, by decide +kernel, by decide +kernel, by decide +kernel, by decide +kernel, by decide +kernel⟩) rfl rfl rfl (i := 1) scOwnTie.nd rfl (Or.inl rfl) (@pi_tup _ _ _ _ (@pe_fld _ _ _ _ _ (pv 0) rfl)) (@sets_name 3) (by decide) (fun C ex s H => (pg_name (i := 3) nd_scOwnTie1 rfl (Or.inl rfl))) (fun C ex s H => pts_nil) (fun C ex s H => (@pe_ix _ _ _ _ _ _ (rIxT K) ix_tup (pv 3) pe_int (fun _ _ => rfl))) (by with_unfolding_all rfl)) (@pss_cons _ _ _ _ _ (ps_comp (NX := ["machine", "names", "table"]) (N := ["machine", "names", "table", "deed"]) (ms := [true, true, true, false]) (ks := [3]) (out := defScope sOwnTie) (by exact ⟨rfl, by decide +kernel, by decide +kernel, by decide +kernel, by decide +kernel, by decide +kernel⟩) rfl rfl rfl (i := 2) scOwnTie.nd rfl (Or.inl rfl) (@pi_tup _ _ _ _ (@pe_fld _ _ _ _ _ (pv 0) rfl)) (@sets_name 3) (by decide) (fun C ex s H => (pg_name (i := 3) nd_scOwnTie2 rfl (Or.inl rfl))) (fun C ex s H => pts_nil) (fun C ex s H => (@pe_tup _ _ _ _ _ (@pa_cons _ _ _ _ _ (pe_fldK (K := K) rfl (pv 3) rfl) (@pa_cons _ _ _ _ _ (pe_fldK (K := K) rfl (pv 3) rfl) pa_nil (by rfl)) (by rfl)))) (by with_unfolding_all rfl)) (@pss_one _ _ _ (@ps_ret _ _ _ _ (pe_make mkI GI hr2 rfl gT bI .nil pass0 (@pa_cons _ _ _ _ _ (pe_call GS hr (by rfl) mS FS.kp bS .nil pass0 (@pa_cons _ _ _ _ _ (pv 1) pa_nil (by rfl))) (@pa_cons _ _ _ _ _ (pe_callTy call_tuple_of (by rfl) B.tuple PyProof.Rows.boot_tuple (@pa_cons _ _ _ _ _ (pv 2) pa_nil (by rfl))) (@pa_cons _ _ _ _ _ (pe_make T.mkN GN hr2 rfl T.gN T.bN .nil pass0 (@pa_cons _ _ _ _ _ pe_int pa_nil (by rfl))) pa_nil (by rfl)) (by rfl)) (by rfl))))))), ?_⟩
  refine ⟨_, rfl, m, _, dx, _, _, rfl, M.at_, cm.cl, cm.n1, mac_p _ _ _, tp, rfl, ⟨_, M.hp⟩, comp_tup (xs := ys) (fun i ws H' => ws = ((ps.map (·.n)).take i).map V.str ∧ H' = H) ⟨rfl, rfl⟩ (fun i ws H' _ ⟨_, e'⟩ => by rw [e']; exact M.hp) (fun i ws H' _ ⟨e', _⟩ => by rw [e', List.length_map]; exact small1000 (by rw [List.length_take, List.length_map]; omega)) ?_ ?_⟩
  · rintro i y ws H' hy ⟨rfl, rfl⟩
    have hi : i < ps.length := by rw [← ly]; exact (List.getElem?_eq_some_iff.mp hy).1
    obtain ⟨v, ev, iv⟩ := iss_at M.ip hi
    rw [hy] at ev
    cases ev
    obtain ⟨r, rfl, hr'⟩ := is_pl iv
    refine ⟨_, rfl, r, _, _, _, rfl, rfl, hr', atI_nat (j := 0) rfl, ?_, rfl⟩
    rw [List.take_add_one, List.getElem?_map, List.getElem?_eq_getElem hi, List.map_append]
    rfl
  rintro ws H1 ⟨rfl, rfl⟩ D hD
  rw [List.take_of_length_le (by rw [List.length_map]; omega)]
  have s1 := same_new hD (.lst ((ps.map (·.n)).map V.str))
  have e1 : upd H1 D (.lst ((ps.map (·.n)).map V.str)) D = some (.lst ((ps.map (·.n)).map V.str)) := upd_same
  generalize upd H1 D (.lst ((ps.map (·.n)).map V.str)) = H2 at s1 e1 ⊢
  have M2 := M.same s1
  refine ⟨_, rfl, m, _, dx, _, _, rfl, M2.at_, cm.cl, cm.n3, mac_d _ _ _, td, rfl, ⟨_, SqT.of M2.hd⟩, comp_tup (xs := us) (fun i ws H' => Same H2 H' ∧ Iss K H' ((ds.take i).map prD) ws) ⟨Same.refl _, .nil⟩ (fun i ws H' _ ⟨e', _⟩ => SqT.of (e' _ _ M2.hd)) (fun i ws H' _ ⟨_, e'⟩ => by rw [e'.length, List.length_map]; exact small1000 (by rw [List.length_take]; omega)) ?_ ?_⟩
  · rintro i u ws H' hu ⟨g1, g2⟩
    have hi : i < ds.length := by rw [← lu]; exact (List.getElem?_eq_some_iff.mp hu).1
    obtain ⟨p, dp, vw, tc, us', rfl, hp, _⟩ := (M2.al.at_ i ds[i] u (List.getElem?_eq_getElem hi) hu).same g1
    refine ⟨_, rfl, p, _, dp, _, _, rfl, hp, cd.cl, cd.n1, dee_n _ _ _, _, rfl, p, _, dp, _, _, rfl, hp, cd.cl, cd.n1, dee_n _ _ _, by show 2 ≤ sizeLine; decide, fun t ht => ?_⟩
    have s' := same_new ht (.tup [V.str ds[i].nm, .str ds[i].nm])
    refine ⟨g1.trans s', ?_⟩
    rw [List.take_add_one, List.getElem?_eq_getElem hi, List.map_append]
    exact Iss.snoc (pr_is (SqT.of upd_same)) (g2.same s')
  rintro ws H3 ⟨g1, g2⟩ D2 hD2
  rw [lu, List.take_of_length_le (Nat.le_refl _)] at g2
  have s3 := same_new hD2 (.lst ws)
  have e3 : upd H3 D2 (.lst ws) D2 = some (.lst ws) := upd_same
  have i3 := g2.same s3
  have e3' := s3 _ _ (g1 _ _ e1)
  generalize upd H3 D2 (.lst ws) = H4 at s3 e3 i3 e3' ⊢
  have t4 := s1.trans (g1.trans s3)
  refine ⟨_, rfl, D, ps.map (·.n), rfl, SqL.of e3', by rw [List.length_map]; omega, fun x hx => ?_, by rw [List.length_map]; omega, fun qs H5 s5 o5 => ?_⟩
  · obtain ⟨p, hp, rfl⟩ := List.mem_map.mp hx
    exact h8 p hp
  refine ⟨_, rfl, D2, _, rfl, .inl ⟨SqL.of (s5 _ _ e3), fun tt htt => ?_⟩⟩
  have s6 := same_new htt (.tup ws)
  have e6 : upd H5 tt (.tup ws) tt = some (.tup ws) := upd_same
  generalize upd H5 tt (.tup ws) = H6 at s6 e6 ⊢
  refine fun x1 d1 hx1 hd1 n1 => ⟨x1, d1, _, rfl, upd_same, rfl, ?_⟩
  have s7 := same_two (o := .own x1) (o' := .ins (CK .num) d1 []) (u := .ins (CK .num) d1 (numF (.int 0))) hx1 hd1 n1
  have e7 : upd (upd (upd H6 d1 (.own x1)) x1 (.ins (CK .num) d1 [])) x1 (.ins (CK .num) d1 (numF (.int 0))) x1 = some (.ins (CK .num) d1 (numF (.int 0))) := upd_same
  generalize upd (upd (upd H6 d1 (.own x1)) x1 (.ins (CK .num) d1 [])) x1 (.ins (CK .num) d1 (numF (.int 0))) = H7 at s7 e7 ⊢
  refine fun x2 d2 hx2 hd2 n2 => ⟨x2, d2, _, _, _, rfl, upd_same, fun H8 h3 h4 => ⟨rfl, ?_⟩⟩
  have s8 : Same H7 H8 := by
    intro b' u e
    rw [h4 b' (ne_of_none e hx2)]
    exact same_made hx2 hd2 n2 _ _ b' u e
  have t58 := s6.trans (s7.trans s8)
  exact q x2 d2 _ _ tt ws H8 (t4.trans (s5.trans t58)) ⟨h3, o5.same t58, ⟨x1, d1, rfl, s8 _ _ e7⟩, s8 _ _ (s7 _ _ e6), (i3.same s5).same t58⟩
/-! ### tied -/
def spTied (K : PySem.W.Frag) (CK : Kd → Addr) (CC : Kc → Addr) (CY : Ks → Addr) (CD CM CT : Addr) : Sp := fun vs H Q _ => ∃ (m dx tp td : Addr) (vk : V) (ys us : List V) (ps : List Pl) (ds : List De) (q dq : Addr) (sv fv : V) (tt : Addr) (zs : List V) (t1 t2 : Addr) (r1 r2 : List Int), vs = [.ref m, .ref m, .ref q, .ref t1, .ref t2] ∧ ObjM K CK CC CY CD CM H ps ds m dx tp td vk ys us ∧ ObjT K CK CY CT H ps ds q dq sv fv tt zs ∧ SqT K H t1 (r1.map V.int) ∧ SqT K H t2 (r2.map V.int) ∧ RmOk ps r1 ∧ RmOk ps r2 ∧ (ps.map (·.n)).Nodup ∧ (∀ p ∈ ps, Nam p.n) ∧
  ∀ H', Same H H' → Q (.bl (decide (r1 = r2))) H'
theorem scTied : FnScope ["far", "near", "tie", "far_room", "room", "values", "name", "value"] ["far", "near", "tie", "far_room", "room"] (defScope sTied) := ⟨rfl, rfl, rfl, by decide +kernel, rfl, by decide +kernel, by decide +kernel⟩
theorem nam8 {x : Str} (h : Nam x) : x.length ≤ 8 := by
  obtain ⟨cs, e, _, h8, _⟩ := h.signs
  rw [e, cps_length]; exact h8
theorem ok_tied {f : Addr} {fd : FuncData} (ct : ClsT K CT) (F : Fun K "tied" "tied" sTied f fd) (MV : MOk P w K mg base 16 CM "values_in" (spValuesIn K CK CC CY CD CM)) (MH : ∀ k, MOk P w K mg base 16 (CY k) "holds" (spH CK CY 5 k)) : FnOk P w K mg base CX0 17 f fd ["far", "near", "tie", "far_room", "room"] (spTied K CK CC CY CD CM CT) := by
  refine F.ok scTied (fun vs H Q E h => ?_) (fun cdv A outer s H vs Q E hr h => ?_)
  · obtain ⟨m, dx, tp, td, vk, ys, us, ps, ds, q, dq, sv, fv, tt, zs, t1, t2, r1, r2, rfl, _⟩ := h
    rfl
  obtain ⟨m, dx, tp, td, vk, ys, us, ps, ds, q, dq, sv, fv, tt, zs, t1, t2, r1, r2, rfl, M, T, hr1, hr2, O1, O2, nd, nam, k⟩ := h
  have hu1 := hu1_of hr
  have mv : (macF (.ref tp) vk (.ref td)).lookup ("values_in" : Str) = none := mac_no _ _ _ (by decide +kernel) (by decide +kernel) (by decide +kernel)
  have z1 := O1.zlen
  have few := O1.few
  refine ⟨_, (@pss_cons _ _ _ _ _ (@ps_set _ _ 5 _ _ _ _ scTied.nd rfl (Or.inl rfl) (pe_methP (pv 1) hr (@pa_cons _ _ _ _ _ (pv 4) pa_nil (by rfl))) rfl (Or.inl rfl)) (@pss_cons _ _ _ _ _ (@ps_for _ _ _ _ _ _ _ _ PassesOwn.never rfl (pi_items (pe_methP (pv 0) hr (@pa_cons _ _ _ _ _ (pv 3) pa_nil (by rfl)))) (pg_tup (n := 2) rfl (pgs_cons (pg_name (i := 6) scTied.nd rfl (Or.inl rfl)) (pgs_cons (pg_name (i := 7) scTied.nd rfl (Or.inl rfl)) pgs_nil))) (@pss_one _ _ _ (@ps_dput _ _ _ _ _ _ _ _ _ hu1 (pv 5) (pe_fstr (pv 6)) (pv 7) rfl)) (by intro _; rfl)) (@pss_one _ _ _ (@ps_ret _ _ _ _ (pe_methP (@pe_fld _ _ _ _ _ (pv 2) rfl) hr (@pa_cons _ _ _ _ _ (pv 5) pa_nil (by rfl))))))), ?_⟩
  refine ⟨_, rfl, m, _, dx, _, _, rfl, M.at_, mv, MV, _, rfl, m, dx, tp, td, t2, vk, ys, us, ps, ds, r2, rfl, M, hr2, O2, fun dv H1 s1 f1 e1 => ?_⟩
  have M1 := M.same s1
  refine ⟨_, rfl, m, _, dx, _, _, rfl, M1.at_, mv, MV, _, rfl, m, dx, tp, td, t1, vk, ys, us, ps, ds, r1, rfl, M1, s1.tup hr1, O1, fun d2 H2 s2 f2 e2 => ?_⟩
  have n1 : ((ps.zip r1).map (·.1.n)).Nodup := by rw [O1.names]; exact nd
  have ek := kvT_eq n1 (ps.zip r1).length (Nat.le_refl _)
  rw [List.take_of_length_le (Nat.le_refl _)] at ek
  have n12 : d2 ≠ dv := fun z => by rw [z, e1] at f2; cases f2
  have t2' := s1.trans s2
  refine ⟨d2, _, rfl, e2, fun o => ?_⟩
  have g0 : Same H (upd H2 d2 (.frz o (.dK (kvT (ps.zip r1))))) := same_put t2' (s1.free f2) _
  have g1 : upd H2 d2 (.frz o (.dK (kvT (ps.zip r1)))) dv = some (.dK (kvT (ps.zip r2))) := by rw [upd_ne (Ne.symm n12)]; exact s2 _ _ e1
  have g2 : upd H2 d2 (.frz o (.dK (kvT (ps.zip r1)))) d2 = some (.frz o (.dK (kvT (ps.zip r1)))) := upd_same
  generalize upd H2 d2 (.frz o (.dK (kvT (ps.zip r1)))) = H3 at g0 g1 g2 ⊢
  have lk : (kvT (ps.zip r1)).length = (ps.zip r1).length := by rw [ek, List.length_map]
  refine for_items (kvs := kvT (ps.zip r1)) (fun i σ H4 => ∃ v6 v7 : Option V, σ = [some (.ref m), some (.ref m), some (.ref q), some (.ref t1), some (.ref t2), some (.ref dv), v6, v7] ∧ Same H H4 ∧ H4 d2 = some (.frz o (.dK (kvT (ps.zip r1)))) ∧ H4 dv = some (.dK (kv2 ((ps.zip r1).take i) (kvT (ps.zip r2))))) ⟨none, none, rfl, g0, g2, g1⟩ (fun i σ H4 _ ⟨_, _, _, _, e, _⟩ => e) ?_ ?_
  · rintro i key y σ H4 t hx ⟨v6, v7, rfl, a1, a2, a3⟩ ht
    have hi : i < (ps.zip r1).length := by rw [← lk]; exact (List.getElem?_eq_some_iff.mp hx).1
    rw [ek, List.getElem?_map, List.getElem?_eq_getElem hi] at hx
    cases hx
    have b1 := same_new ht (.tup [kV (Sum.inr (ps.zip r1)[i].1.n), V.int (ps.zip r1)[i].2])
    have hmem : (ps.zip r1)[i].1 ∈ ps := (List.of_mem_zip (List.getElem_mem hi)).1
    have hlen := nam8 (nam _ hmem)
    refine ⟨_, _, rfl, SqT.of upd_same, rfl, _, _, rfl, _, _, rfl, rfl, ?_⟩
    have FF := kv2_fil (fil_all O2.zs) O1.zs i (Nat.le_of_lt hi)
    have z2 := O2.zlen
    refine ⟨_, rfl, _, rfl, _, rfl, _, rfl, by omega, dv, _, rfl, DPut.k (k := .inr ("@" ++ (ps.zip r1)[i].1.n)) (b1 _ _ a3) (small1000 (by have := FF.len; omega)), ?_⟩
    refine ⟨_, _, rfl, same_put (a1.trans b1) f1 _, ?_, ?_⟩
    · rw [upd_ne n12]; exact b1 _ _ a2
    · rw [upd_same, kv2_take hi]
  · rintro σ H4 ⟨v6, v7, rfl, a1, a2, a3⟩
    rw [lk, List.take_of_length_le (Nat.le_refl _)] at a3
    obtain ⟨l, vf, V1, V2, V3, V4⟩ := two_rooms O1 O2 nd nam
    have T4 := T.same a1
    obtain ⟨pp, dxx, fss, rfl, hs, lh⟩ := T4.say.at_
    refine ⟨_, rfl, q, _, dq, _, _, rfl, T4.at_, ct.cl, ct.n1, tie_s _ _ _, pp, _, dxx, fss, _, rfl, hs, lh, MH _, _, rfl, _, dv, _, _, l, vf, rfl, rfl, T4.say, a3, V1, V2, V3, ?_⟩
    rw [V4]
    exact k _ a1
end
end Nw

set_option Elab.async false
set_option linter.all false
set_option maxRecDepth 100000
set_option maxHeartbeats 4000000
namespace Nw
open PySem L2
theorem small9 {n : Nat} (h : n ≤ 9000) : n ≤ sizeLine := by rw [sizeLine_eq]; omega
theorem dEq_ints : ∀ a b : List Int, dEqs (a.map Dt.int) (b.map Dt.int) = decide (a = b)
  | [], [] => rfl
  | [], _ :: _ => rfl
  | _ :: _, [] => rfl
  | x :: a, y :: b => by
    show ((x == y) && dEqs (a.map Dt.int) (b.map Dt.int)) = _
    rw [dEq_ints a b]
    by_cases h1 : x = y
    · subst h1
      by_cases h2 : a = b
      · subst h2; simp
      · simp [h2]
    · simp [h1]
theorem dEq_rm (a b : List Int) : dEq (rmD a) (rmD b) = decide (a = b) := dEq_ints a b
theorem dep_rm (r : List Int) : dep (rmD r) ≤ 50 := by rw [rmD, dep, deps_ints]; decide
theorem last_at (l : List Str) (z : Str) : atI ((l ++ [z]).map V.str) (-1) = some (.str z) := by
  unfold atI
  have e : ixN ((l ++ [z]).map V.str).length (-1) = some l.length := by
    rw [List.length_map, List.length_append, List.length_singleton]
    unfold ixN
    rw [if_neg (by decide), if_pos (by omega)]
    congr 1
    omega
  rw [e]
  show ((l ++ [z]).map V.str)[l.length]? = _
  rw [List.getElem?_map, List.getElem?_append_right (Nat.le_refl _), Nat.sub_self]
  rfl
theorem cut_last (xs : List V) (z : V) : cutV (xs ++ [z]) none (some (-1)) = xs := by
  unfold cutV
  have e : HT.sIx (xs ++ [z]).length (xs ++ [z]).length (some (-1)) = xs.length := by
    show (if (-1 : Int) < 0 then ((-1 : Int) + (((xs ++ [z]).length : Nat) : Int)).toNat else min (-1 : Int).toNat (xs ++ [z]).length) = _
    rw [if_pos (by decide), List.length_append, List.length_singleton]
    omega
  rw [e, HT.sIx_none, List.drop_zero, Nat.sub_zero, List.take_left]
theorem cut_to (xs : List V) (j : Nat) (h : j ≤ xs.length) : cutV xs none (some (j : Int)) = xs.take j := by
  unfold cutV
  rw [HT.sIx_none, HT.sIx_nat, List.drop_zero, Nat.sub_zero, Nat.min_eq_left h]
theorem cut_from (xs : List V) (j : Nat) (h : j ≤ xs.length) : cutV xs (some (j : Int)) none = xs.drop j := by
  unfold cutV
  rw [HT.sIx_none, HT.sIx_nat, Nat.min_eq_left h]
  exact List.take_of_length_le (by rw [List.length_drop]; exact Nat.le_refl _)
section
variable {P : Program} {w : World} {K : PySem.W.Frag} {mg : Str → Option Value} {base : Heap}
/-! ### the text that the law asks for -/
def spLText (K : PySem.W.Frag) : Sp := fun vs H Q _ => ∃ (p : Addr) (l : List Str), vs = [.ref p] ∧ SqL K H p (l.map V.str) ∧ (∀ x ∈ l, x.length ≤ 8) ∧ l.length ≤ 8 ∧ ∀ H', Same H H' → Q (.str (ownT l)) H'
theorem scTxt : FnScope ["_law_names_here", "_law_text_here", "_law_name"] ["_law_names_here"] (defScope sTxt) := ⟨rfl, rfl, rfl, by decide +kernel, rfl, by decide +kernel, by decide +kernel⟩
theorem ok_lText {f : Addr} {fd : FuncData} (F : Fun K "_law_text" "_law_text" sTxt f fd) : FnOk P w K mg base CX0 1 f fd ["_law_names_here"] (spLText K) := by
  refine F.ok scTxt (fun vs H Q E h => ?_) (fun cdv A outer s H vs Q E hr h => ?_)
  · obtain ⟨p, l, rfl, _⟩ := h
    rfl
  obtain ⟨p, l, rfl, hp, h8, l8, q⟩ := h
  have hu := hu60 hr
  refine ⟨_, (@pss_cons _ _ _ _ _ (@ps_if _ _ _ _ _ _ _ _ (@pt_cmpR _ _ _ _ _ _ _ _ (@op_eqD _ hu) (pv 0) (@pe_lst _ _ _ _ pa_nil) (nomark _)) (@pss_one _ _ _ (@ps_ret _ _ _ _ pe_str)) pss_nil) (@pss_cons _ _ _ _ _ (@ps_set _ _ 1 _ _ _ _ scTxt.nd rfl (Or.inl rfl) (@pe_op _ _ _ _ _ _ _ _ op_add_str (@pe_op _ _ _ _ _ _ _ _ op_add_str (@pe_op _ _ _ _ _ _ _ _ op_add_str pe_str (@pe_ix _ _ _ _ _ _ (rIxL K) ix_list (pv 0) (@pe_un _ _ _ _ _ _ un_neg pe_int) (fun _ _ => rfl))) pe_str) (@pe_ix _ _ _ _ _ _ (rIxL K) ix_list (pv 0) (@pe_un _ _ _ _ _ _ un_neg pe_int) (fun _ _ => rfl))) rfl (Or.inl rfl)) (@pss_cons _ _ _ _ _ (@ps_for _ _ _ _ _ _ _ _ PassesOwn.never rfl (@pi_list _ _ _ _ (@pe_rev _ _ _ _ _ _ _ (@pe_slice _ _ _ _ _ _ _ _ _ _ sl_list (pv 0) po_none (@po_some _ _ _ (@pe_un _ _ _ _ _ _ un_neg pe_int))) (@po_some _ _ _ (@pe_un _ _ _ _ _ _ un_neg pe_int)))) (pg_name (i := 2) scTxt.nd rfl (Or.inl rfl)) (@pss_one _ _ _ (@ps_set _ _ 1 _ _ _ _ scTxt.nd rfl (Or.inl rfl) (@pe_op _ _ _ _ _ _ _ _ op_add_str (@pe_op _ _ _ _ _ _ _ _ op_add_str (@pe_op _ _ _ _ _ _ _ _ op_add_str (@pe_op _ _ _ _ _ _ _ _ op_add_str (@pe_op _ _ _ _ _ _ _ _ op_add_str (@pe_op _ _ _ _ _ _ _ _ op_add_str pe_str (pv 2)) pe_str) (pv 2)) pe_str) (pv 1)) pe_str) rfl (Or.inl rfl))) (by intro _; rfl)) (@pss_one _ _ _ (@ps_ret _ _ _ _ (pv 1)))))), ?_⟩
  refine ⟨_, rfl, Nat.zero_le _, fun z hz => ⟨_, _, is_strs ((same_new hz _).seq hp), is_no upd_same, rfl, rfl, dep_strs _, _, rfl, ?_⟩⟩
  have s0 := same_new hz (.lst [])
  generalize upd H z (.lst []) = H0 at s0 ⊢
  have hp := s0.seq hp
  rw [eq_nilD]
  rcases List.eq_nil_or_concat l with rfl | ⟨r, y, rfl⟩
  · refine ite2 (fun _ => ?_) (fun c => absurd rfl c)
    exact q _ s0
  rw [List.concat_eq_append] at *
  refine ite2 (fun c => absurd c (by simp)) (fun _ => ?_)
  have y8 : y.length ≤ 8 := h8 y (by simp)
  have e1 : ("@" : Str).length = 1 := by decide +kernel
  have e2 : (" = " : Str).length = 3 := by decide +kernel
  have e3 : ("[ @" : Str).length = 3 := by decide +kernel
  have e4 : (" and " : Str).length = 5 := by decide +kernel
  have e5 : (" ]" : Str).length = 2 := by decide +kernel
  refine ⟨_, rfl, 1, rfl, p, _, _, _, rfl, rfl, hp, last_at r y, _, _, rfl, rfl, small9 (by rw [e1]; omega), _, _, rfl, rfl, small9 (by simp only [str_len, e1, e2]; omega), ?_⟩
  refine ⟨_, rfl, 1, rfl, p, _, _, _, rfl, rfl, hp, last_at r y, _, _, rfl, rfl, small9 (by simp only [str_len, e1, e2]; omega), ?_⟩
  refine ⟨_, rfl, 1, rfl, _, rfl, p, _, rfl, hp, fun p1 hp1 => ?_⟩
  rw [List.map_append]
  have s1 := same_new hp1 (.lst (cutV (r.map V.str ++ [y].map V.str) none (some (-1))))
  have e6 : upd H0 p1 (.lst (cutV (r.map V.str ++ [y].map V.str) none (some (-1)))) p1 = some (.lst (r.map V.str)) := by
    rw [upd_same]
    exact congrArg (fun z => some (HO.lst z)) (cut_last (r.map V.str) (.str y))
  refine ⟨1, rfl, _, rfl, rfl, p1, _, rfl, SqL.of e6, fun p2 hp2 => ?_⟩
  have s2 := s1.trans (same_new hp2 (.lst (r.map V.str).reverse))
  have e7 : upd (upd H0 p1 (.lst (cutV (r.map V.str ++ [y].map V.str) none (some (-1))))) p2 (.lst (r.map V.str).reverse) p2 = some (.lst (r.map V.str).reverse) := upd_same
  generalize upd (upd H0 p1 (.lst (cutV (r.map V.str ++ [y].map V.str) none (some (-1))))) p2 (.lst (r.map V.str).reverse) = H2 at s2 e7 ⊢
  have lr : (r ++ [y]).length = r.length + 1 := by rw [List.length_append, List.length_singleton]
  refine ⟨p2, rfl, ⟨_, SqL.of e7⟩, for_list (xs := (r.map V.str).reverse) (fun i σ H3 => ∃ v2 : Option V, σ = [some (.ref p), some (.str (ownT ((r ++ [y]).drop (r.length - i)))), v2] ∧ H3 = H2) ⟨none, ?_, rfl⟩ (fun i σ H3 _ ⟨_, _, e⟩ => by rw [e]; exact SqL.of e7) ?_ ?_⟩
  · rw [Nat.sub_zero, List.drop_left]
    rfl
  · rintro i x σ H3 hx ⟨v2, rfl, rfl⟩
    have hi : i < r.length := by
      have := (List.getElem?_eq_some_iff.mp hx).1
      rw [List.length_reverse, List.length_map] at this
      exact this
    have hxx : x = .str (r[r.length - 1 - i]'(by omega)) := by
      rw [List.getElem?_reverse (by rw [List.length_map]; exact hi), List.length_map, List.getElem?_map, List.getElem?_eq_getElem (by omega)] at hx
      cases hx; rfl
    subst hxx
    have hj : r.length - 1 - i < (r ++ [y]).length := by omega
    have ed : (r ++ [y]).drop (r.length - (i + 1)) = r[r.length - 1 - i]'(by omega) :: (r ++ [y]).drop (r.length - i) := by
      rw [show r.length - (i + 1) = r.length - 1 - i by omega, List.drop_eq_getElem_cons hj, List.getElem_append_left (by omega), show r.length - 1 - i + 1 = r.length - i by omega]
    obtain ⟨a, b, eab⟩ : ∃ a b, (r ++ [y]).drop (r.length - i) = a :: b := by
      have hl : 0 < ((r ++ [y]).drop (r.length - i)).length := by rw [List.length_drop]; omega
      cases h : (r ++ [y]).drop (r.length - i) with
      | nil => rw [h] at hl; cases hl
      | cons a b => exact ⟨a, b, rfl⟩
    have hm : ∀ z ∈ a :: b, z.length ≤ 8 := fun z hz => h8 z (List.mem_of_mem_drop (by rw [eab]; exact hz))
    have lo := own_len hm
    have lab : (a :: b).length ≤ 9 := by rw [← eab, List.length_drop]; omega
    have x8 := h8 (r[r.length - 1 - i]'(by omega)) (List.mem_append_left _ (List.getElem_mem _))
    rw [eab]
    generalize r[r.length - 1 - i]'(by omega) = nm at x8 ed
    refine ⟨_, rfl, _, _, rfl, rfl, small9 (by rw [e3]; omega), _, _, rfl, rfl, small9 (by simp only [str_len, e2, e3]; omega), _, rfl, _, _, rfl, rfl, small9 (by simp only [str_len, e2, e3]; omega), _, _, rfl, rfl, small9 (by simp only [str_len, e2, e3, e4]; omega), _, rfl, _, _, rfl, rfl, small9 (by simp only [str_len, e2, e3, e4]; omega), _, _, rfl, rfl, small9 (by simp only [str_len, e2, e3, e4, e5]; omega), ?_⟩
    refine ⟨some (.str nm), ?_, rfl⟩
    rw [ed, eab]
    rfl
  · rintro σ H3 ⟨v2, rfl, rfl⟩
    rw [List.length_reverse, List.length_map, Nat.sub_self, List.drop_zero]
    exact ⟨_, rfl, q _ (s0.trans s2)⟩
end
end Nw

set_option Elab.async false
set_option linter.all false
set_option maxRecDepth 100000
set_option maxHeartbeats 4000000
namespace Nw
open PySem L2
theorem is_ma {K : PySem.W.Frag} {H : Hp} {ps : List Pl} {ds : List De} {v : V} (h : Is K H (maD ps ds) v) : ∃ x tp td ys us, v = .ref x ∧ SqT K H x [.ref tp, .ref td] ∧ SqT K H tp ys ∧ Iss K H (ps.map plD) ys ∧ SqT K H td us ∧ Iss K H (ds.map deD) us := by
  rw [maD, Is] at h
  obtain ⟨x, xs, e, h1, h2⟩ := h
  simp only [Iss] at h2
  obtain ⟨v1, r1, rfl, i1, v2, r2, rfl, i2, rfl⟩ := h2
  rw [Is] at i1
  rw [Is] at i2
  obtain ⟨tp, ys, rfl, j1, j2⟩ := i1
  obtain ⟨td, us, rfl, k1, k2⟩ := i2
  exact ⟨x, tp, td, ys, us, e, h1, j1, j2, k1, k2⟩
section
variable {P : Program} {w : World} {K : PySem.W.Frag} {mg : Str → Option Value} {base : Heap}
structure Txt (K : PySem.W.Frag) (mg : Str → Option Value) (CK : Kd → Addr) (CC : Kc → Addr) (CY : Ks → Addr) (CD CM CT : Addr) (fNI fMI fTI fPI fOI fCI fUI fAI fDI fZI fJI fNW fMW fPW fIW fXW fYH fLH fAH fEH fUH fBH fOH fTH fZV fZF fNS fMS fYS fES fBS fAt fBe fDr fNa fSu fHa fWh fSg fTo fPl fCg fDe fMa fCo fDo fRm fOt fOs fTd fTx fCp fBr : Addr) (dNI dMI dTI dPI dOI dCI dUI dAI dDI dZI dJI dNW dMW dPW dIW dXW dYH dLH dAH dEH dUH dBH dOH dTH dZV dZF dNS dMS dYS dES dBS dAt dBe dDr dNa dSu dHa dWh dSg dTo dPl dCg dDe dMa dCo dDo dRm dOt dOs dTd dTx dCp dBr : FuncData) : Prop where
  bl : Bl mg
  mkr : Maker K mg CK fNI fMI fTI dNI dMI dTI
  mks : MakerS K mg CY fPI fOI dPI dOI
  cc : ClsC K CC
  cd : ClsD K CD
  cz : ClsM K CM
  ct : ClsT K CT
  mkU : Mk K (CC .put) fUI
  mkA : Mk K (CC .any) fAI
  mkD : Mk K CD fDI
  mkZ : Mk K CM fZI
  mkJ : Mk K CT fJI
  gC : mg "Change" = some (.ref (CC .cha))
  gU : mg "Put" = some (.ref (CC .put))
  gA : mg "Any" = some (.ref (CC .any))
  gD : mg "Deed" = some (.ref CD)
  gZ : mg "Machine" = some (.ref CM)
  gJ : mg "Tie" = some (.ref CT)
  cm : CMeth K (CC .cha) "__init__" fCI
  hc : PySem.W.findIn K (.ref CT) "__class__" = some (some (.builtin "object.__class__"))
  hn : PySem.W.specialIn K (.builtin "object.__class__") "__get__" = some (some (.builtin "getset_descriptor.__get__"))
  ht : PySem.W.takesIn K (.builtin "object.__class__") = some true
  hm : PySem.W.mroIn K CT (.type "object") = some true
  FCI : Fun K "__init__" "Change.__init__" sChaI fCI dCI
  bCI : Binds K dCI ["self", "name"] []
  FUI : Fun K "__init__" "Put.__init__" sPutI fUI dUI
  bUI : Binds K dUI ["self", "name", "one"] []
  FAI : Fun K "__init__" "Any.__init__" sAnyI fAI dAI
  bAI : Binds K dAI ["self", "name", "one", "other"] []
  FDI : Fun K "__init__" "Deed.__init__" sDeeI fDI dDI
  bDI : Binds K dDI ["self", "called", "when", "changes"] []
  FZI : Fun K "__init__" "Machine.__init__" sMacI fZI dZI
  bZI : Binds K dZI ["self", "places", "keeps", "deeds"] []
  FJI : Fun K "__init__" "Tie.__init__" sTieI fJI dJI
  bJI : Binds K dJI ["self", "saying", "table", "falling"] []
  FNW : Fun K "worth" "Number.worth" sNumW fNW dNW
  bNW : Binds K dNW ["self", "values"] []
  mNW : Meth K (CK .num) "worth" fNW
  FMW : Fun K "worth" "Named.worth" sNamW fMW dMW
  bMW : Binds K dMW ["self", "values"] []
  mMW : Meth K (CK .nam) "worth" fMW
  FPW : Fun K "worth" "Plus.worth" sPluW fPW dPW
  bPW : Binds K dPW ["self", "values"] []
  mPW : Meth K (CK (.op .plus)) "worth" fPW
  FIW : Fun K "worth" "Minus.worth" sMinW fIW dIW
  bIW : Binds K dIW ["self", "values"] []
  mIW : Meth K (CK (.op .minus)) "worth" fIW
  FXW : Fun K "worth" "Times.worth" sTimW fXW dXW
  bXW : Binds K dXW ["self", "values"] []
  mXW : Meth K (CK (.op .times)) "worth" fXW
  FYH : Fun K "holds" "Saying.holds" sSayH fYH dYH
  bYH : Binds K dYH ["self", "values"] []
  mYH : Meth K (CY .yes) "holds" fYH
  FLH : Fun K "holds" "Less.holds" sLesH fLH dLH
  bLH : Binds K dLH ["self", "values"] []
  mLH : Meth K (CY (.cmp .lt)) "holds" fLH
  FAH : Fun K "holds" "AtMost.holds" sAtmH fAH dAH
  bAH : Binds K dAH ["self", "values"] []
  mAH : Meth K (CY (.cmp .le)) "holds" fAH
  FEH : Fun K "holds" "Equal.holds" sEquH fEH dEH
  bEH : Binds K dEH ["self", "values"] []
  mEH : Meth K (CY (.cmp .eq)) "holds" fEH
  FUH : Fun K "holds" "Unlike.holds" sUnlH fUH dUH
  bUH : Binds K dUH ["self", "values"] []
  mUH : Meth K (CY (.cmp .ne)) "holds" fUH
  FBH : Fun K "holds" "Both.holds" sBotH fBH dBH
  bBH : Binds K dBH ["self", "values"] []
  mBH : Meth K (CY (.bin .and)) "holds" fBH
  FOH : Fun K "holds" "Either.holds" sEitH fOH dOH
  bOH : Binds K dOH ["self", "values"] []
  mOH : Meth K (CY (.bin .or)) "holds" fOH
  FTH : Fun K "holds" "Not.holds" sNotH fTH dTH
  bTH : Binds K dTH ["self", "values"] []
  mTH : Meth K (CY .neg) "holds" fTH
  FZV : Fun K "values_in" "Machine.values_in" sValuesIn fZV dZV
  bZV : Binds K dZV ["self", "room"] []
  mZV : Meth K (CM) "values_in" fZV
  FZF : Fun K "first" "Machine.first" sFirst fZF dZF
  bZF : Binds K dZF ["self"] []
  mZF : Meth K (CM) "first" fZF
  FNS : Fun K "shown" "Number.shown" sNumS fNS dNS
  bNS : Binds K dNS ["self"] []
  mNS : Meth K (CK .num) "shown" fNS
  FMS : Fun K "shown" "Named.shown" sNamS fMS dMS
  bMS : Binds K dMS ["self"] []
  mMS : Meth K (CK .nam) "shown" fMS
  FYS : Fun K "shown" "Saying.shown" sSayS fYS dYS
  bYS : Binds K dYS ["self"] []
  mYS : Meth K (CY .yes) "shown" fYS
  FES : Fun K "shown" "Equal.shown" sEquS fES dES
  bES : Binds K dES ["self"] []
  mES : Meth K (CY (.cmp .eq)) "shown" fES
  FBS : Fun K "shown" "Both.shown" sBotS fBS dBS
  bBS : Binds K dBS ["self"] []
  mBS : Meth K (CY (.bin .and)) "shown" fBS
  gAt : mg "_law_at" = some (.ref fAt)
  FAt : Fun K "_law_at" "_law_at" sAt fAt dAt
  bAt : Binds K dAt ["_law_script", "_law_k"] []
  gBe : mg "_law_begin" = some (.ref fBe)
  FBe : Fun K "_law_begin" "_law_begin" sBegin fBe dBe
  bBe : Binds K dBe ["_law_cell"] []
  gDr : mg "_law_draw" = some (.ref fDr)
  FDr : Fun K "_law_draw" "_law_draw" sDraw fDr dDr
  bDr : Binds K dDr ["_law_state", "_law_many"] []
  gNa : mg "_law_names" = some (.ref fNa)
  FNa : Fun K "_law_names" "_law_names" sNames fNa dNa
  bNa : Binds K dNa ["_law_cell", "_law_many"] []
  gSu : mg "_law_sum" = some (.ref fSu)
  FSu : Fun K "_law_sum" "_law_sum" sSum fSu dSu
  bSu : Binds K dSu ["_law_state", "_law_names_here", "_law_near", "_law_depth"] []
  gHa : mg "_law_sum_of" = some (.ref fHa)
  FHa : Fun K "_law_sum_of" "_law_sum_of" sHand fHa dHa
  bHa : Binds K dHa ["_law_one"] []
  gWh : mg "_law_whole" = some (.ref fWh)
  FWh : Fun K "_law_whole" "_law_whole" sWhole fWh dWh
  bWh : Binds K dWh ["_law_found"] []
  gSg : mg "_law_saying" = some (.ref fSg)
  FSg : Fun K "_law_saying" "_law_saying" sSaying fSg dSg
  bSg : Binds K dSg ["_law_state", "_law_names_here", "_law_near", "_law_depth"] []
  gTo : mg "_law_saying_of" = some (.ref fTo)
  FTo : Fun K "_law_saying_of" "_law_saying_of" sTold fTo dTo
  bTo : Binds K dTo ["_law_one"] []
  gPl : mg "_law_places" = some (.ref fPl)
  FPl : Fun K "_law_places" "_law_places" sPlaces fPl dPl
  bPl : Binds K dPl ["_law_script", "_law_start", "_law_names_here"] []
  gCg : mg "_law_change" = some (.ref fCg)
  FCg : Fun K "_law_change" "_law_change" sChange fCg dCg
  bCg : Binds K dCg ["_law_cell", "_law_place", "_law_names_here"] []
  gDe : mg "_law_deed" = some (.ref fDe)
  FDe : Fun K "_law_deed" "_law_deed" sDeed fDe dDe
  bDe : Binds K dDe ["_law_script", "_law_start", "_law_called", "_law_places_here"] []
  gMa : mg "_law_machine" = some (.ref fMa)
  FMa : Fun K "_law_machine" "_law_machine" sMachine fMa dMa
  bMa : Binds K dMa ["_law_script", "_law_start", "_law_many_names", "_law_many_deeds"] []
  gCo : mg "_law_change_of" = some (.ref fCo)
  FCo : Fun K "_law_change_of" "_law_change_of" sChangeOf fCo dCo
  bCo : Binds K dCo ["_law_change_here"] []
  gDo : mg "_law_deed_of" = some (.ref fDo)
  FDo : Fun K "_law_deed_of" "_law_deed_of" sDeedOf fDo dDo
  bDo : Binds K dDo ["_law_deed_here"] []
  gRm : mg "_law_room" = some (.ref fRm)
  FRm : Fun K "_law_room" "_law_room" sRoom fRm dRm
  bRm : Binds K dRm ["_law_places_here", "_law_cell"] []
  gOt : mg "own_tie" = some (.ref fOt)
  FOt : Fun K "own_tie" "own_tie" sOwnTie fOt dOt
  bOt : Binds K dOt ["machine"] []
  gOs : mg "own_saying" = some (.ref fOs)
  FOs : Fun K "own_saying" "own_saying" sOwnSay fOs dOs
  bOs : Binds K dOs ["names"] []
  gTd : mg "tied" = some (.ref fTd)
  FTd : Fun K "tied" "tied" sTied fTd dTd
  bTd : Binds K dTd ["far", "near", "tie", "far_room", "room"] []
  gTx : mg "_law_text" = some (.ref fTx)
  FTx : Fun K "_law_text" "_law_text" sTxt fTx dTx
  bTx : Binds K dTx ["_law_names_here"] []
  gCp : mg "compared" = some (.ref fCp)
  FCp : Fun K "compared" "compared" sCmp fCp dCp
  bCp : Binds K dCp ["one", "sign", "other"] []
  gBr : mg "bracketed_sayings" = some (.ref fBr)
  FBr : Fun K "bracketed" "bracketed" sBrs fBr dBr
  bBr : Binds K dBr ["one", "word", "other"] []
variable {CK : Kd → Addr} {CC : Kc → Addr} {CY : Ks → Addr} {CD CM CT : Addr} {fNI fMI fTI fPI fOI fCI fUI fAI fDI fZI fJI fNW fMW fPW fIW fXW fYH fLH fAH fEH fUH fBH fOH fTH fZV fZF fNS fMS fYS fES fBS fAt fBe fDr fNa fSu fHa fWh fSg fTo fPl fCg fDe fMa fCo fDo fRm fOt fOs fTd fTx fCp fBr : Addr} {dNI dMI dTI dPI dOI dCI dUI dAI dDI dZI dJI dNW dMW dPW dIW dXW dYH dLH dAH dEH dUH dBH dOH dTH dZV dZF dNS dMS dYS dES dBS dAt dBe dDr dNa dSu dHa dWh dSg dTo dPl dCg dDe dMa dCo dDo dRm dOt dOs dTd dTx dCp dBr : FuncData}
theorem worths (T : Txt K mg CK CC CY CD CM CT fNI fMI fTI fPI fOI fCI fUI fAI fDI fZI fJI fNW fMW fPW fIW fXW fYH fLH fAH fEH fUH fBH fOH fTH fZV fZF fNS fMS fYS fES fBS fAt fBe fDr fNa fSu fHa fWh fSg fTo fPl fCg fDe fMa fCo fDo fRm fOt fOs fTd fTx fCp fBr dNI dMI dTI dPI dOI dCI dUI dAI dDI dZI dJI dNW dMW dPW dIW dXW dYH dLH dAH dEH dUH dBH dOH dTH dZV dZF dNS dMS dYS dES dBS dAt dBe dDr dNa dSu dHa dWh dSg dTo dPl dCg dDe dMa dCo dDo dRm dOt dOs dTd dTx dCp dBr) :
    ∀ (n : Nat) (k : Kd), MOk P w K mg base (n + 1) (CK k) "worth" (spW CK n k)
  | n, .num => ⟨T.mkr.cls.cl _, _, _, _, T.mNW, (ok_numW T.mkr.cls T.FNW n).mono (Nat.le_add_left 1 n), T.bNW⟩
  | n, .nam => ⟨T.mkr.cls.cl _, _, _, _, T.mMW, (ok_namW T.mkr.cls T.FMW n).mono (Nat.le_add_left 1 n), T.bMW⟩
  | 0, .op .plus => ⟨T.mkr.cls.cl _, _, _, _, T.mPW, fn_none (spW_none _), T.bPW⟩
  | 0, .op .minus => ⟨T.mkr.cls.cl _, _, _, _, T.mIW, fn_none (spW_none _), T.bIW⟩
  | 0, .op .times => ⟨T.mkr.cls.cl _, _, _, _, T.mXW, fn_none (spW_none _), T.bXW⟩
  | n + 1, .op .plus => ⟨T.mkr.cls.cl _, _, _, _, T.mPW, ok_pluW T.mkr.cls T.FPW n (worths T n), T.bPW⟩
  | n + 1, .op .minus => ⟨T.mkr.cls.cl _, _, _, _, T.mIW, ok_minW T.mkr.cls T.FIW n (worths T n), T.bIW⟩
  | n + 1, .op .times => ⟨T.mkr.cls.cl _, _, _, _, T.mXW, ok_timW T.mkr.cls T.FXW n (worths T n), T.bXW⟩
theorem holdses (T : Txt K mg CK CC CY CD CM CT fNI fMI fTI fPI fOI fCI fUI fAI fDI fZI fJI fNW fMW fPW fIW fXW fYH fLH fAH fEH fUH fBH fOH fTH fZV fZF fNS fMS fYS fES fBS fAt fBe fDr fNa fSu fHa fWh fSg fTo fPl fCg fDe fMa fCo fDo fRm fOt fOs fTd fTx fCp fBr dNI dMI dTI dPI dOI dCI dUI dAI dDI dZI dJI dNW dMW dPW dIW dXW dYH dLH dAH dEH dUH dBH dOH dTH dZV dZF dNS dMS dYS dES dBS dAt dBe dDr dNa dSu dHa dWh dSg dTo dPl dCg dDe dMa dCo dDo dRm dOt dOs dTd dTx dCp dBr) : ∀ (n : Nat) (k : Ks), MOk P w K mg base (n + 11) (CY k) "holds" (spH CK CY n k)
  | n, .yes => ⟨T.mks.cls.cl _, _, _, _, T.mYH, (ok_yesH T.FYH n).mono (by omega), T.bYH⟩
  | n, .cmp .lt => ⟨T.mks.cls.cl _, _, _, _, T.mLH, (ok_lesH T.mks.cls T.FLH (worths T 9) n).mono (by omega), T.bLH⟩
  | n, .cmp .le => ⟨T.mks.cls.cl _, _, _, _, T.mAH, (ok_atmH T.mks.cls T.FAH (worths T 9) n).mono (by omega), T.bAH⟩
  | n, .cmp .eq => ⟨T.mks.cls.cl _, _, _, _, T.mEH, (ok_equH T.mks.cls T.FEH (worths T 9) n).mono (by omega), T.bEH⟩
  | n, .cmp .ne => ⟨T.mks.cls.cl _, _, _, _, T.mUH, (ok_unlH T.mks.cls T.FUH (worths T 9) n).mono (by omega), T.bUH⟩
  | 0, .bin .and => ⟨T.mks.cls.cl _, _, _, _, T.mBH, fn_none (spH_none _), T.bBH⟩
  | 0, .bin .or => ⟨T.mks.cls.cl _, _, _, _, T.mOH, fn_none (spH_none _), T.bOH⟩
  | 0, .neg => ⟨T.mks.cls.cl _, _, _, _, T.mTH, fn_none (spH_none _), T.bTH⟩
  | n + 1, .bin .and => ⟨T.mks.cls.cl _, _, _, _, T.mBH, ok_botH T.mks.cls T.FBH n (holdses T n), T.bBH⟩
  | n + 1, .bin .or => ⟨T.mks.cls.cl _, _, _, _, T.mOH, ok_eitH T.mks.cls T.FOH n (holdses T n), T.bOH⟩
  | n + 1, .neg => ⟨T.mks.cls.cl _, _, _, _, T.mTH, ok_notH T.mks.cls T.FTH n (holdses T n), T.bTH⟩
theorem g_machine (T : Txt K mg CK CC CY CD CM CT fNI fMI fTI fPI fOI fCI fUI fAI fDI fZI fJI fNW fMW fPW fIW fXW fYH fLH fAH fEH fUH fBH fOH fTH fZV fZF fNS fMS fYS fES fBS fAt fBe fDr fNa fSu fHa fWh fSg fTo fPl fCg fDe fMa fCo fDo fRm fOt fOs fTd fTx fCp fBr dNI dMI dTI dPI dOI dCI dUI dAI dDI dZI dJI dNW dMW dPW dIW dXW dYH dLH dAH dEH dUH dBH dOH dTH dZV dZF dNS dMS dYS dES dBS dAt dBe dDr dNa dSu dHa dWh dSg dTo dPl dCg dDe dMa dCo dDo dRm dOt dOs dTd dTx dCp dBr) : FnOk P w K mg base CX0 13 fMa dMa ["_law_script", "_law_start", "_law_many_names", "_law_many_deeds"] (spMachine K) :=
  ok_machine T.bl T.FMa T.FAt T.bAt T.gAt T.FNa T.bNa T.gNa (ok_names T.bl T.FNa T.FBe T.bBe T.gBe T.FDr T.bDr T.gDr) T.FPl T.bPl T.gPl (ok_places T.bl T.FPl T.FAt T.bAt T.gAt T.FBe T.bBe T.gBe T.FDr T.bDr T.gDr)
    T.FDe T.bDe T.gDe (ok_deed T.bl T.FDe T.FAt T.bAt T.gAt T.FSu T.bSu T.gSu T.FBe T.bBe T.gBe T.FDr T.bDr T.gDr T.FSg T.bSg T.gSg T.FCg T.bCg T.gCg)
theorem g_deedOf (T : Txt K mg CK CC CY CD CM CT fNI fMI fTI fPI fOI fCI fUI fAI fDI fZI fJI fNW fMW fPW fIW fXW fYH fLH fAH fEH fUH fBH fOH fTH fZV fZF fNS fMS fYS fES fBS fAt fBe fDr fNa fSu fHa fWh fSg fTo fPl fCg fDe fMa fCo fDo fRm fOt fOs fTd fTx fCp fBr dNI dMI dTI dPI dOI dCI dUI dAI dDI dZI dJI dNW dMW dPW dIW dXW dYH dLH dAH dEH dUH dBH dOH dTH dZV dZF dNS dMS dYS dES dBS dAt dBe dDr dNa dSu dHa dWh dSg dTo dPl dCg dDe dMa dCo dDo dRm dOt dOs dTd dTx dCp dBr) : FnOk P w K mg base CX0 18 fDo dDo ["_law_deed_here"] (spDeedOf K CK CC CY CD) :=
  ok_deedOf T.bl T.FDo T.FCo T.bCo T.gCo (ok_changeOf T.bl T.FCo T.FHa T.bHa T.gHa (ok_hand T.mkr T.FHa T.bHa T.gHa 8) T.mkU T.gU T.bUI T.FUI (ok_putI T.cc T.FUI T.FCI T.bCI T.gC T.cm) T.mkA T.gA T.bAI T.FAI (ok_anyI T.cc T.FAI T.FCI T.bCI T.gC T.cm))
    T.FTo T.bTo T.gTo (ok_told T.mkr T.mks T.FTo T.bTo T.gTo T.FHa T.bHa T.gHa 4) T.cd T.mkD T.gD T.bDI T.FDI
theorem valuesIn (T : Txt K mg CK CC CY CD CM CT fNI fMI fTI fPI fOI fCI fUI fAI fDI fZI fJI fNW fMW fPW fIW fXW fYH fLH fAH fEH fUH fBH fOH fTH fZV fZF fNS fMS fYS fES fBS fAt fBe fDr fNa fSu fHa fWh fSg fTo fPl fCg fDe fMa fCo fDo fRm fOt fOs fTd fTx fCp fBr dNI dMI dTI dPI dOI dCI dUI dAI dDI dZI dJI dNW dMW dPW dIW dXW dYH dLH dAH dEH dUH dBH dOH dTH dZV dZF dNS dMS dYS dES dBS dAt dBe dDr dNa dSu dHa dWh dSg dTo dPl dCg dDe dMa dCo dDo dRm dOt dOs dTd dTx dCp dBr) : MOk P w K mg base 16 CM "values_in" (spValuesIn K CK CC CY CD CM) := ⟨T.cz.cl, _, _, _, T.mZV, (ok_valuesIn T.bl T.cz T.FZV).mono (by decide), T.bZV⟩
theorem firstM (T : Txt K mg CK CC CY CD CM CT fNI fMI fTI fPI fOI fCI fUI fAI fDI fZI fJI fNW fMW fPW fIW fXW fYH fLH fAH fEH fUH fBH fOH fTH fZV fZF fNS fMS fYS fES fBS fAt fBe fDr fNa fSu fHa fWh fSg fTo fPl fCg fDe fMa fCo fDo fRm fOt fOs fTd fTx fCp fBr dNI dMI dTI dPI dOI dCI dUI dAI dDI dZI dJI dNW dMW dPW dIW dXW dYH dLH dAH dEH dUH dBH dOH dTH dZV dZF dNS dMS dYS dES dBS dAt dBe dDr dNa dSu dHa dWh dSg dTo dPl dCg dDe dMa dCo dDo dRm dOt dOs dTd dTx dCp dBr) : MOk P w K mg base 1 CM "first" (spFirst K CK CC CY CD CM) := ⟨T.cz.cl, _, _, _, T.mZF, ok_first T.bl T.cz T.FZF, T.bZF⟩
theorem zeroS (T : Txt K mg CK CC CY CD CM CT fNI fMI fTI fPI fOI fCI fUI fAI fDI fZI fJI fNW fMW fPW fIW fXW fYH fLH fAH fEH fUH fBH fOH fTH fZV fZF fNS fMS fYS fES fBS fAt fBe fDr fNa fSu fHa fWh fSg fTo fPl fCg fDe fMa fCo fDo fRm fOt fOs fTd fTx fCp fBr dNI dMI dTI dPI dOI dCI dUI dAI dDI dZI dJI dNW dMW dPW dIW dXW dYH dLH dAH dEH dUH dBH dOH dTH dZV dZF dNS dMS dYS dES dBS dAt dBe dDr dNa dSu dHa dWh dSg dTo dPl dCg dDe dMa dCo dDo dRm dOt dOs dTd dTx dCp dBr) : MOk P w K mg base 1 (CK .num) "shown" (spZS (CK .num)) := ⟨T.mkr.cls.cl _, _, _, _, T.mNS, ok_numS T.bl T.mkr.cls T.FNS, T.bNS⟩
theorem namS (T : Txt K mg CK CC CY CD CM CT fNI fMI fTI fPI fOI fCI fUI fAI fDI fZI fJI fNW fMW fPW fIW fXW fYH fLH fAH fEH fUH fBH fOH fTH fZV fZF fNS fMS fYS fES fBS fAt fBe fDr fNa fSu fHa fWh fSg fTo fPl fCg fDe fMa fCo fDo fRm fOt fOs fTd fTx fCp fBr dNI dMI dTI dPI dOI dCI dUI dAI dDI dZI dJI dNW dMW dPW dIW dXW dYH dLH dAH dEH dUH dBH dOH dTH dZV dZF dNS dMS dYS dES dBS dAt dBe dDr dNa dSu dHa dWh dSg dTo dPl dCg dDe dMa dCo dDo dRm dOt dOs dTd dTx dCp dBr) : MOk P w K mg base 1 (CK .nam) "shown" (spNS (CK .nam)) := ⟨T.mkr.cls.cl _, _, _, _, T.mMS, ok_namS T.mkr.cls T.FMS, T.bMS⟩
theorem own_cmp {l : List Str} {c : Cm} (h : ks (ownY l) = .cmp c) : ∃ x, l = [x] := by
  match l, h with
  | [], h => cases h
  | [x], _ => exact ⟨x, rfl⟩
  | _ :: _ :: _, h => cases h
theorem equS (T : Txt K mg CK CC CY CD CM CT fNI fMI fTI fPI fOI fCI fUI fAI fDI fZI fJI fNW fMW fPW fIW fXW fYH fLH fAH fEH fUH fBH fOH fTH fZV fZF fNS fMS fYS fES fBS fAt fBe fDr fNa fSu fHa fWh fSg fTo fPl fCg fDe fMa fCo fDo fRm fOt fOs fTd fTx fCp fBr dNI dMI dTI dPI dOI dCI dUI dAI dDI dZI dJI dNW dMW dPW dIW dXW dYH dLH dAH dEH dUH dBH dOH dTH dZV dZF dNS dMS dYS dES dBS dAt dBe dDr dNa dSu dHa dWh dSg dTo dPl dCg dDe dMa dCo dDo dRm dOt dOs dTd dTx dCp dBr) : FnOk P w K mg base CX0 3 fES dES ["self"] (spES CK CY) := ok_equS T.mks.cls T.FES T.FCp T.bCp T.gCp (namS T)
theorem shownY (T : Txt K mg CK CC CY CD CM CT fNI fMI fTI fPI fOI fCI fUI fAI fDI fZI fJI fNW fMW fPW fIW fXW fYH fLH fAH fEH fUH fBH fOH fTH fZV fZF fNS fMS fYS fES fBS fAt fBe fDr fNa fSu fHa fWh fSg fTo fPl fCg fDe fMa fCo fDo fRm fOt fOs fTd fTx fCp fBr dNI dMI dTI dPI dOI dCI dUI dAI dDI dZI dJI dNW dMW dPW dIW dXW dYH dLH dAH dEH dUH dBH dOH dTH dZV dZF dNS dMS dYS dES dBS dAt dBe dDr dNa dSu dHa dWh dSg dTo dPl dCg dDe dMa dCo dDo dRm dOt dOs dTd dTx dCp dBr) : ∀ (n : Nat) (l : List Str), MOk P w K mg base (2 * n + 3) (CY (ks (ownY l))) "shown" (spYS CK CY n (ks (ownY l)))
  | n, [] => ⟨T.mks.cls.cl _, _, _, _, T.mYS, (ok_sayS T.FYS n).mono (by omega), T.bYS⟩
  | n, [x] => ⟨T.mks.cls.cl _, _, _, _, T.mES, ((equS T).imp fun vs H Q E h => by
      obtain ⟨v, l, rfl, kt, ob, _, h8, _, q⟩ := h
      obtain ⟨x, rfl⟩ := own_cmp kt
      exact ⟨v, x, rfl, ob, h8 x (List.mem_singleton_self x), q⟩).mono (by omega), T.bES⟩
  | 0, x :: y :: r => ⟨T.mks.cls.cl _, _, _, _, T.mBS, fn_none (fun vs H Q E h => by
      obtain ⟨v, l, rfl, kt, _, hn, _⟩ := h
      cases l with
      | nil => cases kt
      | cons a b => cases hn), T.bBS⟩
  | n + 1, x :: y :: r => ⟨T.mks.cls.cl _, _, _, _, T.mBS, ok_botS T.mks.cls T.FBS T.FBr T.bBr T.gBr n (2 * n + 3) (ok_brs T.FBr n (2 * n + 3) ⟨T.mks.cls.cl _, _, _, _, T.mES, (equS T).mono (by omega), T.bES⟩ fun y r => shownY T n (y :: r)), T.bBS⟩
theorem g_ownTie (T : Txt K mg CK CC CY CD CM CT fNI fMI fTI fPI fOI fCI fUI fAI fDI fZI fJI fNW fMW fPW fIW fXW fYH fLH fAH fEH fUH fBH fOH fTH fZV fZF fNS fMS fYS fES fBS fAt fBe fDr fNa fSu fHa fWh fSg fTo fPl fCg fDe fMa fCo fDo fRm fOt fOs fTd fTx fCp fBr dNI dMI dTI dPI dOI dCI dUI dAI dDI dZI dJI dNW dMW dPW dIW dXW dYH dLH dAH dEH dUH dBH dOH dTH dZV dZF dNS dMS dYS dES dBS dAt dBe dDr dNa dSu dHa dWh dSg dTo dPl dCg dDe dMa dCo dDo dRm dOt dOs dTd dTx dCp dBr) : FnOk P w K mg base CX0 9 fOt dOt ["machine"] (spOwnTie K CK CC CY CD CM CT) := ok_ownTie T.bl T.mkr T.mks T.cz T.cd T.ct T.FOt T.FOs T.bOs T.gOs T.FJI T.bJI T.mkJ T.gJ
theorem g_tied (T : Txt K mg CK CC CY CD CM CT fNI fMI fTI fPI fOI fCI fUI fAI fDI fZI fJI fNW fMW fPW fIW fXW fYH fLH fAH fEH fUH fBH fOH fTH fZV fZF fNS fMS fYS fES fBS fAt fBe fDr fNa fSu fHa fWh fSg fTo fPl fCg fDe fMa fCo fDo fRm fOt fOs fTd fTx fCp fBr dNI dMI dTI dPI dOI dCI dUI dAI dDI dZI dJI dNW dMW dPW dIW dXW dYH dLH dAH dEH dUH dBH dOH dTH dZV dZF dNS dMS dYS dES dBS dAt dBe dDr dNa dSu dHa dWh dSg dTo dPl dCg dDe dMa dCo dDo dRm dOt dOs dTd dTx dCp dBr) : FnOk P w K mg base CX0 17 fTd dTd ["far", "near", "tie", "far_room", "room"] (spTied K CK CC CY CD CM CT) := ok_tied T.ct T.FTd (valuesIn T) (holdses T 5)
theorem kit_self (K : PySem.W.Frag) (C : Addr) : PySem.W.kitOne K (.ref C) (.ref C) = some true := by
  unfold PySem.W.kitOne
  split
  · rfl
  · rename_i h; exact absurd (by simp) h
end
end Nw

set_option Elab.async false
set_option linter.all false
set_option maxRecDepth 100000
set_option maxHeartbeats 4000000
namespace Nw
open PySem L2
section
variable {P : Program} {w : World} {K : PySem.W.Frag} {mg : Str → Option Value} {base : Heap}
variable {CK : Kd → Addr} {CC : Kc → Addr} {CY : Ks → Addr} {CD CM CT : Addr} {fNI fMI fTI fPI fOI fCI fUI fAI fDI fZI fJI fNW fMW fPW fIW fXW fYH fLH fAH fEH fUH fBH fOH fTH fZV fZF fNS fMS fYS fES fBS fAt fBe fDr fNa fSu fHa fWh fSg fTo fPl fCg fDe fMa fCo fDo fRm fOt fOs fTd fTx fCp fBr : Addr} {dNI dMI dTI dPI dOI dCI dUI dAI dDI dZI dJI dNW dMW dPW dIW dXW dYH dLH dAH dEH dUH dBH dOH dTH dZV dZF dNS dMS dYS dES dBS dAt dBe dDr dNa dSu dHa dWh dSg dTo dPl dCg dDe dMa dCo dDo dRm dOt dOs dTd dTx dCp dBr : FuncData}
def spLaw (K : PySem.W.Frag) : Sp := fun vs H Q _ => ∃ (a : Addr) (ns : List Int), vs = [.ref a] ∧ SqL K H a (ns.map V.int) ∧ ns.length ≤ 63 ∧ ∀ H', Q (.bl true) H'
theorem scLaw : FnScope ["_law_script", "_law_head", "_law_places_here", "_law_deeds", "_law_machine_here", "_law_tie", "_law_worth", "_law_k", "_law_cell", "_law_one", "_law_other", "_law_at_here", "_law_name", "_law_low", "_law_high", "_law_start", "_law_value", "_law_found"] ["_law_script"] (defScope sLaw) := ⟨rfl, rfl, rfl, by decide +kernel, rfl, by decide +kernel, by decide +kernel⟩
theorem nd_scLaw1 : (["_law_script", "_law_head", "_law_places_here", "_law_deeds", "_law_machine_here", "_law_tie", "_law_worth", "_law_k", "_law_cell", "_law_one", "_law_other", "_law_at_here", "_law_name", "_law_low", "_law_high", "_law_start", "_law_value", "_law_found", "_law_deed_here"] : List Str).Nodup := by decide +kernel
theorem nd_scLaw2 : (["_law_script", "_law_head", "_law_places_here", "_law_deeds", "_law_machine_here", "_law_tie", "_law_worth", "_law_k", "_law_cell", "_law_one", "_law_other", "_law_at_here", "_law_name", "_law_low", "_law_high", "_law_start", "_law_value", "_law_found", "_law_place"] : List Str).Nodup := by decide +kernel
theorem nd_scLaw3 : (["_law_script", "_law_head", "_law_places_here", "_law_deeds", "_law_machine_here", "_law_tie", "_law_worth", "_law_k", "_law_cell", "_law_one", "_law_other", "_law_at_here", "_law_name", "_law_low", "_law_high", "_law_start", "_law_value", "_law_found", "_law_deed_here"] : List Str).Nodup := by decide +kernel
theorem ok_law {f : Addr} {fd : FuncData} (T : Txt K mg CK CC CY CD CM CT fNI fMI fTI fPI fOI fCI fUI fAI fDI fZI fJI fNW fMW fPW fIW fXW fYH fLH fAH fEH fUH fBH fOH fTH fZV fZF fNS fMS fYS fES fBS fAt fBe fDr fNa fSu fHa fWh fSg fTo fPl fCg fDe fMa fCo fDo fRm fOt fOs fTd fTx fCp fBr dNI dMI dTI dPI dOI dCI dUI dAI dDI dZI dJI dNW dMW dPW dIW dXW dYH dLH dAH dEH dUH dBH dOH dTH dZV dZF dNS dMS dYS dES dBS dAt dBe dDr dNa dSu dHa dWh dSg dTo dPl dCg dDe dMa dCo dDo dRm dOt dOs dTd dTx dCp dBr) (F : Fun K "law" "law" sLaw f fd) : FnOk P w K mg base CX0 19 f fd ["_law_script"] (spLaw K) := by
  have B := T.bl
  have GAt : FnOk P w K mg base CX0 1 fAt dAt ["_law_script", "_law_k"] (spAt K) := ok_at B T.FAt
  have GMa : FnOk P w K mg base CX0 13 fMa dMa ["_law_script", "_law_start", "_law_many_names", "_law_many_deeds"] (spMachine K) := g_machine T
  have GDo : FnOk P w K mg base CX0 18 fDo dDo ["_law_deed_here"] (spDeedOf K CK CC CY CD) := g_deedOf T
  have GRm : FnOk P w K mg base CX0 2 fRm dRm ["_law_places_here", "_law_cell"] (spRoom K) := ok_room B T.FRm T.FBe T.bBe T.gBe T.FDr T.bDr T.gDr
  have GWh : FnOk P w K mg base CX0 1 fWh dWh ["_law_found"] spWhole := ok_whole B T.FWh
  have GZI : FnOk P w K mg base CX0 1 fZI dZI ["self", "places", "keeps", "deeds"] (spMacI CM) := ok_macI T.cz T.FZI
  have GOt : FnOk P w K mg base CX0 9 fOt dOt ["machine"] (spOwnTie K CK CC CY CD CM CT) := g_ownTie T
  have GTd : FnOk P w K mg base CX0 17 fTd dTd ["far", "near", "tie", "far_room", "room"] (spTied K CK CC CY CD CM CT) := g_tied T
  have GTx : FnOk P w K mg base CX0 1 fTx dTx ["_law_names_here"] (spLText K) := ok_lText T.FTx
  have MF : MOk P w K mg base 1 CM "first" (spFirst K CK CC CY CD CM) := firstM T
  have MV : MOk P w K mg base 16 CM "values_in" (spValuesIn K CK CC CY CD CM) := valuesIn T
  have MZ : MOk P w K mg base 1 (CK .num) "shown" (spZS (CK .num)) := zeroS T
  have MW : MOk P w K mg base 2 (CK .num) "worth" (spW CK 1 .num) := worths T 1 .num
  refine F.ok scLaw (fun vs H Q E h => ?_) (fun cdv A outer s H vs Q E hr h => ?_)
  · obtain ⟨a, ns, rfl, _⟩ := h
    rfl
  obtain ⟨a, ns, rfl, hS, h63, q⟩ := h
  have hr1 : Room 1 _ := hr.mono (by decide)
  have hr2 : Room 2 _ := hr.mono (by decide)
  have hr9 : Room 9 _ := hr.mono (by decide)
  have hr11 : Room 11 _ := hr.mono (by decide)
  have hr13 : Room 13 _ := hr.mono (by decide)
  have hr16 : Room 16 _ := hr.mono (by decide)
  have hr17 : Room 17 _ := hr.mono (by decide)
  have hu := hu60 hr
  refine ⟨_, (@pss_cons _ _ _ _ _ (@ps_set _ _ 1 _ _ _ _ scLaw.nd rfl (Or.inl rfl) (pe_call GAt hr1 (by rfl) T.gAt T.FAt.kp T.bAt .nil pass0 (@pa_cons _ _ _ _ _ (pv 0) (@pa_cons _ _ _ _ _ pe_int pa_nil (by rfl)) (by rfl))) rfl (Or.inl rfl)) (@pss_cons _ _ _ _ _ (ps_asg (pe_call GMa hr13 (by rfl) T.gMa T.FMa.kp T.bMa .nil pass0 (@pa_cons _ _ _ _ _ (pv 0) (@pa_cons _ _ _ _ _ pe_int (@pa_cons _ _ _ _ _ (@pe_op _ _ _ _ _ _ _ _ op_mod (pv 1) pe_int) (@pa_cons _ _ _ _ _ (@pe_op _ _ _ _ _ _ _ _ op_mod (@pe_op _ _ _ _ _ _ _ _ op_fdiv (pv 1) pe_int) pe_int) pa_nil (by rfl)) (by rfl)) (by rfl)) (by rfl))) (pg_tup (n := 2) rfl (pgs_cons (pg_name (i := 2) scLaw.nd rfl (Or.inl rfl)) (pgs_cons (pg_name (i := 3) scLaw.nd rfl (Or.inl rfl)) pgs_nil)))) (@pss_cons _ _ _ _ _ (@ps_set _ _ 4 _ _ _ _ scLaw.nd rfl (Or.inl rfl) (pe_make T.mkZ GZI hr2 rfl T.gZ T.bZI .nil pass0 (@pa_cons _ _ _ _ _ (pv 2) (@pa_cons _ _ _ _ _ (@pe_tup _ _ _ _ _ pa_nil) (@pa_cons _ _ _ _ _ (pe_callTy call_tuple_of (by rfl) B.tuple PyProof.Rows.boot_tuple (@pa_cons _ _ _ _ _ (pe_comp (NX := ["_law_script", "_law_head", "_law_places_here", "_law_deeds", "_law_machine_here", "_law_tie", "_law_worth", "_law_k", "_law_cell", "_law_one", "_law_other", "_law_at_here", "_law_name", "_law_low", "_law_high", "_law_start", "_law_value", "_law_found"]) (N := ["_law_script", "_law_head", "_law_places_here", "_law_deeds", "_law_machine_here", "_law_tie", "_law_worth", "_law_k", "_law_cell", "_law_one", "_law_other", "_law_at_here", "_law_name", "_law_low", "_law_high", "_law_start", "_law_value", "_law_found", "_law_deed_here"]) (ms := [true, true, true, true, true, true, true, true, true, true, true, true, true, true, true, true, true, true, false]) (ks := [18]) (out := defScope sLaw) (by exact ⟨rfl, by decide +kernel, by decide +kernel, by decide +kernel, by decide +kernel, by decide +kernel⟩) rfl rfl rfl (@pi_tup _ _ _ _ (pv 3)) (@sets_name 18) (by decide) (fun C ex s H => (pg_name (i := 18) nd_scLaw1 rfl (Or.inl rfl))) (fun C ex s H => pts_nil) (fun C ex s H => (pe_call GDo hr (by rfl) T.gDo T.FDo.kp T.bDo .nil pass0 (@pa_cons _ _ _ _ _ (pv 18) pa_nil (by rfl))))) pa_nil (by rfl))) pa_nil (by rfl)) (by rfl)) (by rfl))) rfl (Or.inl rfl)) (@pss_cons _ _ _ _ _ (@ps_set _ _ 5 _ _ _ _ scLaw.nd rfl (Or.inl rfl) (pe_call GOt hr9 (by rfl) T.gOt T.FOt.kp T.bOt .nil pass0 (@pa_cons _ _ _ _ _ (pv 4) pa_nil (by rfl))) rfl (Or.inl rfl)) (@pss_cons _ _ _ _ _ (@ps_if _ _ _ _ _ _ _ _ ((@pw_or _ _ _ _ _ _ _ (@pt_not _ _ _ _ (pt_val (pe_callB call_isinstC (by rfl) B.isinstance PyProof.Rows.boot_isinstance (@pa_cons _ _ _ _ _ (pv 5) (@pa_cons _ _ _ _ _ (pe_glob (v := V.ref CT) (by rfl) T.gJ rfl) pa_nil (by rfl)) (by rfl))))) (pw_or1 (@pt_cmpR _ _ _ _ _ _ _ _ op_ne (pe_methP0 (@pe_fld _ _ _ _ _ (pv 5) rfl) hr11) (pe_call GTx hr1 (by rfl) T.gTx T.FTx.kp T.bTx .nil pass0 (@pa_cons _ _ _ _ _ (pe_comp (NX := ["_law_script", "_law_head", "_law_places_here", "_law_deeds", "_law_machine_here", "_law_tie", "_law_worth", "_law_k", "_law_cell", "_law_one", "_law_other", "_law_at_here", "_law_name", "_law_low", "_law_high", "_law_start", "_law_value", "_law_found"]) (N := ["_law_script", "_law_head", "_law_places_here", "_law_deeds", "_law_machine_here", "_law_tie", "_law_worth", "_law_k", "_law_cell", "_law_one", "_law_other", "_law_at_here", "_law_name", "_law_low", "_law_high", "_law_start", "_law_value", "_law_found", "_law_place"]) (ms := [true, true, true, true, true, true, true, true, true, true, true, true, true, true, true, true, true, true, false]) (ks := [18]) (out := defScope sLaw) (by exact ⟨rfl, by decide +kernel, by decide +kernel, by decide +kernel, by decide +kernel, by decide +kernel⟩) rfl rfl rfl (@pi_tup _ _ _ _ (pv 2)) (@sets_name 18) (by decide) (fun C ex s H => (pg_name (i := 18) nd_scLaw2 rfl (Or.inl rfl))) (fun C ex s H => pts_nil) (fun C ex s H => (@pe_ix _ _ _ _ _ _ (rIxT K) ix_tup (pv 18) pe_int (fun _ _ => rfl)))) pa_nil (by rfl))) (nomark _))))).pt (@pss_one _ _ _ (@ps_ret _ _ _ _ pe_bl)) pss_nil) (@pss_cons _ _ _ _ _ (@ps_if _ _ _ _ _ _ _ _ ((@pw_or _ _ _ _ _ _ _ (@pt_not _ _ _ _ (pt_val (pe_callB call_isinst (by rfl) B.isinstance PyProof.Rows.boot_isinstance (@pa_cons _ _ _ _ _ (@pe_fld _ _ _ _ _ (pv 5) rfl) (@pa_cons _ _ _ _ _ (pe_bltn (v := V.ty "tuple") (by rfl) B.tuple PyProof.Rows.boot_tuple (by rfl)) pa_nil (by rfl)) (by rfl))))) (pw_or1 (@pt_cmpR _ _ _ _ _ _ _ _ (@op_neD _ hu) (pe_callTy call_list_of (by rfl) B.list PyProof.Rows.boot_list (@pa_cons _ _ _ _ _ (@pe_fld _ _ _ _ _ (pv 5) rfl) pa_nil (by rfl))) (pe_comp (NX := ["_law_script", "_law_head", "_law_places_here", "_law_deeds", "_law_machine_here", "_law_tie", "_law_worth", "_law_k", "_law_cell", "_law_one", "_law_other", "_law_at_here", "_law_name", "_law_low", "_law_high", "_law_start", "_law_value", "_law_found"]) (N := ["_law_script", "_law_head", "_law_places_here", "_law_deeds", "_law_machine_here", "_law_tie", "_law_worth", "_law_k", "_law_cell", "_law_one", "_law_other", "_law_at_here", "_law_name", "_law_low", "_law_high", "_law_start", "_law_value", "_law_found", "_law_deed_here"]) (ms := [true, true, true, true, true, true, true, true, true, true, true, true, true, true, true, true, true, true, false]) (ks := [18]) (out := defScope sLaw) (by exact ⟨rfl, by decide +kernel, by decide +kernel, by decide +kernel, by decide +kernel, by decide +kernel⟩) rfl rfl rfl (@pi_tup _ _ _ _ (pv 3)) (@sets_name 18) (by decide) (fun C ex s H => (pg_name (i := 18) nd_scLaw3 rfl (Or.inl rfl))) (fun C ex s H => pts_nil) (fun C ex s H => (@pe_tup _ _ _ _ _ (@pa_cons _ _ _ _ _ (@pe_ix _ _ _ _ _ _ (rIxT K) ix_tup (pv 18) pe_int (fun _ _ => rfl)) (@pa_cons _ _ _ _ _ (@pe_ix _ _ _ _ _ _ (rIxT K) ix_tup (pv 18) pe_int (fun _ _ => rfl)) pa_nil (by rfl)) (by rfl))))) (nomark _))))).pt (@pss_one _ _ _ (@ps_ret _ _ _ _ pe_bl)) pss_nil) (@pss_cons _ _ _ _ _ (@ps_set _ _ 6 _ _ _ _ scLaw.nd rfl (Or.inl rfl) (pe_methP (@pe_fld _ _ _ _ _ (pv 5) rfl) hr2 (@pa_cons _ _ _ _ _ (pe_methP (pv 4) hr16 (@pa_cons _ _ _ _ _ (pe_methP0 (pv 4) hr1) pa_nil (by rfl))) pa_nil (by rfl))) rfl (Or.inl rfl)) (@pss_cons _ _ _ _ _ (@ps_if _ _ _ _ _ _ _ _ ((@pw_or _ _ _ _ _ _ _ (@pt_cmpR _ _ _ _ _ _ _ _ op_ne (pe_methP0 (@pe_fld _ _ _ _ _ (pv 5) rfl) hr1) pe_str (nomark _)) (@pw_or _ _ _ _ _ _ _ (@pt_not _ _ _ _ (pt_val (pe_call GWh hr1 (by rfl) T.gWh T.FWh.kp T.bWh .nil pass0 (@pa_cons _ _ _ _ _ (pv 6) pa_nil (by rfl))))) (pw_or1 (@pt_cmpR _ _ _ _ _ _ _ _ op_ne (pv 6) pe_int (nomark _)))))).pt (@pss_one _ _ _ (@ps_ret _ _ _ _ pe_bl)) pss_nil) (@pss_cons _ _ _ _ _ (@ps_for _ _ _ _ _ _ _ _ PassesOwn.never rfl (pi_range1 rfl B.range (@pa_cons _ _ _ _ _ pe_int pa_nil (by rfl))) (pg_name (i := 7) scLaw.nd rfl (Or.inl rfl)) (@pss_cons _ _ _ _ _ (@ps_set _ _ 8 _ _ _ _ scLaw.nd rfl (Or.inl rfl) (pe_call GAt hr1 (by rfl) T.gAt T.FAt.kp T.bAt .nil pass0 (@pa_cons _ _ _ _ _ (pv 0) (@pa_cons _ _ _ _ _ (@pe_op _ _ _ _ _ _ _ _ op_add pe_int (pv 7)) pa_nil (by rfl)) (by rfl))) rfl (Or.inl rfl)) (@pss_cons _ _ _ _ _ (@ps_set _ _ 9 _ _ _ _ scLaw.nd rfl (Or.inl rfl) (pe_call GRm hr2 (by rfl) T.gRm T.FRm.kp T.bRm .nil pass0 (@pa_cons _ _ _ _ _ (pv 2) (@pa_cons _ _ _ _ _ (pv 8) pa_nil (by rfl)) (by rfl))) rfl (Or.inl rfl)) (@pss_cons _ _ _ _ _ (@ps_set _ _ 10 _ _ _ _ scLaw.nd rfl (Or.inl rfl) (pv 9) rfl (Or.inl rfl)) (@pss_cons _ _ _ _ _ (@ps_cut _ _ _ (@ps_if _ _ _ _ _ _ _ _ ((@pw_and _ _ _ _ _ _ _ (@pt_cmpR _ _ _ _ _ _ _ _ op_gt (@pe_op _ _ _ _ _ _ _ _ op_mod (pv 8) pe_int) pe_int (nomark _)) (pw_and1 (@pt_cmpR _ _ _ _ _ _ _ _ op_gt (pe_callB call_len_seq (by rfl) B.len PySem.boot_len (@pa_cons _ _ _ _ _ (pv 2) pa_nil (by rfl))) pe_int (nomark _))))).pt (@pss_cons _ _ _ _ _ (@ps_set _ _ 11 _ _ _ _ scLaw.nd rfl (Or.inl rfl) (@pe_op _ _ _ _ _ _ _ _ op_mod (@pe_op _ _ _ _ _ _ _ _ op_fdiv (pv 8) pe_int) (pe_callB call_len_seq (by rfl) B.len PySem.boot_len (@pa_cons _ _ _ _ _ (pv 2) pa_nil (by rfl)))) rfl (Or.inl rfl)) (@pss_cons _ _ _ _ _ (ps_asg (@pe_ix _ _ _ _ _ _ (rIxT K) ix_tup (pv 2) (pv 11) (fun _ _ => rfl)) (pg_tup (n := 4) rfl (pgs_cons (pg_name (i := 12) scLaw.nd rfl (Or.inl rfl)) (pgs_cons (pg_name (i := 13) scLaw.nd rfl (Or.inl rfl)) (pgs_cons (pg_name (i := 14) scLaw.nd rfl (Or.inl rfl)) (pgs_cons (pg_name (i := 15) scLaw.nd rfl (Or.inl rfl)) pgs_nil)))))) (@pss_cons _ _ _ _ _ (@ps_set _ _ 16 _ _ _ _ scLaw.nd rfl (Or.inl rfl) (@pe_op _ _ _ _ _ _ _ _ op_add (pv 13) (@pe_op _ _ _ _ _ _ _ _ op_mod (@pe_op _ _ _ _ _ _ _ _ op_fdiv (pv 8) pe_int) (@pe_op _ _ _ _ _ _ _ _ op_add (@pe_op _ _ _ _ _ _ _ _ op_sub (pv 14) (pv 13)) pe_int))) rfl (Or.inl rfl)) (@pss_one _ _ _ (@ps_set _ _ 10 _ _ _ _ scLaw.nd rfl (Or.inl rfl) (@pe_op _ _ _ _ _ _ _ _ op_catTA (@pe_op _ _ _ _ _ _ _ _ op_catTA (@pe_slice _ _ _ _ _ _ _ _ _ _ sl_tupA (pv 9) po_none (@po_some _ _ _ (pv 11))) (@pe_tup _ _ _ _ _ (@pa_cons _ _ _ _ _ (pv 16) pa_nil (by rfl)))) (@pe_slice _ _ _ _ _ _ _ _ _ _ sl_tupA (pv 9) (@po_some _ _ _ (@pe_op _ _ _ _ _ _ _ _ op_add (pv 11) pe_int)) po_none)) rfl (Or.inl rfl)))))) pss_nil)) (@pss_cons _ _ _ _ _ (@ps_set _ _ 17 _ _ _ _ scLaw.nd rfl (Or.inl rfl) (pe_call GTd hr17 (by rfl) T.gTd T.FTd.kp T.bTd .nil pass0 (@pa_cons _ _ _ _ _ (pv 4) (@pa_cons _ _ _ _ _ (pv 4) (@pa_cons _ _ _ _ _ (pv 5) (@pa_cons _ _ _ _ _ (pv 9) (@pa_cons _ _ _ _ _ (pv 10) pa_nil (by rfl)) (by rfl)) (by rfl)) (by rfl)) (by rfl))) rfl (Or.inl rfl)) (@pss_one _ _ _ (@ps_if _ _ _ _ _ _ _ _ ((@pw_or _ _ _ _ _ _ _ (@pt_not _ _ _ _ (pt_val (pe_callB call_isinst (by rfl) B.isinstance PyProof.Rows.boot_isinstance (@pa_cons _ _ _ _ _ (pv 17) (@pa_cons _ _ _ _ _ (pe_bltn (v := V.ty "bool") (by rfl) B.bool PyProof.Rows.boot_bool (by rfl)) pa_nil (by rfl)) (by rfl))))) (pw_or1 (@pt_cmpR _ _ _ _ _ _ _ _ op_ne (pv 17) (@pe_cmpR _ _ _ _ _ _ _ _ (@op_eqD _ hu) (pv 9) (pv 10) (nomark _)) (nomark _))))).pt (@pss_one _ _ _ (@ps_ret _ _ _ _ pe_bl)) pss_nil))))))) (by intro _; rfl)) (@pss_one _ _ _ (@ps_ret _ _ _ _ pe_bl))))))))))), ?_⟩
  refine ⟨_, rfl, a, ns, 0, rfl, hS, h63, by decide, by decide, fun hd H1 s1 => ?_⟩
  have b1 := Int.emod_nonneg hd (b := 4) (by decide)
  have b2 := Int.emod_lt_of_pos hd (b := 4) (by decide)
  have b3 := Int.emod_nonneg (hd / 4) (b := 7) (by decide)
  have b4 := Int.emod_lt_of_pos (hd / 4) (b := 7) (by decide)
  refine ⟨_, rfl, _, rfl, _, _, rfl, rfl, (by show (0 : Int) < 4; decide), _, rfl, _, _, rfl, rfl, ⟨by decide, by decide⟩, _, _, rfl, rfl, (by show (0 : Int) < 7; decide), a, ns, 2, hd % 4, hd / 4 % 7, rfl, s1.seq hS, h63, by decide, by decide, by omega, by omega, by omega, by omega, fun x H2 ps ds s2 i2 O l1 l2 => ?_⟩
  obtain ⟨x', tp, td, ys, us, ex, hx, hp, ip, hdd, idd⟩ := is_ma i2
  cases ex
  have t2 := s1.trans s2
  have few : ps.length ≤ 4 := by omega
  have ly : ys.length = ps.length := by rw [ip.length, List.length_map]
  have lu : us.length = ds.length := by rw [idd.length, List.length_map]
  refine ⟨x, _, rfl, hx, rfl, _, _, rfl, _, _, rfl, rfl, ?_⟩
  -- the machine
  refine ⟨_, rfl, Nat.zero_le _, fun e he => ?_⟩
  have s3 := same_new he (.tup [])
  refine ⟨_, rfl, td, rfl, ⟨_, s3.tup hdd⟩, comp_tup (xs := us) (fun i zs H' => Same (upd H2 e (.tup [])) H' ∧ Al (ObjD CK CC CY CD H') (ds.take i) zs) ⟨Same.refl _, Al.nil⟩ (fun i zs H' _ ⟨s', _⟩ => (s3.trans s').tup hdd) (fun i zs H' _ ⟨_, al⟩ => small1000 (by have h1 := al.len; rw [List.length_take] at h1; omega)) ?_ ?_⟩
  · rintro i y zs H' hy ⟨s', al⟩
    have hi : i < ds.length := by rw [← lu]; exact (List.getElem?_eq_some_iff.mp hy).1
    obtain ⟨v, ev, iv⟩ := iss_at idd hi
    rw [hy] at ev
    cases ev
    refine ⟨_, rfl, y, ds[i], _, rfl, (iv.same s3).same s', O.de _ (List.getElem_mem hi), fun p1 H3 s4 ob => ⟨s'.trans s4, ?_⟩⟩
    rw [List.take_add_one, List.getElem?_eq_getElem hi]
    exact Al.snoc (al.mono fun _ _ h => h.same s4) ob
  rintro zs H3 ⟨s4, al⟩ D hD
  rw [List.take_of_length_le (by omega)] at al
  refine ⟨D, _, rfl, .inl ⟨SqL.of upd_same, fun t ht => ?_⟩⟩
  have u1 := (same_new hD (.lst zs)).trans (same_new ht (.tup zs))
  have et : upd (upd H3 D (.lst zs)) t (.tup zs) t = some (.tup zs) := upd_same
  have t4 := s3.trans (s4.trans u1)
  have al4 := al.mono fun _ _ (h : ObjD CK CC CY CD H3 _ _) => h.same u1
  generalize upd (upd H3 D (.lst zs)) t (.tup zs) = H4 at u1 et t4 al4 ⊢
  refine fun m dx hm hdx hxd => ⟨m, dx, _, _, _, rfl, upd_same, fun H5 h3 h4 => ⟨rfl, ?_⟩⟩
  have s5 := same_made2 hm hdx hxd h4
  have t5 := t4.trans s5
  have M : ObjM K CK CC CY CD CM H5 ps ds m dx tp t (.ref e) ys zs := ⟨h3, t5.tup hp, ip.same t5, s5 _ _ et, al4.mono fun _ _ h => h.same s5⟩
  clear h3 h4 al al4 et
  have hp5 := t5.tup hp
  have ip5 := ip.same t5
  have hd5 := t5.tup hdd
  have id5 := idd.same t5
  have hS5 := (t2.trans t5).seq hS
  clear s5 t5 u1 t4 s4 s3
  -- the tie
  have n8 : ∀ p ∈ ps, p.n.length ≤ 8 := fun p hp => nam8 (O.nam p hp)
  refine ⟨_, rfl, m, dx, tp, t, .ref e, ys, zs, ps, ds, rfl, M, few, by omega, n8, fun q1 dq sv fv tt ws H6 s6 OT => ?_⟩
  have M6 := M.same s6
  have hp6 := s6.tup hp5
  have ip6 := ip5.same s6
  have hd6 := s6.tup hd5
  have id6 := id5.same s6
  have hS6 := s6.seq hS5
  clear M hp5 ip5 hd5 id5 hS5
  refine ⟨_, rfl, _, CT, .ref CT, true, rfl, TyOf.ins OT.at_ T.ct.cl T.hc T.hn T.ht T.hm, kit_self K CT, _, rfl, ite2 (fun c => absurd c (by decide)) (fun _ => ?_)⟩
  obtain ⟨pa, da, fa, rfl, ha, la⟩ := own_at OT.say
  have ln : (ps.map (·.n)).length ≤ 4 := by rw [List.length_map]; exact few
  have m8 : ∀ x ∈ ps.map (·.n), x.length ≤ 8 := fun x hx => by
    obtain ⟨p, hp, rfl⟩ := List.mem_map.mp hx
    exact n8 p hp
  refine ⟨_, rfl, q1, _, dq, _, _, rfl, OT.at_, T.ct.cl, T.ct.n1, tie_s _ _ _, pa, _, da, fa, _, rfl, ha, la, shownY T 4 _, .ref pa, _, rfl, rfl, OT.say, ln, m8, by omega, fun H7 s7 => ?_⟩
  have hp7 := s7.tup hp6
  have ip7 := ip6.same s7
  refine ⟨_, rfl, tp, rfl, ⟨_, hp7⟩, comp_tup (xs := ys) (fun i ws H' => ws = ((ps.map (·.n)).take i).map V.str ∧ H' = H7) ⟨rfl, rfl⟩ (fun i ws H' _ ⟨_, e'⟩ => by rw [e']; exact hp7) (fun i ws H' _ ⟨e', _⟩ => by rw [e', List.length_map]; exact small1000 (by rw [List.length_take, List.length_map]; omega)) ?_ ?_⟩
  · rintro i y ws H' hy ⟨rfl, rfl⟩
    have hi : i < ps.length := by rw [← ly]; exact (List.getElem?_eq_some_iff.mp hy).1
    obtain ⟨v, ev, iv⟩ := iss_at ip7 hi
    rw [hy] at ev
    cases ev
    obtain ⟨r, rfl, hr'⟩ := is_pl iv
    refine ⟨_, rfl, r, _, _, _, rfl, rfl, hr', atI_nat (j := 0) rfl, ?_, rfl⟩
    rw [List.take_add_one, List.getElem?_map, List.getElem?_eq_getElem hi, List.map_append]
    rfl
  rintro ws' H8 ⟨rfl, rfl⟩ D2 hD2
  rw [List.take_of_length_le (by rw [List.length_map]; omega)]
  have s8 := same_new hD2 (.lst ((ps.map (·.n)).map V.str))
  have e8 : upd H8 D2 (.lst ((ps.map (·.n)).map V.str)) D2 = some (.lst ((ps.map (·.n)).map V.str)) := upd_same
  generalize upd H8 D2 (.lst ((ps.map (·.n)).map V.str)) = H9 at s8 e8 ⊢
  refine ⟨D2, ps.map (·.n), rfl, SqL.of e8, m8, by omega, fun HA sA => ⟨rfl, _, rfl, ?_⟩⟩
  rw [decide_eq_true rfl]
  refine iteF ?_
  have tA := s7.trans (s8.trans sA)
  have OTA := OT.same tA
  have MA := M6.same tA
  have hpA := tA.tup hp6
  have ipA := ip6.same tA
  have hdA := tA.tup hd6
  have idA := id6.same tA
  have hSA := tA.seq hS6
  clear M6 hp6 ip6 hd6 id6 hS6 hp7 ip7 s8 e8 s7 OT ha
  refine ⟨_, rfl, q1, _, dq, _, _, rfl, OTA.at_, T.ct.cl, T.ct.n2, tie_t _ _ _, _, _, _, true, rfl, TyOf.tup OTA.tab, rfl, _, rfl, ite2 (fun c => absurd c (by decide)) (fun _ => ?_)⟩
  refine ⟨_, rfl, q1, _, dq, _, _, rfl, OTA.at_, T.ct.cl, T.ct.n2, tie_t _ _ _, tt, _, rfl, .inr (SqT.of OTA.tab), fun tl htl => ?_⟩
  have s9 := same_new htl (.lst ws)
  have e9 : upd HA tl (.lst ws) tl = some (.lst ws) := upd_same
  generalize upd HA tl (.lst ws) = HB at s9 e9 ⊢
  have hdB := s9.tup hdA
  have idB := idA.same s9
  refine ⟨_, rfl, td, rfl, ⟨_, hdB⟩, comp_tup (xs := us) (fun i ws H' => Same HB H' ∧ Iss K H' ((ds.take i).map prD) ws) ⟨Same.refl _, .nil⟩ (fun i ws H' _ ⟨e', _⟩ => e'.tup hdB) (fun i ws H' _ ⟨_, e'⟩ => by rw [e'.length, List.length_map]; exact small1000 (by rw [List.length_take]; omega)) ?_ ?_⟩
  · rintro i u ws H' hu ⟨g1, g2⟩
    have hi : i < ds.length := by rw [← lu]; exact (List.getElem?_eq_some_iff.mp hu).1
    obtain ⟨v, ev, iv⟩ := iss_at idB hi
    rw [hu] at ev
    cases ev
    obtain ⟨pd, aw, tc, cs, rfl, htd, _⟩ := is_de iv
    have htd := g1.tup htd
    refine ⟨_, rfl, pd, _, _, _, rfl, rfl, htd, atI_nat (j := 0) rfl, _, rfl, pd, _, _, _, rfl, rfl, htd, atI_nat (j := 0) rfl, by show 2 ≤ sizeLine; decide, fun t ht => ?_⟩
    have s' := same_new ht (.tup [V.str ds[i].nm, .str ds[i].nm])
    refine ⟨g1.trans s', ?_⟩
    rw [List.take_add_one, List.getElem?_eq_getElem hi, List.map_append]
    exact Iss.snoc (pr_is (SqT.of upd_same)) (g2.same s')
  rintro w2 HC ⟨sC, iC⟩ D3 hD3
  rw [lu, List.take_of_length_le (Nat.le_refl _)] at iC
  have sD := same_new hD3 (.lst w2)
  have eD : upd HC D3 (.lst w2) D3 = some (.lst w2) := upd_same
  have iD := iC.same sD
  generalize upd HC D3 (.lst w2) = HD at sD eD iD ⊢
  have tD := s9.trans (sC.trans sD)
  have OTD := OTA.same tD
  refine ⟨.lst (ds.map prD), .lst (ds.map prD), ?_, ?_, rfl, rfl, ?_, _, rfl, ?_⟩
  · rw [Is]
    exact ⟨tl, ws, rfl, SqL.of (sD _ _ (sC _ _ e9)), OTD.its⟩
  · rw [Is]
    exact ⟨D3, w2, rfl, SqL.of eD, iD⟩
  · have := dep_prs ds
    rw [dep]
    omega
  rw [dEq_refl]
  refine iteF ?_
  have MD := MA.same tD
  have hpD := tD.tup hpA
  have ipD := ipA.same tD
  have hSD := tD.seq hSA
  clear MA hpA ipA hdA idA hSA OTA eD iD e9 hdB idB
  have R0 : RmOk ps (ps.map (·.st)) := ⟨by rw [List.length_map], few, fun r hr => by
    obtain ⟨p, hp, rfl⟩ := List.mem_map.mp hr
    have o := O.pl p hp
    have := o.a; have := o.b; have := o.d; have := o.e; have := o.f
    omega⟩
  have num_s : (numF (.int 0)).lookup ("shown" : Str) = none := by unfold numF; rw [lookup_putF, if_neg (by decide +kernel)]; rfl
  obtain ⟨pf, df, rfl, hpf⟩ := OTD.fal
  refine ⟨_, rfl, q1, _, dq, _, _, rfl, OTD.at_, T.ct.cl, T.ct.n3, tie_f _ _ _, pf, _, df, _, _, rfl, hpf, num_w _, MW, _, rfl, m, _, dx, _, _, rfl, MD.at_, mac_no _ _ _ (by decide +kernel) (by decide +kernel) (by decide +kernel), MV, _, rfl, m, _, dx, _, _, rfl, MD.at_, mac_no _ _ _ (by decide +kernel) (by decide +kernel) (by decide +kernel), MF, m, dx, tp, t, _, ys, zs, ps, ds, rfl, MD, by omega, fun r0 HE sE eE => ?_⟩
  refine ⟨m, dx, tp, t, r0, _, ys, zs, ps, ds, _, rfl, MD.same sE, SqT.of eE, R0, fun dv HF sF _ eF => ?_⟩
  have tF := sE.trans sF
  refine ⟨.ref pf, dv, .num 0, _, _, _, rfl, rfl, ⟨pf, df, rfl, tF _ _ hpf⟩, eF, R0.vals, ⟨by decide, by decide⟩, by decide, by decide, ?_⟩
  have OTF := OTD.same tF
  have MF' := MD.same tF
  have hpF := tF.tup hpD
  have ipF := ipD.same tF
  have hSF := tF.seq hSD
  have hpf := tF _ _ hpf
  clear MD hpD ipD hSD OTD eE eF
  refine ⟨_, rfl, q1, _, dq, _, _, rfl, OTF.at_, T.ct.cl, T.ct.n3, tie_f _ _ _, pf, _, df, _, _, rfl, hpf, num_s, MZ, pf, df, rfl, hpf, rfl, _, rfl, ?_⟩
  rw [decide_eq_true rfl]
  refine iteF ⟨_, rfl, 0, rfl, _, rfl, ite2 (fun c => absurd c (by decide)) (fun _ => ⟨_, rfl, rfl, _, rfl, ?_⟩)⟩
  refine ite2 (fun c => absurd c (by show ¬ (!decide (V.int 0 = V.int 0)) = true; decide)) (fun _ => ?_)
  refine ⟨6, rfl, by decide, by decide, for_range (n := 6) (fun i σ G => ∃ (v7 v8 v9 v10 v11 v12 v13 v14 v15 v16 v17 : Option V), σ = [some (.ref a), some (.int hd), some (.ref tp), some (.ref td), some (.ref m), some (.ref q1), some (.int 0), v7, v8, v9, v10, v11, v12, v13, v14, v15, v16, v17] ∧ Same HF G) ⟨none, none, none, none, none, none, none, none, none, none, none, rfl, Same.refl _⟩ ?_ ?_⟩
  · rintro i σ G hi ⟨v7, v8, v9, v10, v11, v12, v13, v14, v15, v16, v17, rfl, g⟩
    refine ⟨_, rfl, _, rfl, _, _, rfl, rfl, a, ns, _, rfl, g.seq hSF, h63, by omega, by omega, fun c GA sA => ?_⟩
    have gA := g.trans sA
    refine ⟨_, rfl, _, rfl, tp, c, ys, ps, rfl, gA.tup hpF, ipF.same gA, few, O.pl, fun z GB rm sB eB R => ?_⟩
    refine ⟨_, rfl, ?_⟩
    have gB := gA.trans sB
    refine ⟨fun σ G' => ∃ (zo : Addr) (ro : List Int) (v7 v11 v12 v13 v14 v15 v16 : Option V), σ = [some (.ref a), some (.int hd), some (.ref tp), some (.ref td), some (.ref m), some (.ref q1), some (.int 0), v7, some (.int c), some (.ref z), some (.ref zo), v11, v12, v13, v14, v15, v16, v17] ∧ Same GB G' ∧ SqT K G' zo (ro.map V.int) ∧ RmOk ps ro, ?_, ?_⟩
    · refine ⟨_, rfl, _, _, rfl, rfl, (by show (0 : Int) < 3; decide), _, _, rfl, rfl, _, rfl, ite2 (fun _ => ?_) (fun _ => iteF ⟨z, rm, _, _, _, _, _, _, _, rfl, Same.refl _, SqT.of eB, R⟩)⟩
      refine ⟨_, rfl, tp, ys, rfl, .inr (gB.tup hpF), _, _, rfl, rfl, _, rfl, ite2 (fun c0 => ?_) (fun _ => ⟨z, rm, _, _, _, _, _, _, _, rfl, Same.refl _, SqT.of eB, R⟩)⟩
      have y0 : (0 : Int) < (ys.length : Int) := of_decide_eq_true c0
      obtain ⟨j, hj⟩ : ∃ j : Nat, c / 3 % (ys.length : Int) = (j : Int) := ⟨_, (Int.toNat_of_nonneg (Int.emod_nonneg _ (by omega))).symm⟩
      have hj2 : j < ps.length := by
        have := Int.emod_lt_of_pos (c / 3) y0
        omega
      refine ⟨_, rfl, _, _, rfl, rfl, ⟨by decide, by decide⟩, _, rfl, tp, ys, rfl, .inr (gB.tup hpF), _, _, rfl, rfl, y0, ?_⟩
      obtain ⟨v, ev, iv⟩ := iss_at (ipF.same gB) hj2
      obtain ⟨r, rfl, hr'⟩ := is_pl iv
      have o := O.pl _ (List.getElem_mem hj2)
      generalize ps[j] = p at iv hr' o
      have oa := o.a; have ob := o.b; have oc := o.c; have od := o.d
      refine ⟨_, rfl, _, rfl, tp, _, _, _, rfl, rfl, gB.tup hpF, (show atI ys (c / 3 % (ys.length : Int)) = _ by rw [hj]; exact atI_nat (j := j) ev), r, _, rfl, hr', rfl, _, _, rfl, _, _, rfl, _, _, rfl, _, _, rfl, rfl, ?_⟩
      refine ⟨_, rfl, _, rfl, _, _, rfl, rfl, ⟨by decide, by decide⟩, _, rfl, _, rfl, _, _, rfl, rfl, _, _, rfl, rfl, _, _, rfl, rfl, (by show (0 : Int) < p.hi - p.lo + 1; omega), _, _, rfl, rfl, ?_⟩
      have w1 := Int.emod_nonneg (c / 9) (b := p.hi - p.lo + 1) (by omega)
      have w2 := Int.emod_lt_of_pos (c / 9) (b := p.hi - p.lo + 1) (by omega)
      have lr : rm.length = ps.length := R.len
      have lm : (rm.map V.int).length = ps.length := by rw [List.length_map, lr]
      have e1 : cutV (rm.map V.int) none (some (c / 3 % (ys.length : Int))) = (rm.take j).map V.int := by rw [hj, cut_to _ _ (by omega), List.map_take]
      have e2 : cutV (rm.map V.int) (some (c / 3 % (ys.length : Int) + 1)) none = (rm.drop (j + 1)).map V.int := by
        rw [hj, show (j : Int) + 1 = ((j + 1 : Nat) : Int) by omega, cut_from _ _ (by omega), List.map_drop]
      refine ⟨_, rfl, _, rfl, _, rfl, z, _, rfl, SqT.of eB, fun p1 G1 r1 h1 => ?_⟩
      have h1 : SqT K G1 p1 ((rm.take j).map V.int) := by rw [← e1]; exact h1
      refine ⟨_, rfl, by show 1 ≤ sizeLine; decide, fun p2 hp2 => ?_⟩
      have r2 := same_new hp2 (.tup [V.int (p.lo + c / 9 % (p.hi - p.lo + 1))])
      have h2 : upd G1 p2 (.tup [V.int (p.lo + c / 9 % (p.hi - p.lo + 1))]) p2 = some (.tup [V.int (p.lo + c / 9 % (p.hi - p.lo + 1))]) := upd_same
      refine ⟨p1, p2, (rm.take j).map V.int, [V.int (p.lo + c / 9 % (p.hi - p.lo + 1))], rfl, rfl, r2.tup h1, SqT.of h2, small9 (by rw [List.length_map, List.length_take, List.length_singleton]; omega), fun p3 G3 r3 h3 => ?_⟩
      have t3 := r1.trans (r2.trans r3)
      refine ⟨_, rfl, _, rfl, _, _, rfl, rfl, _, rfl, z, _, rfl, SqT.of (t3 _ _ eB), fun p4 G4 r4 h4 => ?_⟩
      have h4 : SqT K G4 p4 ((rm.drop (j + 1)).map V.int) := by rw [← e2]; exact h4
      refine ⟨p3, p4, (rm.take j).map V.int ++ [V.int (p.lo + c / 9 % (p.hi - p.lo + 1))], (rm.drop (j + 1)).map V.int, rfl, rfl, r4.tup h3, h4, small9 (by rw [List.length_append, List.length_map, List.length_take, List.length_singleton, List.length_map, List.length_drop]; omega), fun p5 G5 r5 h5 => ?_⟩
      refine ⟨p5, rm.take j ++ [p.lo + c / 9 % (p.hi - p.lo + 1)] ++ rm.drop (j + 1), _, _, _, _, _, _, _, rfl, t3.trans (r4.trans r5), ?_, ⟨?_, few, ?_⟩⟩
      · rw [List.map_append, List.map_append]
        exact h5
      · rw [List.length_append, List.length_append, List.length_take, List.length_drop, List.length_singleton]
        omega
      · intro r hr
        rcases List.mem_append.mp hr with hr | hr
        · rcases List.mem_append.mp hr with hr | hr
          · exact R.small r (List.mem_of_mem_take hr)
          · rw [List.mem_singleton] at hr
            omega
        · exact R.small r (List.mem_of_mem_drop hr)
    · rintro σ G' ⟨zo, ro, v7, v11, v12, v13, v14, v15, v16, rfl, sC, hz, RO⟩
      have gC := gB.trans sC
      refine ⟨_, rfl, _, rfl, _, rfl, _, rfl, _, rfl, m, dx, tp, t, _, ys, zs, ps, ds, q1, dq, _, _, tt, ws, z, zo, rm, ro, rfl, MF'.same gC, OTF.same gC, SqT.of (sC _ _ eB), hz, R, RO, O.pn, O.nam, fun GD sD => ?_⟩
      refine ⟨_, rfl, _, _, _, true, rfl, TyOf.bl _, rfl, _, rfl, ite2 (fun c => absurd c (by decide)) (fun _ => ?_)⟩
      refine ⟨_, rfl, _, rfl, _, rfl, rmD rm, rmD ro, rm_is ((sC.trans sD).tup (SqT.of eB)), rm_is (sD.tup hz), rfl, rfl, dep_rm _, rfl, _, rfl, ?_⟩
      rw [dEq_rm, decide_eq_true rfl]
      exact iteF ⟨_, _, _, _, _, _, _, _, _, _, _, rfl, gC.trans sD⟩
  · rintro σ G ⟨v7, v8, v9, v10, v11, v12, v13, v14, v15, v16, v17, rfl, g⟩
    exact q G
end
end Nw

set_option Elab.async false
set_option linter.all false
set_option maxRecDepth 100000
set_option maxHeartbeats 4000000
namespace Nw
open PySem L2
theorem all_mk {l : PySem.W.OpenLaw} {w : World} {K : PySem.W.Frag} {h : Heap} {mg : Str → Option Value} {fa CN CM CP CI CX CC CU CA CY CQ CW CE CV CB CO CT CD CZ CJ fNI fMI fTI fPI fOI fCI fUI fAI fDI fZI fJI fNW fMW fPW fIW fXW fYH fLH fAH fEH fUH fBH fOH fTH fZV fZF fNS fMS fYS fES fBS fAt fBe fDr fNa fSu fHa fWh fSg fTo fPl fCg fDe fMa fCo fDo fRm fOt fOs fTd fTx fCp fBr fL : Addr} {odNI anNI odMI anMI odTI anTI odPI anPI odOI anOI odCI anCI odUI anUI odAI anAI odDI anDI odZI anZI odJI anJI odNW anNW odMW anMW odPW anPW odIW anIW odXW anXW odYH anYH odLH anLH odAH anAH odEH anEH odUH anUH odBH anBH odOH anOH odTH anTH odZV anZV odZF anZF odNS anNS odMS anMS odYS anYS odES anES odBS anBS odAt anAt odBe anBe odDr anDr odNa anNa odSu anSu odHa anHa odWh anWh odSg anSg odTo anTo odPl anPl odCg anCg odDe anDe odMa anMa odCo anCo odDo anDo odRm anRm odOt anOt odOs anOs odTd anTd odTx anTx odCp anCp odBr anBr odL anL : Option Addr} {slNI slMI slTI slPI slOI slCI slUI slAI slDI slZI slJI slNW slMW slPW slIW slXW slYH slLH slAH slEH slUH slBH slOH slTH slZV slZF slNS slMS slYS slES slBS slAt slBe slDr slNa slSu slHa slWh slSg slTo slPl slCg slDe slMa slCo slDo slRm slOt slOs slTd slTx slCp slBr slL : Array (Option Value)} {ocNI kVNI dcNI pmNI cdNI ctNI ocMI kVMI dcMI pmMI cdMI ctMI ocTI kVTI dcTI pmTI cdTI ctTI ocPI kVPI dcPI pmPI cdPI ctPI ocOI kVOI dcOI pmOI cdOI ctOI ocCI kVCI dcCI pmCI cdCI ctCI ocUI kVUI dcUI pmUI cdUI ctUI ocAI kVAI dcAI pmAI cdAI ctAI ocDI kVDI dcDI pmDI cdDI ctDI ocZI kVZI dcZI pmZI cdZI ctZI ocJI kVJI dcJI pmJI cdJI ctJI ocNW kVNW dcNW pmNW cdNW ctNW ocMW kVMW dcMW pmMW cdMW ctMW ocPW kVPW dcPW pmPW cdPW ctPW ocIW kVIW dcIW pmIW cdIW ctIW ocXW kVXW dcXW pmXW cdXW ctXW ocYH kVYH dcYH pmYH cdYH ctYH ocLH kVLH dcLH pmLH cdLH ctLH ocAH kVAH dcAH pmAH cdAH ctAH ocEH kVEH dcEH pmEH cdEH ctEH ocUH kVUH dcUH pmUH cdUH ctUH ocBH kVBH dcBH pmBH cdBH ctBH ocOH kVOH dcOH pmOH cdOH ctOH ocTH kVTH dcTH pmTH cdTH ctTH ocZV kVZV dcZV pmZV cdZV ctZV ocZF kVZF dcZF pmZF cdZF ctZF ocNS kVNS dcNS pmNS cdNS ctNS ocMS kVMS dcMS pmMS cdMS ctMS ocYS kVYS dcYS pmYS cdYS ctYS ocES kVES dcES pmES cdES ctES ocBS kVBS dcBS pmBS cdBS ctBS ocAt kVAt dcAt pmAt cdAt ctAt ocBe kVBe dcBe pmBe cdBe ctBe ocDr kVDr dcDr pmDr cdDr ctDr ocNa kVNa dcNa pmNa cdNa ctNa ocSu kVSu dcSu pmSu cdSu ctSu ocHa kVHa dcHa pmHa cdHa ctHa ocWh kVWh dcWh pmWh cdWh ctWh ocSg kVSg dcSg pmSg cdSg ctSg ocTo kVTo dcTo pmTo cdTo ctTo ocPl kVPl dcPl pmPl cdPl ctPl ocCg kVCg dcCg pmCg cdCg ctCg ocDe kVDe dcDe pmDe cdDe ctDe ocMa kVMa dcMa pmMa cdMa ctMa ocCo kVCo dcCo pmCo cdCo ctCo ocDo kVDo dcDo pmDo cdDo ctDo ocRm kVRm dcRm pmRm cdRm ctRm ocOt kVOt dcOt pmOt cdOt ctOt ocOs kVOs dcOs pmOs cdOs ctOs ocTd kVTd dcTd pmTd cdTd ctTd ocTx kVTx dcTx pmTx cdTx ctTx ocCp kVCp dcCp pmCp cdCp ctCp ocBr kVBr dcBr pmBr cdBr ctBr ocL kVL dcL pmL cdL ctL : Value} (X : K.In h) (G : h.Ns mainGlobals mg) (hfa : mg "law" = some (.ref fa))
    (aN : PySem.W.nsIn K mainGlobals "Number" = some (some (.ref CN)))
    (pgN : PySem.W.plainGet K CN Str.empty = true)
    (hdN : PySem.W.hasDictIn K CN = true)
    (poN : PySem.W.plainOver K CN = true)
    (saN : PySem.W.findIn K (.ref CN) "__setattr__" = some (some (.builtin "object.__setattr__")))
    (mkN : PySem.W.makesIn K CN = true)
    (kcN : PySem.W.keepIn K (.ref CN) = true)
    (nN_number : PySem.W.findIn K (.ref CN) "number" = some none)
    (aM : PySem.W.nsIn K mainGlobals "Named" = some (some (.ref CM)))
    (pgM : PySem.W.plainGet K CM Str.empty = true)
    (hdM : PySem.W.hasDictIn K CM = true)
    (poM : PySem.W.plainOver K CM = true)
    (saM : PySem.W.findIn K (.ref CM) "__setattr__" = some (some (.builtin "object.__setattr__")))
    (mkM : PySem.W.makesIn K CM = true)
    (kcM : PySem.W.keepIn K (.ref CM) = true)
    (nM_name : PySem.W.findIn K (.ref CM) "name" = some none)
    (aP : PySem.W.nsIn K mainGlobals "Plus" = some (some (.ref CP)))
    (pgP : PySem.W.plainGet K CP Str.empty = true)
    (hdP : PySem.W.hasDictIn K CP = true)
    (poP : PySem.W.plainOver K CP = true)
    (saP : PySem.W.findIn K (.ref CP) "__setattr__" = some (some (.builtin "object.__setattr__")))
    (mkP : PySem.W.makesIn K CP = true)
    (kcP : PySem.W.keepIn K (.ref CP) = true)
    (nP_one : PySem.W.findIn K (.ref CP) "one" = some none)
    (nP_other : PySem.W.findIn K (.ref CP) "other" = some none)
    (aI : PySem.W.nsIn K mainGlobals "Minus" = some (some (.ref CI)))
    (pgI : PySem.W.plainGet K CI Str.empty = true)
    (hdI : PySem.W.hasDictIn K CI = true)
    (poI : PySem.W.plainOver K CI = true)
    (saI : PySem.W.findIn K (.ref CI) "__setattr__" = some (some (.builtin "object.__setattr__")))
    (mkI : PySem.W.makesIn K CI = true)
    (kcI : PySem.W.keepIn K (.ref CI) = true)
    (nI_one : PySem.W.findIn K (.ref CI) "one" = some none)
    (nI_other : PySem.W.findIn K (.ref CI) "other" = some none)
    (aX : PySem.W.nsIn K mainGlobals "Times" = some (some (.ref CX)))
    (pgX : PySem.W.plainGet K CX Str.empty = true)
    (hdX : PySem.W.hasDictIn K CX = true)
    (poX : PySem.W.plainOver K CX = true)
    (saX : PySem.W.findIn K (.ref CX) "__setattr__" = some (some (.builtin "object.__setattr__")))
    (mkX : PySem.W.makesIn K CX = true)
    (kcX : PySem.W.keepIn K (.ref CX) = true)
    (nX_one : PySem.W.findIn K (.ref CX) "one" = some none)
    (nX_other : PySem.W.findIn K (.ref CX) "other" = some none)
    (aC : PySem.W.nsIn K mainGlobals "Change" = some (some (.ref CC)))
    (pgC : PySem.W.plainGet K CC Str.empty = true)
    (hdC : PySem.W.hasDictIn K CC = true)
    (poC : PySem.W.plainOver K CC = true)
    (saC : PySem.W.findIn K (.ref CC) "__setattr__" = some (some (.builtin "object.__setattr__")))
    (mkC : PySem.W.makesIn K CC = true)
    (kcC : PySem.W.keepIn K (.ref CC) = true)
    (nC_name : PySem.W.findIn K (.ref CC) "name" = some none)
    (aU : PySem.W.nsIn K mainGlobals "Put" = some (some (.ref CU)))
    (pgU : PySem.W.plainGet K CU Str.empty = true)
    (hdU : PySem.W.hasDictIn K CU = true)
    (poU : PySem.W.plainOver K CU = true)
    (saU : PySem.W.findIn K (.ref CU) "__setattr__" = some (some (.builtin "object.__setattr__")))
    (mkU : PySem.W.makesIn K CU = true)
    (kcU : PySem.W.keepIn K (.ref CU) = true)
    (nU_name : PySem.W.findIn K (.ref CU) "name" = some none)
    (nU_one : PySem.W.findIn K (.ref CU) "one" = some none)
    (aA : PySem.W.nsIn K mainGlobals "Any" = some (some (.ref CA)))
    (pgA : PySem.W.plainGet K CA Str.empty = true)
    (hdA : PySem.W.hasDictIn K CA = true)
    (poA : PySem.W.plainOver K CA = true)
    (saA : PySem.W.findIn K (.ref CA) "__setattr__" = some (some (.builtin "object.__setattr__")))
    (mkA : PySem.W.makesIn K CA = true)
    (kcA : PySem.W.keepIn K (.ref CA) = true)
    (nA_name : PySem.W.findIn K (.ref CA) "name" = some none)
    (nA_one : PySem.W.findIn K (.ref CA) "one" = some none)
    (nA_other : PySem.W.findIn K (.ref CA) "other" = some none)
    (aY : PySem.W.nsIn K mainGlobals "Saying" = some (some (.ref CY)))
    (pgY : PySem.W.plainGet K CY Str.empty = true)
    (hdY : PySem.W.hasDictIn K CY = true)
    (poY : PySem.W.plainOver K CY = true)
    (saY : PySem.W.findIn K (.ref CY) "__setattr__" = some (some (.builtin "object.__setattr__")))
    (mkY : PySem.W.makesIn K CY = true)
    (kcY : PySem.W.keepIn K (.ref CY) = true)
    (inY : PySem.W.findIn K (.ref CY) "__init__" = some (some (.builtin "object.__init__")))
    (aQ : PySem.W.nsIn K mainGlobals "Less" = some (some (.ref CQ)))
    (pgQ : PySem.W.plainGet K CQ Str.empty = true)
    (hdQ : PySem.W.hasDictIn K CQ = true)
    (poQ : PySem.W.plainOver K CQ = true)
    (saQ : PySem.W.findIn K (.ref CQ) "__setattr__" = some (some (.builtin "object.__setattr__")))
    (mkQ : PySem.W.makesIn K CQ = true)
    (kcQ : PySem.W.keepIn K (.ref CQ) = true)
    (nQ_one : PySem.W.findIn K (.ref CQ) "one" = some none)
    (nQ_other : PySem.W.findIn K (.ref CQ) "other" = some none)
    (aW : PySem.W.nsIn K mainGlobals "AtMost" = some (some (.ref CW)))
    (pgW : PySem.W.plainGet K CW Str.empty = true)
    (hdW : PySem.W.hasDictIn K CW = true)
    (poW : PySem.W.plainOver K CW = true)
    (saW : PySem.W.findIn K (.ref CW) "__setattr__" = some (some (.builtin "object.__setattr__")))
    (mkW : PySem.W.makesIn K CW = true)
    (kcW : PySem.W.keepIn K (.ref CW) = true)
    (nW_one : PySem.W.findIn K (.ref CW) "one" = some none)
    (nW_other : PySem.W.findIn K (.ref CW) "other" = some none)
    (aE : PySem.W.nsIn K mainGlobals "Equal" = some (some (.ref CE)))
    (pgE : PySem.W.plainGet K CE Str.empty = true)
    (hdE : PySem.W.hasDictIn K CE = true)
    (poE : PySem.W.plainOver K CE = true)
    (saE : PySem.W.findIn K (.ref CE) "__setattr__" = some (some (.builtin "object.__setattr__")))
    (mkE : PySem.W.makesIn K CE = true)
    (kcE : PySem.W.keepIn K (.ref CE) = true)
    (nE_one : PySem.W.findIn K (.ref CE) "one" = some none)
    (nE_other : PySem.W.findIn K (.ref CE) "other" = some none)
    (aV : PySem.W.nsIn K mainGlobals "Unlike" = some (some (.ref CV)))
    (pgV : PySem.W.plainGet K CV Str.empty = true)
    (hdV : PySem.W.hasDictIn K CV = true)
    (poV : PySem.W.plainOver K CV = true)
    (saV : PySem.W.findIn K (.ref CV) "__setattr__" = some (some (.builtin "object.__setattr__")))
    (mkV : PySem.W.makesIn K CV = true)
    (kcV : PySem.W.keepIn K (.ref CV) = true)
    (nV_one : PySem.W.findIn K (.ref CV) "one" = some none)
    (nV_other : PySem.W.findIn K (.ref CV) "other" = some none)
    (aB : PySem.W.nsIn K mainGlobals "Both" = some (some (.ref CB)))
    (pgB : PySem.W.plainGet K CB Str.empty = true)
    (hdB : PySem.W.hasDictIn K CB = true)
    (poB : PySem.W.plainOver K CB = true)
    (saB : PySem.W.findIn K (.ref CB) "__setattr__" = some (some (.builtin "object.__setattr__")))
    (mkB : PySem.W.makesIn K CB = true)
    (kcB : PySem.W.keepIn K (.ref CB) = true)
    (nB_one : PySem.W.findIn K (.ref CB) "one" = some none)
    (nB_other : PySem.W.findIn K (.ref CB) "other" = some none)
    (aO : PySem.W.nsIn K mainGlobals "Either" = some (some (.ref CO)))
    (pgO : PySem.W.plainGet K CO Str.empty = true)
    (hdO : PySem.W.hasDictIn K CO = true)
    (poO : PySem.W.plainOver K CO = true)
    (saO : PySem.W.findIn K (.ref CO) "__setattr__" = some (some (.builtin "object.__setattr__")))
    (mkO : PySem.W.makesIn K CO = true)
    (kcO : PySem.W.keepIn K (.ref CO) = true)
    (nO_one : PySem.W.findIn K (.ref CO) "one" = some none)
    (nO_other : PySem.W.findIn K (.ref CO) "other" = some none)
    (aT : PySem.W.nsIn K mainGlobals "Not" = some (some (.ref CT)))
    (pgT : PySem.W.plainGet K CT Str.empty = true)
    (hdT : PySem.W.hasDictIn K CT = true)
    (poT : PySem.W.plainOver K CT = true)
    (saT : PySem.W.findIn K (.ref CT) "__setattr__" = some (some (.builtin "object.__setattr__")))
    (mkT : PySem.W.makesIn K CT = true)
    (kcT : PySem.W.keepIn K (.ref CT) = true)
    (nT_one : PySem.W.findIn K (.ref CT) "one" = some none)
    (aD : PySem.W.nsIn K mainGlobals "Deed" = some (some (.ref CD)))
    (pgD : PySem.W.plainGet K CD Str.empty = true)
    (hdD : PySem.W.hasDictIn K CD = true)
    (poD : PySem.W.plainOver K CD = true)
    (saD : PySem.W.findIn K (.ref CD) "__setattr__" = some (some (.builtin "object.__setattr__")))
    (mkD : PySem.W.makesIn K CD = true)
    (kcD : PySem.W.keepIn K (.ref CD) = true)
    (nD_called : PySem.W.findIn K (.ref CD) "called" = some none)
    (nD_when : PySem.W.findIn K (.ref CD) "when" = some none)
    (nD_changes : PySem.W.findIn K (.ref CD) "changes" = some none)
    (aZ : PySem.W.nsIn K mainGlobals "Machine" = some (some (.ref CZ)))
    (pgZ : PySem.W.plainGet K CZ Str.empty = true)
    (hdZ : PySem.W.hasDictIn K CZ = true)
    (poZ : PySem.W.plainOver K CZ = true)
    (saZ : PySem.W.findIn K (.ref CZ) "__setattr__" = some (some (.builtin "object.__setattr__")))
    (mkZ : PySem.W.makesIn K CZ = true)
    (kcZ : PySem.W.keepIn K (.ref CZ) = true)
    (nZ_places : PySem.W.findIn K (.ref CZ) "places" = some none)
    (nZ_keeps : PySem.W.findIn K (.ref CZ) "keeps" = some none)
    (nZ_deeds : PySem.W.findIn K (.ref CZ) "deeds" = some none)
    (aJ : PySem.W.nsIn K mainGlobals "Tie" = some (some (.ref CJ)))
    (pgJ : PySem.W.plainGet K CJ Str.empty = true)
    (hdJ : PySem.W.hasDictIn K CJ = true)
    (poJ : PySem.W.plainOver K CJ = true)
    (saJ : PySem.W.findIn K (.ref CJ) "__setattr__" = some (some (.builtin "object.__setattr__")))
    (mkJ : PySem.W.makesIn K CJ = true)
    (kcJ : PySem.W.keepIn K (.ref CJ) = true)
    (nJ_saying : PySem.W.findIn K (.ref CJ) "saying" = some none)
    (nJ_table : PySem.W.findIn K (.ref CJ) "table" = some none)
    (nJ_falling : PySem.W.findIn K (.ref CJ) "falling" = some none)
    (aNI : PySem.W.findIn K (.ref CN) "__init__" = some (some (.ref fNI)))
    (iNI : PySem.W.isFn K (.ref fNI) = true)
    (lNI : K.lookup fNI = some ⟨ocNI, odNI, .func (PySem.W.fnOf "__init__" "Number.__init__" (defArgs sNumI) (defBody sNumI) (defScope sNumI) .none kVNI dcNI pmNI anNI cdNI ctNI), slNI⟩)
    (cNI : PySem.W.codeIn K cdNI "Number.__init__" = true)
    (kNI : PySem.W.keepIn K (.ref fNI) = true)
    (aMI : PySem.W.findIn K (.ref CM) "__init__" = some (some (.ref fMI)))
    (iMI : PySem.W.isFn K (.ref fMI) = true)
    (lMI : K.lookup fMI = some ⟨ocMI, odMI, .func (PySem.W.fnOf "__init__" "Named.__init__" (defArgs sNamI) (defBody sNamI) (defScope sNamI) .none kVMI dcMI pmMI anMI cdMI ctMI), slMI⟩)
    (cMI : PySem.W.codeIn K cdMI "Named.__init__" = true)
    (kMI : PySem.W.keepIn K (.ref fMI) = true)
    (aTI : PySem.W.findIn K (.ref CP) "__init__" = some (some (.ref fTI)))
    (aTII : PySem.W.findIn K (.ref CI) "__init__" = some (some (.ref fTI)))
    (aTIX : PySem.W.findIn K (.ref CX) "__init__" = some (some (.ref fTI)))
    (iTI : PySem.W.isFn K (.ref fTI) = true)
    (lTI : K.lookup fTI = some ⟨ocTI, odTI, .func (PySem.W.fnOf "__init__" "Twofold.__init__" (defArgs sTwoI) (defBody sTwoI) (defScope sTwoI) .none kVTI dcTI pmTI anTI cdTI ctTI), slTI⟩)
    (cTI : PySem.W.codeIn K cdTI "Twofold.__init__" = true)
    (kTI : PySem.W.keepIn K (.ref fTI) = true)
    (aPI : PySem.W.findIn K (.ref CQ) "__init__" = some (some (.ref fPI)))
    (aPIW : PySem.W.findIn K (.ref CW) "__init__" = some (some (.ref fPI)))
    (aPIE : PySem.W.findIn K (.ref CE) "__init__" = some (some (.ref fPI)))
    (aPIV : PySem.W.findIn K (.ref CV) "__init__" = some (some (.ref fPI)))
    (aPIB : PySem.W.findIn K (.ref CB) "__init__" = some (some (.ref fPI)))
    (aPIO : PySem.W.findIn K (.ref CO) "__init__" = some (some (.ref fPI)))
    (iPI : PySem.W.isFn K (.ref fPI) = true)
    (lPI : K.lookup fPI = some ⟨ocPI, odPI, .func (PySem.W.fnOf "__init__" "Pairing.__init__" (defArgs sPaiI) (defBody sPaiI) (defScope sPaiI) .none kVPI dcPI pmPI anPI cdPI ctPI), slPI⟩)
    (cPI : PySem.W.codeIn K cdPI "Pairing.__init__" = true)
    (kPI : PySem.W.keepIn K (.ref fPI) = true)
    (aOI : PySem.W.findIn K (.ref CT) "__init__" = some (some (.ref fOI)))
    (iOI : PySem.W.isFn K (.ref fOI) = true)
    (lOI : K.lookup fOI = some ⟨ocOI, odOI, .func (PySem.W.fnOf "__init__" "Not.__init__" (defArgs sNotI) (defBody sNotI) (defScope sNotI) .none kVOI dcOI pmOI anOI cdOI ctOI), slOI⟩)
    (cOI : PySem.W.codeIn K cdOI "Not.__init__" = true)
    (kOI : PySem.W.keepIn K (.ref fOI) = true)
    (aCI : PySem.W.findIn K (.ref CC) "__init__" = some (some (.ref fCI)))
    (iCI : PySem.W.isFn K (.ref fCI) = true)
    (lCI : K.lookup fCI = some ⟨ocCI, odCI, .func (PySem.W.fnOf "__init__" "Change.__init__" (defArgs sChaI) (defBody sChaI) (defScope sChaI) .none kVCI dcCI pmCI anCI cdCI ctCI), slCI⟩)
    (cCI : PySem.W.codeIn K cdCI "Change.__init__" = true)
    (kCI : PySem.W.keepIn K (.ref fCI) = true)
    (aUI : PySem.W.findIn K (.ref CU) "__init__" = some (some (.ref fUI)))
    (iUI : PySem.W.isFn K (.ref fUI) = true)
    (lUI : K.lookup fUI = some ⟨ocUI, odUI, .func (PySem.W.fnOf "__init__" "Put.__init__" (defArgs sPutI) (defBody sPutI) (defScope sPutI) .none kVUI dcUI pmUI anUI cdUI ctUI), slUI⟩)
    (cUI : PySem.W.codeIn K cdUI "Put.__init__" = true)
    (kUI : PySem.W.keepIn K (.ref fUI) = true)
    (aAI : PySem.W.findIn K (.ref CA) "__init__" = some (some (.ref fAI)))
    (iAI : PySem.W.isFn K (.ref fAI) = true)
    (lAI : K.lookup fAI = some ⟨ocAI, odAI, .func (PySem.W.fnOf "__init__" "Any.__init__" (defArgs sAnyI) (defBody sAnyI) (defScope sAnyI) .none kVAI dcAI pmAI anAI cdAI ctAI), slAI⟩)
    (cAI : PySem.W.codeIn K cdAI "Any.__init__" = true)
    (kAI : PySem.W.keepIn K (.ref fAI) = true)
    (aDI : PySem.W.findIn K (.ref CD) "__init__" = some (some (.ref fDI)))
    (iDI : PySem.W.isFn K (.ref fDI) = true)
    (lDI : K.lookup fDI = some ⟨ocDI, odDI, .func (PySem.W.fnOf "__init__" "Deed.__init__" (defArgs sDeeI) (defBody sDeeI) (defScope sDeeI) .none kVDI dcDI pmDI anDI cdDI ctDI), slDI⟩)
    (cDI : PySem.W.codeIn K cdDI "Deed.__init__" = true)
    (kDI : PySem.W.keepIn K (.ref fDI) = true)
    (aZI : PySem.W.findIn K (.ref CZ) "__init__" = some (some (.ref fZI)))
    (iZI : PySem.W.isFn K (.ref fZI) = true)
    (lZI : K.lookup fZI = some ⟨ocZI, odZI, .func (PySem.W.fnOf "__init__" "Machine.__init__" (defArgs sMacI) (defBody sMacI) (defScope sMacI) .none kVZI dcZI pmZI anZI cdZI ctZI), slZI⟩)
    (cZI : PySem.W.codeIn K cdZI "Machine.__init__" = true)
    (kZI : PySem.W.keepIn K (.ref fZI) = true)
    (aJI : PySem.W.findIn K (.ref CJ) "__init__" = some (some (.ref fJI)))
    (iJI : PySem.W.isFn K (.ref fJI) = true)
    (lJI : K.lookup fJI = some ⟨ocJI, odJI, .func (PySem.W.fnOf "__init__" "Tie.__init__" (defArgs sTieI) (defBody sTieI) (defScope sTieI) .none kVJI dcJI pmJI anJI cdJI ctJI), slJI⟩)
    (cJI : PySem.W.codeIn K cdJI "Tie.__init__" = true)
    (kJI : PySem.W.keepIn K (.ref fJI) = true)
    (aNW : PySem.W.findIn K (.ref CN) "worth" = some (some (.ref fNW)))
    (iNW : PySem.W.isFn K (.ref fNW) = true)
    (lNW : K.lookup fNW = some ⟨ocNW, odNW, .func (PySem.W.fnOf "worth" "Number.worth" (defArgs sNumW) (defBody sNumW) (defScope sNumW) .none kVNW dcNW pmNW anNW cdNW ctNW), slNW⟩)
    (cNW : PySem.W.codeIn K cdNW "Number.worth" = true)
    (kNW : PySem.W.keepIn K (.ref fNW) = true)
    (aMW : PySem.W.findIn K (.ref CM) "worth" = some (some (.ref fMW)))
    (iMW : PySem.W.isFn K (.ref fMW) = true)
    (lMW : K.lookup fMW = some ⟨ocMW, odMW, .func (PySem.W.fnOf "worth" "Named.worth" (defArgs sNamW) (defBody sNamW) (defScope sNamW) .none kVMW dcMW pmMW anMW cdMW ctMW), slMW⟩)
    (cMW : PySem.W.codeIn K cdMW "Named.worth" = true)
    (kMW : PySem.W.keepIn K (.ref fMW) = true)
    (aPW : PySem.W.findIn K (.ref CP) "worth" = some (some (.ref fPW)))
    (iPW : PySem.W.isFn K (.ref fPW) = true)
    (lPW : K.lookup fPW = some ⟨ocPW, odPW, .func (PySem.W.fnOf "worth" "Plus.worth" (defArgs sPluW) (defBody sPluW) (defScope sPluW) .none kVPW dcPW pmPW anPW cdPW ctPW), slPW⟩)
    (cPW : PySem.W.codeIn K cdPW "Plus.worth" = true)
    (kPW : PySem.W.keepIn K (.ref fPW) = true)
    (aIW : PySem.W.findIn K (.ref CI) "worth" = some (some (.ref fIW)))
    (iIW : PySem.W.isFn K (.ref fIW) = true)
    (lIW : K.lookup fIW = some ⟨ocIW, odIW, .func (PySem.W.fnOf "worth" "Minus.worth" (defArgs sMinW) (defBody sMinW) (defScope sMinW) .none kVIW dcIW pmIW anIW cdIW ctIW), slIW⟩)
    (cIW : PySem.W.codeIn K cdIW "Minus.worth" = true)
    (kIW : PySem.W.keepIn K (.ref fIW) = true)
    (aXW : PySem.W.findIn K (.ref CX) "worth" = some (some (.ref fXW)))
    (iXW : PySem.W.isFn K (.ref fXW) = true)
    (lXW : K.lookup fXW = some ⟨ocXW, odXW, .func (PySem.W.fnOf "worth" "Times.worth" (defArgs sTimW) (defBody sTimW) (defScope sTimW) .none kVXW dcXW pmXW anXW cdXW ctXW), slXW⟩)
    (cXW : PySem.W.codeIn K cdXW "Times.worth" = true)
    (kXW : PySem.W.keepIn K (.ref fXW) = true)
    (aYH : PySem.W.findIn K (.ref CY) "holds" = some (some (.ref fYH)))
    (iYH : PySem.W.isFn K (.ref fYH) = true)
    (lYH : K.lookup fYH = some ⟨ocYH, odYH, .func (PySem.W.fnOf "holds" "Saying.holds" (defArgs sSayH) (defBody sSayH) (defScope sSayH) .none kVYH dcYH pmYH anYH cdYH ctYH), slYH⟩)
    (cYH : PySem.W.codeIn K cdYH "Saying.holds" = true)
    (kYH : PySem.W.keepIn K (.ref fYH) = true)
    (aLH : PySem.W.findIn K (.ref CQ) "holds" = some (some (.ref fLH)))
    (iLH : PySem.W.isFn K (.ref fLH) = true)
    (lLH : K.lookup fLH = some ⟨ocLH, odLH, .func (PySem.W.fnOf "holds" "Less.holds" (defArgs sLesH) (defBody sLesH) (defScope sLesH) .none kVLH dcLH pmLH anLH cdLH ctLH), slLH⟩)
    (cLH : PySem.W.codeIn K cdLH "Less.holds" = true)
    (kLH : PySem.W.keepIn K (.ref fLH) = true)
    (aAH : PySem.W.findIn K (.ref CW) "holds" = some (some (.ref fAH)))
    (iAH : PySem.W.isFn K (.ref fAH) = true)
    (lAH : K.lookup fAH = some ⟨ocAH, odAH, .func (PySem.W.fnOf "holds" "AtMost.holds" (defArgs sAtmH) (defBody sAtmH) (defScope sAtmH) .none kVAH dcAH pmAH anAH cdAH ctAH), slAH⟩)
    (cAH : PySem.W.codeIn K cdAH "AtMost.holds" = true)
    (kAH : PySem.W.keepIn K (.ref fAH) = true)
    (aEH : PySem.W.findIn K (.ref CE) "holds" = some (some (.ref fEH)))
    (iEH : PySem.W.isFn K (.ref fEH) = true)
    (lEH : K.lookup fEH = some ⟨ocEH, odEH, .func (PySem.W.fnOf "holds" "Equal.holds" (defArgs sEquH) (defBody sEquH) (defScope sEquH) .none kVEH dcEH pmEH anEH cdEH ctEH), slEH⟩)
    (cEH : PySem.W.codeIn K cdEH "Equal.holds" = true)
    (kEH : PySem.W.keepIn K (.ref fEH) = true)
    (aUH : PySem.W.findIn K (.ref CV) "holds" = some (some (.ref fUH)))
    (iUH : PySem.W.isFn K (.ref fUH) = true)
    (lUH : K.lookup fUH = some ⟨ocUH, odUH, .func (PySem.W.fnOf "holds" "Unlike.holds" (defArgs sUnlH) (defBody sUnlH) (defScope sUnlH) .none kVUH dcUH pmUH anUH cdUH ctUH), slUH⟩)
    (cUH : PySem.W.codeIn K cdUH "Unlike.holds" = true)
    (kUH : PySem.W.keepIn K (.ref fUH) = true)
    (aBH : PySem.W.findIn K (.ref CB) "holds" = some (some (.ref fBH)))
    (iBH : PySem.W.isFn K (.ref fBH) = true)
    (lBH : K.lookup fBH = some ⟨ocBH, odBH, .func (PySem.W.fnOf "holds" "Both.holds" (defArgs sBotH) (defBody sBotH) (defScope sBotH) .none kVBH dcBH pmBH anBH cdBH ctBH), slBH⟩)
    (cBH : PySem.W.codeIn K cdBH "Both.holds" = true)
    (kBH : PySem.W.keepIn K (.ref fBH) = true)
    (aOH : PySem.W.findIn K (.ref CO) "holds" = some (some (.ref fOH)))
    (iOH : PySem.W.isFn K (.ref fOH) = true)
    (lOH : K.lookup fOH = some ⟨ocOH, odOH, .func (PySem.W.fnOf "holds" "Either.holds" (defArgs sEitH) (defBody sEitH) (defScope sEitH) .none kVOH dcOH pmOH anOH cdOH ctOH), slOH⟩)
    (cOH : PySem.W.codeIn K cdOH "Either.holds" = true)
    (kOH : PySem.W.keepIn K (.ref fOH) = true)
    (aTH : PySem.W.findIn K (.ref CT) "holds" = some (some (.ref fTH)))
    (iTH : PySem.W.isFn K (.ref fTH) = true)
    (lTH : K.lookup fTH = some ⟨ocTH, odTH, .func (PySem.W.fnOf "holds" "Not.holds" (defArgs sNotH) (defBody sNotH) (defScope sNotH) .none kVTH dcTH pmTH anTH cdTH ctTH), slTH⟩)
    (cTH : PySem.W.codeIn K cdTH "Not.holds" = true)
    (kTH : PySem.W.keepIn K (.ref fTH) = true)
    (aZV : PySem.W.findIn K (.ref CZ) "values_in" = some (some (.ref fZV)))
    (iZV : PySem.W.isFn K (.ref fZV) = true)
    (lZV : K.lookup fZV = some ⟨ocZV, odZV, .func (PySem.W.fnOf "values_in" "Machine.values_in" (defArgs sValuesIn) (defBody sValuesIn) (defScope sValuesIn) .none kVZV dcZV pmZV anZV cdZV ctZV), slZV⟩)
    (cZV : PySem.W.codeIn K cdZV "Machine.values_in" = true)
    (kZV : PySem.W.keepIn K (.ref fZV) = true)
    (aZF : PySem.W.findIn K (.ref CZ) "first" = some (some (.ref fZF)))
    (iZF : PySem.W.isFn K (.ref fZF) = true)
    (lZF : K.lookup fZF = some ⟨ocZF, odZF, .func (PySem.W.fnOf "first" "Machine.first" (defArgs sFirst) (defBody sFirst) (defScope sFirst) .none kVZF dcZF pmZF anZF cdZF ctZF), slZF⟩)
    (cZF : PySem.W.codeIn K cdZF "Machine.first" = true)
    (kZF : PySem.W.keepIn K (.ref fZF) = true)
    (aNS : PySem.W.findIn K (.ref CN) "shown" = some (some (.ref fNS)))
    (iNS : PySem.W.isFn K (.ref fNS) = true)
    (lNS : K.lookup fNS = some ⟨ocNS, odNS, .func (PySem.W.fnOf "shown" "Number.shown" (defArgs sNumS) (defBody sNumS) (defScope sNumS) .none kVNS dcNS pmNS anNS cdNS ctNS), slNS⟩)
    (cNS : PySem.W.codeIn K cdNS "Number.shown" = true)
    (kNS : PySem.W.keepIn K (.ref fNS) = true)
    (aMS : PySem.W.findIn K (.ref CM) "shown" = some (some (.ref fMS)))
    (iMS : PySem.W.isFn K (.ref fMS) = true)
    (lMS : K.lookup fMS = some ⟨ocMS, odMS, .func (PySem.W.fnOf "shown" "Named.shown" (defArgs sNamS) (defBody sNamS) (defScope sNamS) .none kVMS dcMS pmMS anMS cdMS ctMS), slMS⟩)
    (cMS : PySem.W.codeIn K cdMS "Named.shown" = true)
    (kMS : PySem.W.keepIn K (.ref fMS) = true)
    (aYS : PySem.W.findIn K (.ref CY) "shown" = some (some (.ref fYS)))
    (iYS : PySem.W.isFn K (.ref fYS) = true)
    (lYS : K.lookup fYS = some ⟨ocYS, odYS, .func (PySem.W.fnOf "shown" "Saying.shown" (defArgs sSayS) (defBody sSayS) (defScope sSayS) .none kVYS dcYS pmYS anYS cdYS ctYS), slYS⟩)
    (cYS : PySem.W.codeIn K cdYS "Saying.shown" = true)
    (kYS : PySem.W.keepIn K (.ref fYS) = true)
    (aES : PySem.W.findIn K (.ref CE) "shown" = some (some (.ref fES)))
    (iES : PySem.W.isFn K (.ref fES) = true)
    (lES : K.lookup fES = some ⟨ocES, odES, .func (PySem.W.fnOf "shown" "Equal.shown" (defArgs sEquS) (defBody sEquS) (defScope sEquS) .none kVES dcES pmES anES cdES ctES), slES⟩)
    (cES : PySem.W.codeIn K cdES "Equal.shown" = true)
    (kES : PySem.W.keepIn K (.ref fES) = true)
    (aBS : PySem.W.findIn K (.ref CB) "shown" = some (some (.ref fBS)))
    (iBS : PySem.W.isFn K (.ref fBS) = true)
    (lBS : K.lookup fBS = some ⟨ocBS, odBS, .func (PySem.W.fnOf "shown" "Both.shown" (defArgs sBotS) (defBody sBotS) (defScope sBotS) .none kVBS dcBS pmBS anBS cdBS ctBS), slBS⟩)
    (cBS : PySem.W.codeIn K cdBS "Both.shown" = true)
    (kBS : PySem.W.keepIn K (.ref fBS) = true)
    (aAt : PySem.W.nsIn K mainGlobals "_law_at" = some (some (.ref fAt)))
    (lAt : K.lookup fAt = some ⟨ocAt, odAt, .func (PySem.W.fnOf "_law_at" "_law_at" (defArgs sAt) (defBody sAt) (defScope sAt) .none kVAt dcAt pmAt anAt cdAt ctAt), slAt⟩)
    (cAt : PySem.W.codeIn K cdAt "_law_at" = true)
    (kAt : PySem.W.keepIn K (.ref fAt) = true)
    (aBe : PySem.W.nsIn K mainGlobals "_law_begin" = some (some (.ref fBe)))
    (lBe : K.lookup fBe = some ⟨ocBe, odBe, .func (PySem.W.fnOf "_law_begin" "_law_begin" (defArgs sBegin) (defBody sBegin) (defScope sBegin) .none kVBe dcBe pmBe anBe cdBe ctBe), slBe⟩)
    (cBe : PySem.W.codeIn K cdBe "_law_begin" = true)
    (kBe : PySem.W.keepIn K (.ref fBe) = true)
    (aDr : PySem.W.nsIn K mainGlobals "_law_draw" = some (some (.ref fDr)))
    (lDr : K.lookup fDr = some ⟨ocDr, odDr, .func (PySem.W.fnOf "_law_draw" "_law_draw" (defArgs sDraw) (defBody sDraw) (defScope sDraw) .none kVDr dcDr pmDr anDr cdDr ctDr), slDr⟩)
    (cDr : PySem.W.codeIn K cdDr "_law_draw" = true)
    (kDr : PySem.W.keepIn K (.ref fDr) = true)
    (aNa : PySem.W.nsIn K mainGlobals "_law_names" = some (some (.ref fNa)))
    (lNa : K.lookup fNa = some ⟨ocNa, odNa, .func (PySem.W.fnOf "_law_names" "_law_names" (defArgs sNames) (defBody sNames) (defScope sNames) .none kVNa dcNa pmNa anNa cdNa ctNa), slNa⟩)
    (cNa : PySem.W.codeIn K cdNa "_law_names" = true)
    (kNa : PySem.W.keepIn K (.ref fNa) = true)
    (aSu : PySem.W.nsIn K mainGlobals "_law_sum" = some (some (.ref fSu)))
    (lSu : K.lookup fSu = some ⟨ocSu, odSu, .func (PySem.W.fnOf "_law_sum" "_law_sum" (defArgs sSum) (defBody sSum) (defScope sSum) .none kVSu dcSu pmSu anSu cdSu ctSu), slSu⟩)
    (cSu : PySem.W.codeIn K cdSu "_law_sum" = true)
    (kSu : PySem.W.keepIn K (.ref fSu) = true)
    (aHa : PySem.W.nsIn K mainGlobals "_law_sum_of" = some (some (.ref fHa)))
    (lHa : K.lookup fHa = some ⟨ocHa, odHa, .func (PySem.W.fnOf "_law_sum_of" "_law_sum_of" (defArgs sHand) (defBody sHand) (defScope sHand) .none kVHa dcHa pmHa anHa cdHa ctHa), slHa⟩)
    (cHa : PySem.W.codeIn K cdHa "_law_sum_of" = true)
    (kHa : PySem.W.keepIn K (.ref fHa) = true)
    (aWh : PySem.W.nsIn K mainGlobals "_law_whole" = some (some (.ref fWh)))
    (lWh : K.lookup fWh = some ⟨ocWh, odWh, .func (PySem.W.fnOf "_law_whole" "_law_whole" (defArgs sWhole) (defBody sWhole) (defScope sWhole) .none kVWh dcWh pmWh anWh cdWh ctWh), slWh⟩)
    (cWh : PySem.W.codeIn K cdWh "_law_whole" = true)
    (kWh : PySem.W.keepIn K (.ref fWh) = true)
    (aSg : PySem.W.nsIn K mainGlobals "_law_saying" = some (some (.ref fSg)))
    (lSg : K.lookup fSg = some ⟨ocSg, odSg, .func (PySem.W.fnOf "_law_saying" "_law_saying" (defArgs sSaying) (defBody sSaying) (defScope sSaying) .none kVSg dcSg pmSg anSg cdSg ctSg), slSg⟩)
    (cSg : PySem.W.codeIn K cdSg "_law_saying" = true)
    (kSg : PySem.W.keepIn K (.ref fSg) = true)
    (aTo : PySem.W.nsIn K mainGlobals "_law_saying_of" = some (some (.ref fTo)))
    (lTo : K.lookup fTo = some ⟨ocTo, odTo, .func (PySem.W.fnOf "_law_saying_of" "_law_saying_of" (defArgs sTold) (defBody sTold) (defScope sTold) .none kVTo dcTo pmTo anTo cdTo ctTo), slTo⟩)
    (cTo : PySem.W.codeIn K cdTo "_law_saying_of" = true)
    (kTo : PySem.W.keepIn K (.ref fTo) = true)
    (aPl : PySem.W.nsIn K mainGlobals "_law_places" = some (some (.ref fPl)))
    (lPl : K.lookup fPl = some ⟨ocPl, odPl, .func (PySem.W.fnOf "_law_places" "_law_places" (defArgs sPlaces) (defBody sPlaces) (defScope sPlaces) .none kVPl dcPl pmPl anPl cdPl ctPl), slPl⟩)
    (cPl : PySem.W.codeIn K cdPl "_law_places" = true)
    (kPl : PySem.W.keepIn K (.ref fPl) = true)
    (aCg : PySem.W.nsIn K mainGlobals "_law_change" = some (some (.ref fCg)))
    (lCg : K.lookup fCg = some ⟨ocCg, odCg, .func (PySem.W.fnOf "_law_change" "_law_change" (defArgs sChange) (defBody sChange) (defScope sChange) .none kVCg dcCg pmCg anCg cdCg ctCg), slCg⟩)
    (cCg : PySem.W.codeIn K cdCg "_law_change" = true)
    (kCg : PySem.W.keepIn K (.ref fCg) = true)
    (aDe : PySem.W.nsIn K mainGlobals "_law_deed" = some (some (.ref fDe)))
    (lDe : K.lookup fDe = some ⟨ocDe, odDe, .func (PySem.W.fnOf "_law_deed" "_law_deed" (defArgs sDeed) (defBody sDeed) (defScope sDeed) .none kVDe dcDe pmDe anDe cdDe ctDe), slDe⟩)
    (cDe : PySem.W.codeIn K cdDe "_law_deed" = true)
    (kDe : PySem.W.keepIn K (.ref fDe) = true)
    (aMa : PySem.W.nsIn K mainGlobals "_law_machine" = some (some (.ref fMa)))
    (lMa : K.lookup fMa = some ⟨ocMa, odMa, .func (PySem.W.fnOf "_law_machine" "_law_machine" (defArgs sMachine) (defBody sMachine) (defScope sMachine) .none kVMa dcMa pmMa anMa cdMa ctMa), slMa⟩)
    (cMa : PySem.W.codeIn K cdMa "_law_machine" = true)
    (kMa : PySem.W.keepIn K (.ref fMa) = true)
    (aCo : PySem.W.nsIn K mainGlobals "_law_change_of" = some (some (.ref fCo)))
    (lCo : K.lookup fCo = some ⟨ocCo, odCo, .func (PySem.W.fnOf "_law_change_of" "_law_change_of" (defArgs sChangeOf) (defBody sChangeOf) (defScope sChangeOf) .none kVCo dcCo pmCo anCo cdCo ctCo), slCo⟩)
    (cCo : PySem.W.codeIn K cdCo "_law_change_of" = true)
    (kCo : PySem.W.keepIn K (.ref fCo) = true)
    (aDo : PySem.W.nsIn K mainGlobals "_law_deed_of" = some (some (.ref fDo)))
    (lDo : K.lookup fDo = some ⟨ocDo, odDo, .func (PySem.W.fnOf "_law_deed_of" "_law_deed_of" (defArgs sDeedOf) (defBody sDeedOf) (defScope sDeedOf) .none kVDo dcDo pmDo anDo cdDo ctDo), slDo⟩)
    (cDo : PySem.W.codeIn K cdDo "_law_deed_of" = true)
    (kDo : PySem.W.keepIn K (.ref fDo) = true)
    (aRm : PySem.W.nsIn K mainGlobals "_law_room" = some (some (.ref fRm)))
    (lRm : K.lookup fRm = some ⟨ocRm, odRm, .func (PySem.W.fnOf "_law_room" "_law_room" (defArgs sRoom) (defBody sRoom) (defScope sRoom) .none kVRm dcRm pmRm anRm cdRm ctRm), slRm⟩)
    (cRm : PySem.W.codeIn K cdRm "_law_room" = true)
    (kRm : PySem.W.keepIn K (.ref fRm) = true)
    (aOt : PySem.W.nsIn K mainGlobals "own_tie" = some (some (.ref fOt)))
    (lOt : K.lookup fOt = some ⟨ocOt, odOt, .func (PySem.W.fnOf "own_tie" "own_tie" (defArgs sOwnTie) (defBody sOwnTie) (defScope sOwnTie) .none kVOt dcOt pmOt anOt cdOt ctOt), slOt⟩)
    (cOt : PySem.W.codeIn K cdOt "own_tie" = true)
    (kOt : PySem.W.keepIn K (.ref fOt) = true)
    (aOs : PySem.W.nsIn K mainGlobals "own_saying" = some (some (.ref fOs)))
    (lOs : K.lookup fOs = some ⟨ocOs, odOs, .func (PySem.W.fnOf "own_saying" "own_saying" (defArgs sOwnSay) (defBody sOwnSay) (defScope sOwnSay) .none kVOs dcOs pmOs anOs cdOs ctOs), slOs⟩)
    (cOs : PySem.W.codeIn K cdOs "own_saying" = true)
    (kOs : PySem.W.keepIn K (.ref fOs) = true)
    (aTd : PySem.W.nsIn K mainGlobals "tied" = some (some (.ref fTd)))
    (lTd : K.lookup fTd = some ⟨ocTd, odTd, .func (PySem.W.fnOf "tied" "tied" (defArgs sTied) (defBody sTied) (defScope sTied) .none kVTd dcTd pmTd anTd cdTd ctTd), slTd⟩)
    (cTd : PySem.W.codeIn K cdTd "tied" = true)
    (kTd : PySem.W.keepIn K (.ref fTd) = true)
    (aTx : PySem.W.nsIn K mainGlobals "_law_text" = some (some (.ref fTx)))
    (lTx : K.lookup fTx = some ⟨ocTx, odTx, .func (PySem.W.fnOf "_law_text" "_law_text" (defArgs sTxt) (defBody sTxt) (defScope sTxt) .none kVTx dcTx pmTx anTx cdTx ctTx), slTx⟩)
    (cTx : PySem.W.codeIn K cdTx "_law_text" = true)
    (kTx : PySem.W.keepIn K (.ref fTx) = true)
    (aCp : PySem.W.nsIn K mainGlobals "compared" = some (some (.ref fCp)))
    (lCp : K.lookup fCp = some ⟨ocCp, odCp, .func (PySem.W.fnOf "compared" "compared" (defArgs sCmp) (defBody sCmp) (defScope sCmp) .none kVCp dcCp pmCp anCp cdCp ctCp), slCp⟩)
    (cCp : PySem.W.codeIn K cdCp "compared" = true)
    (kCp : PySem.W.keepIn K (.ref fCp) = true)
    (aBr : PySem.W.nsIn K mainGlobals "bracketed_sayings" = some (some (.ref fBr)))
    (lBr : K.lookup fBr = some ⟨ocBr, odBr, .func (PySem.W.fnOf "bracketed" "bracketed" (defArgs sBrs) (defBody sBrs) (defScope sBrs) .none kVBr dcBr pmBr anBr cdBr ctBr), slBr⟩)
    (cBr : PySem.W.codeIn K cdBr "bracketed" = true)
    (kBr : PySem.W.keepIn K (.ref fBr) = true)
    (aL : PySem.W.nsIn K mainGlobals "law" = some (some (.ref fL)))
    (lL : K.lookup fL = some ⟨ocL, odL, .func (PySem.W.fnOf "law" "law" (defArgs sLaw) (defBody sLaw) (defScope sLaw) .none kVL dcL pmL anL cdL ctL), slL⟩)
    (cL : PySem.W.codeIn K cdL "law" = true)
    (kL : PySem.W.keepIn K (.ref fL) = true)
    (z_len : PySem.W.nsIn K mainGlobals "len" = some none)
    (z_range : PySem.W.nsIn K mainGlobals "range" = some none)
    (z_isinstance : PySem.W.nsIn K mainGlobals "isinstance" = some none)
    (z_int : PySem.W.nsIn K mainGlobals "int" = some none)
    (z_bool : PySem.W.nsIn K mainGlobals "bool" = some none)
    (z_str : PySem.W.nsIn K mainGlobals "str" = some none)
    (z_list : PySem.W.nsIn K mainGlobals "list" = some none)
    (z_tuple : PySem.W.nsIn K mainGlobals "tuple" = some none)
    (z_dict : PySem.W.nsIn K mainGlobals "dict" = some none)
    (z_max : PySem.W.nsIn K mainGlobals "max" = some none)
    (z_min : PySem.W.nsIn K mainGlobals "min" = some none)
    (z_zip : PySem.W.nsIn K mainGlobals "zip" = some none)
    (cmg : PySem.W.specialIn K (.ref CC) "__getattribute__" = some (some (.builtin "type.__getattribute__")))
    (cmr : PySem.W.readsIn K CC (.type "type") = true)
    (cmf : PySem.W.findCls K (.ref CC) (.type "type") "__init__" = some (.val (.ref fCI)))
    (hn : PySem.W.specialIn K (.builtin "object.__class__") "__get__" = some (some (.builtin "getset_descriptor.__get__")))
    (ht : PySem.W.takesIn K (.builtin "object.__class__") = some true)
    (hcJ : PySem.W.findIn K (.ref CJ) "__class__" = some (some (.builtin "object.__class__")))
    (hmJ : PySem.W.mroIn K CJ (.type "object") = some true)
    : ∃ fd : FuncData, (∀ (s : Shared) (v : Value), BindsTo s fd ⟨[v], []⟩ [("_law_script", v)]) ∧ ∀ base : Heap, K.In base → base.Ns mainGlobals mg → FnOk l.prog w K mg base CX0 19 fa fd ["_law_script"] (spLaw K) := by
  have e := hfa.symm.trans (PySem.W.mg_of X G aL)
  cases e
  have FNI := fun_mk (st := sNumI) lNI cNI kNI
  have bNI := FNI.binds (ps := ["self", "number"]) fun _ _ _ _ _ _ us hl => match us, hl with | [_, _], _ => rfl
  have FMI := fun_mk (st := sNamI) lMI cMI kMI
  have bMI := FMI.binds (ps := ["self", "name"]) fun _ _ _ _ _ _ us hl => match us, hl with | [_, _], _ => rfl
  have FTI := fun_mk (st := sTwoI) lTI cTI kTI
  have bTI := FTI.binds (ps := ["self", "one", "other"]) fun _ _ _ _ _ _ us hl => match us, hl with | [_, _, _], _ => rfl
  have FPI := fun_mk (st := sPaiI) lPI cPI kPI
  have bPI := FPI.binds (ps := ["self", "one", "other"]) fun _ _ _ _ _ _ us hl => match us, hl with | [_, _, _], _ => rfl
  have FOI := fun_mk (st := sNotI) lOI cOI kOI
  have bOI := FOI.binds (ps := ["self", "one"]) fun _ _ _ _ _ _ us hl => match us, hl with | [_, _], _ => rfl
  have FCI := fun_mk (st := sChaI) lCI cCI kCI
  have bCI := FCI.binds (ps := ["self", "name"]) fun _ _ _ _ _ _ us hl => match us, hl with | [_, _], _ => rfl
  have FUI := fun_mk (st := sPutI) lUI cUI kUI
  have bUI := FUI.binds (ps := ["self", "name", "one"]) fun _ _ _ _ _ _ us hl => match us, hl with | [_, _, _], _ => rfl
  have FAI := fun_mk (st := sAnyI) lAI cAI kAI
  have bAI := FAI.binds (ps := ["self", "name", "one", "other"]) fun _ _ _ _ _ _ us hl => match us, hl with | [_, _, _, _], _ => rfl
  have FDI := fun_mk (st := sDeeI) lDI cDI kDI
  have bDI := FDI.binds (ps := ["self", "called", "when", "changes"]) fun _ _ _ _ _ _ us hl => match us, hl with | [_, _, _, _], _ => rfl
  have FZI := fun_mk (st := sMacI) lZI cZI kZI
  have bZI := FZI.binds (ps := ["self", "places", "keeps", "deeds"]) fun _ _ _ _ _ _ us hl => match us, hl with | [_, _, _, _], _ => rfl
  have FJI := fun_mk (st := sTieI) lJI cJI kJI
  have bJI := FJI.binds (ps := ["self", "saying", "table", "falling"]) fun _ _ _ _ _ _ us hl => match us, hl with | [_, _, _, _], _ => rfl
  have FNW := fun_mk (st := sNumW) lNW cNW kNW
  have bNW := FNW.binds (ps := ["self", "values"]) fun _ _ _ _ _ _ us hl => match us, hl with | [_, _], _ => rfl
  have FMW := fun_mk (st := sNamW) lMW cMW kMW
  have bMW := FMW.binds (ps := ["self", "values"]) fun _ _ _ _ _ _ us hl => match us, hl with | [_, _], _ => rfl
  have FPW := fun_mk (st := sPluW) lPW cPW kPW
  have bPW := FPW.binds (ps := ["self", "values"]) fun _ _ _ _ _ _ us hl => match us, hl with | [_, _], _ => rfl
  have FIW := fun_mk (st := sMinW) lIW cIW kIW
  have bIW := FIW.binds (ps := ["self", "values"]) fun _ _ _ _ _ _ us hl => match us, hl with | [_, _], _ => rfl
  have FXW := fun_mk (st := sTimW) lXW cXW kXW
  have bXW := FXW.binds (ps := ["self", "values"]) fun _ _ _ _ _ _ us hl => match us, hl with | [_, _], _ => rfl
  have FYH := fun_mk (st := sSayH) lYH cYH kYH
  have bYH := FYH.binds (ps := ["self", "values"]) fun _ _ _ _ _ _ us hl => match us, hl with | [_, _], _ => rfl
  have FLH := fun_mk (st := sLesH) lLH cLH kLH
  have bLH := FLH.binds (ps := ["self", "values"]) fun _ _ _ _ _ _ us hl => match us, hl with | [_, _], _ => rfl
  have FAH := fun_mk (st := sAtmH) lAH cAH kAH
  have bAH := FAH.binds (ps := ["self", "values"]) fun _ _ _ _ _ _ us hl => match us, hl with | [_, _], _ => rfl
  have FEH := fun_mk (st := sEquH) lEH cEH kEH
  have bEH := FEH.binds (ps := ["self", "values"]) fun _ _ _ _ _ _ us hl => match us, hl with | [_, _], _ => rfl
  have FUH := fun_mk (st := sUnlH) lUH cUH kUH
  have bUH := FUH.binds (ps := ["self", "values"]) fun _ _ _ _ _ _ us hl => match us, hl with | [_, _], _ => rfl
  have FBH := fun_mk (st := sBotH) lBH cBH kBH
  have bBH := FBH.binds (ps := ["self", "values"]) fun _ _ _ _ _ _ us hl => match us, hl with | [_, _], _ => rfl
  have FOH := fun_mk (st := sEitH) lOH cOH kOH
  have bOH := FOH.binds (ps := ["self", "values"]) fun _ _ _ _ _ _ us hl => match us, hl with | [_, _], _ => rfl
  have FTH := fun_mk (st := sNotH) lTH cTH kTH
  have bTH := FTH.binds (ps := ["self", "values"]) fun _ _ _ _ _ _ us hl => match us, hl with | [_, _], _ => rfl
  have FZV := fun_mk (st := sValuesIn) lZV cZV kZV
  have bZV := FZV.binds (ps := ["self", "room"]) fun _ _ _ _ _ _ us hl => match us, hl with | [_, _], _ => rfl
  have FZF := fun_mk (st := sFirst) lZF cZF kZF
  have bZF := FZF.binds (ps := ["self"]) fun _ _ _ _ _ _ us hl => match us, hl with | [_], _ => rfl
  have FNS := fun_mk (st := sNumS) lNS cNS kNS
  have bNS := FNS.binds (ps := ["self"]) fun _ _ _ _ _ _ us hl => match us, hl with | [_], _ => rfl
  have FMS := fun_mk (st := sNamS) lMS cMS kMS
  have bMS := FMS.binds (ps := ["self"]) fun _ _ _ _ _ _ us hl => match us, hl with | [_], _ => rfl
  have FYS := fun_mk (st := sSayS) lYS cYS kYS
  have bYS := FYS.binds (ps := ["self"]) fun _ _ _ _ _ _ us hl => match us, hl with | [_], _ => rfl
  have FES := fun_mk (st := sEquS) lES cES kES
  have bES := FES.binds (ps := ["self"]) fun _ _ _ _ _ _ us hl => match us, hl with | [_], _ => rfl
  have FBS := fun_mk (st := sBotS) lBS cBS kBS
  have bBS := FBS.binds (ps := ["self"]) fun _ _ _ _ _ _ us hl => match us, hl with | [_], _ => rfl
  have FAt := fun_mk (st := sAt) lAt cAt kAt
  have bAt := FAt.binds (ps := ["_law_script", "_law_k"]) fun _ _ _ _ _ _ us hl => match us, hl with | [_, _], _ => rfl
  have FBe := fun_mk (st := sBegin) lBe cBe kBe
  have bBe := FBe.binds (ps := ["_law_cell"]) fun _ _ _ _ _ _ us hl => match us, hl with | [_], _ => rfl
  have FDr := fun_mk (st := sDraw) lDr cDr kDr
  have bDr := FDr.binds (ps := ["_law_state", "_law_many"]) fun _ _ _ _ _ _ us hl => match us, hl with | [_, _], _ => rfl
  have FNa := fun_mk (st := sNames) lNa cNa kNa
  have bNa := FNa.binds (ps := ["_law_cell", "_law_many"]) fun _ _ _ _ _ _ us hl => match us, hl with | [_, _], _ => rfl
  have FSu := fun_mk (st := sSum) lSu cSu kSu
  have bSu := FSu.binds (ps := ["_law_state", "_law_names_here", "_law_near", "_law_depth"]) fun _ _ _ _ _ _ us hl => match us, hl with | [_, _, _, _], _ => rfl
  have FHa := fun_mk (st := sHand) lHa cHa kHa
  have bHa := FHa.binds (ps := ["_law_one"]) fun _ _ _ _ _ _ us hl => match us, hl with | [_], _ => rfl
  have FWh := fun_mk (st := sWhole) lWh cWh kWh
  have bWh := FWh.binds (ps := ["_law_found"]) fun _ _ _ _ _ _ us hl => match us, hl with | [_], _ => rfl
  have FSg := fun_mk (st := sSaying) lSg cSg kSg
  have bSg := FSg.binds (ps := ["_law_state", "_law_names_here", "_law_near", "_law_depth"]) fun _ _ _ _ _ _ us hl => match us, hl with | [_, _, _, _], _ => rfl
  have FTo := fun_mk (st := sTold) lTo cTo kTo
  have bTo := FTo.binds (ps := ["_law_one"]) fun _ _ _ _ _ _ us hl => match us, hl with | [_], _ => rfl
  have FPl := fun_mk (st := sPlaces) lPl cPl kPl
  have bPl := FPl.binds (ps := ["_law_script", "_law_start", "_law_names_here"]) fun _ _ _ _ _ _ us hl => match us, hl with | [_, _, _], _ => rfl
  have FCg := fun_mk (st := sChange) lCg cCg kCg
  have bCg := FCg.binds (ps := ["_law_cell", "_law_place", "_law_names_here"]) fun _ _ _ _ _ _ us hl => match us, hl with | [_, _, _], _ => rfl
  have FDe := fun_mk (st := sDeed) lDe cDe kDe
  have bDe := FDe.binds (ps := ["_law_script", "_law_start", "_law_called", "_law_places_here"]) fun _ _ _ _ _ _ us hl => match us, hl with | [_, _, _, _], _ => rfl
  have FMa := fun_mk (st := sMachine) lMa cMa kMa
  have bMa := FMa.binds (ps := ["_law_script", "_law_start", "_law_many_names", "_law_many_deeds"]) fun _ _ _ _ _ _ us hl => match us, hl with | [_, _, _, _], _ => rfl
  have FCo := fun_mk (st := sChangeOf) lCo cCo kCo
  have bCo := FCo.binds (ps := ["_law_change_here"]) fun _ _ _ _ _ _ us hl => match us, hl with | [_], _ => rfl
  have FDo := fun_mk (st := sDeedOf) lDo cDo kDo
  have bDo := FDo.binds (ps := ["_law_deed_here"]) fun _ _ _ _ _ _ us hl => match us, hl with | [_], _ => rfl
  have FRm := fun_mk (st := sRoom) lRm cRm kRm
  have bRm := FRm.binds (ps := ["_law_places_here", "_law_cell"]) fun _ _ _ _ _ _ us hl => match us, hl with | [_, _], _ => rfl
  have FOt := fun_mk (st := sOwnTie) lOt cOt kOt
  have bOt := FOt.binds (ps := ["machine"]) fun _ _ _ _ _ _ us hl => match us, hl with | [_], _ => rfl
  have FOs := fun_mk (st := sOwnSay) lOs cOs kOs
  have bOs := FOs.binds (ps := ["names"]) fun _ _ _ _ _ _ us hl => match us, hl with | [_], _ => rfl
  have FTd := fun_mk (st := sTied) lTd cTd kTd
  have bTd := FTd.binds (ps := ["far", "near", "tie", "far_room", "room"]) fun _ _ _ _ _ _ us hl => match us, hl with | [_, _, _, _, _], _ => rfl
  have FTx := fun_mk (st := sTxt) lTx cTx kTx
  have bTx := FTx.binds (ps := ["_law_names_here"]) fun _ _ _ _ _ _ us hl => match us, hl with | [_], _ => rfl
  have FCp := fun_mk (st := sCmp) lCp cCp kCp
  have bCp := FCp.binds (ps := ["one", "sign", "other"]) fun _ _ _ _ _ _ us hl => match us, hl with | [_, _, _], _ => rfl
  have FBr := fun_mk (st := sBrs) lBr cBr kBr
  have bBr := FBr.binds (ps := ["one", "word", "other"]) fun _ _ _ _ _ _ us hl => match us, hl with | [_, _, _], _ => rfl
  have FL := fun_mk (st := sLaw) lL cL kL
  have T : Txt K mg (ckOf CN CM CP CI CX) (ccOf CC CU CA) (cyOf CY CQ CW CE CV CB CO CT) CD CZ CJ fNI fMI fTI fPI fOI fCI fUI fAI fDI fZI fJI fNW fMW fPW fIW fXW fYH fLH fAH fEH fUH fBH fOH fTH fZV fZF fNS fMS fYS fES fBS fAt fBe fDr fNa fSu fHa fWh fSg fTo fPl fCg fDe fMa fCo fDo fRm fOt fOs fTd fTx fCp fBr _ _ _ _ _ _ _ _ _ _ _ _ _ _ _ _ _ _ _ _ _ _ _ _ _ _ _ _ _ _ _ _ _ _ _ _ _ _ _ _ _ _ _ _ _ _ _ _ _ _ _ _ _ :=
    { bl := ⟨PySem.W.mg_none_of X G z_len, PySem.W.mg_none_of X G z_range, PySem.W.mg_none_of X G z_isinstance, PySem.W.mg_none_of X G z_int, PySem.W.mg_none_of X G z_bool, PySem.W.mg_none_of X G z_str, PySem.W.mg_none_of X G z_list, PySem.W.mg_none_of X G z_tuple, PySem.W.mg_none_of X G z_dict, PySem.W.mg_none_of X G z_max, PySem.W.mg_none_of X G z_min, PySem.W.mg_none_of X G z_zip⟩
      mkr :=
        { cls := ⟨fun k => match k with | .num => ⟨pgN, hdN, poN, saN⟩ | .nam => ⟨pgM, hdM, poM, saM⟩ | .op .plus => ⟨pgP, hdP, poP, saP⟩ | .op .minus => ⟨pgI, hdI, poI, saI⟩ | .op .times => ⟨pgX, hdX, poX, saX⟩, nN_number, nM_name, fun g => match g with | .plus => nP_one | .minus => nI_one | .times => nX_one, fun g => match g with | .plus => nP_other | .minus => nI_other | .times => nX_other⟩
          mkN := ⟨mkN, aNI, iNI, kcN⟩, mkM := ⟨mkM, aMI, iMI, kcM⟩
          mkT := fun g => match g with | .plus => ⟨mkP, aTI, iTI, kcP⟩ | .minus => ⟨mkI, aTII, iTI, kcI⟩ | .times => ⟨mkX, aTIX, iTI, kcX⟩
          gN := PySem.W.mg_of X G aN, gM := PySem.W.mg_of X G aM, gP := PySem.W.mg_of X G aP, gI := PySem.W.mg_of X G aI, gX := PySem.W.mg_of X G aX
          FN := FNI, FM := FMI, FT := FTI, bN := bNI, bM := bMI, bT := bTI }
      mks :=
        { cls := ⟨fun k => match k with | .yes => ⟨pgY, hdY, poY, saY⟩ | .cmp .lt => ⟨pgQ, hdQ, poQ, saQ⟩ | .cmp .le => ⟨pgW, hdW, poW, saW⟩ | .cmp .eq => ⟨pgE, hdE, poE, saE⟩ | .cmp .ne => ⟨pgV, hdV, poV, saV⟩ | .bin .and => ⟨pgB, hdB, poB, saB⟩ | .bin .or => ⟨pgO, hdO, poO, saO⟩ | .neg => ⟨pgT, hdT, poT, saT⟩, fun g => match g with | .lt => nQ_one | .le => nW_one | .eq => nE_one | .ne => nV_one, fun g => match g with | .lt => nQ_other | .le => nW_other | .eq => nE_other | .ne => nV_other, fun g => match g with | .and => nB_one | .or => nO_one, fun g => match g with | .and => nB_other | .or => nO_other, nT_one⟩
          mkP := fun g => match g with | .lt => ⟨mkQ, aPI, iPI, kcQ⟩ | .le => ⟨mkW, aPIW, iPI, kcW⟩ | .eq => ⟨mkE, aPIE, iPI, kcE⟩ | .ne => ⟨mkV, aPIV, iPI, kcV⟩
          mkB := fun g => match g with | .and => ⟨mkB, aPIB, iPI, kcB⟩ | .or => ⟨mkO, aPIO, iPI, kcO⟩
          mkN := ⟨mkT, aOI, iOI, kcT⟩, mkY := ⟨mkY, inY, kcY⟩
          gY := PySem.W.mg_of X G aY, gL := PySem.W.mg_of X G aQ, gA := PySem.W.mg_of X G aW, gE := PySem.W.mg_of X G aE, gU := PySem.W.mg_of X G aV, gB := PySem.W.mg_of X G aB, gO := PySem.W.mg_of X G aO, gN := PySem.W.mg_of X G aT
          FP := FPI, FN := FOI, bP := bPI, bN := bOI }
      cc := ⟨fun k => match k with | .cha => ⟨pgC, hdC, poC, saC⟩ | .put => ⟨pgU, hdU, poU, saU⟩ | .any => ⟨pgA, hdA, poA, saA⟩, fun k => match k with | .cha => nC_name | .put => nU_name | .any => nA_name, nU_one, nA_one, nA_other⟩
      cd := ⟨⟨pgD, hdD, poD, saD⟩, nD_called, nD_when, nD_changes⟩
      cz := ⟨⟨pgZ, hdZ, poZ, saZ⟩, nZ_places, nZ_keeps, nZ_deeds⟩
      ct := ⟨⟨pgJ, hdJ, poJ, saJ⟩, nJ_saying, nJ_table, nJ_falling⟩
      mkU := ⟨mkU, aUI, iUI, kcU⟩, mkA := ⟨mkA, aAI, iAI, kcA⟩, mkD := ⟨mkD, aDI, iDI, kcD⟩, mkZ := ⟨mkZ, aZI, iZI, kcZ⟩, mkJ := ⟨mkJ, aJI, iJI, kcJ⟩
      gC := PySem.W.mg_of X G aC, gU := PySem.W.mg_of X G aU, gA := PySem.W.mg_of X G aA, gD := PySem.W.mg_of X G aD, gZ := PySem.W.mg_of X G aZ, gJ := PySem.W.mg_of X G aJ
      cm := ⟨cmg, cmr, cmf, kCI⟩
      hc := hcJ, hn := hn, ht := ht, hm := hmJ
      FCI := FCI, bCI := bCI, FUI := FUI, bUI := bUI, FAI := FAI, bAI := bAI, FDI := FDI, bDI := bDI, FZI := FZI, bZI := bZI, FJI := FJI, bJI := bJI, FNW := FNW, bNW := bNW, FMW := FMW, bMW := bMW, FPW := FPW, bPW := bPW, FIW := FIW, bIW := bIW, FXW := FXW, bXW := bXW, FYH := FYH, bYH := bYH, FLH := FLH, bLH := bLH, FAH := FAH, bAH := bAH, FEH := FEH, bEH := bEH, FUH := FUH, bUH := bUH, FBH := FBH, bBH := bBH, FOH := FOH, bOH := bOH, FTH := FTH, bTH := bTH, FZV := FZV, bZV := bZV, FZF := FZF, bZF := bZF, FNS := FNS, bNS := bNS, FMS := FMS, bMS := bMS, FYS := FYS, bYS := bYS, FES := FES, bES := bES, FBS := FBS, bBS := bBS, FAt := FAt, bAt := bAt, FBe := FBe, bBe := bBe, FDr := FDr, bDr := bDr, FNa := FNa, bNa := bNa, FSu := FSu, bSu := bSu, FHa := FHa, bHa := bHa, FWh := FWh, bWh := bWh, FSg := FSg, bSg := bSg, FTo := FTo, bTo := bTo, FPl := FPl, bPl := bPl, FCg := FCg, bCg := bCg, FDe := FDe, bDe := bDe, FMa := FMa, bMa := bMa, FCo := FCo, bCo := bCo, FDo := FDo, bDo := bDo, FRm := FRm, bRm := bRm, FOt := FOt, bOt := bOt, FOs := FOs, bOs := bOs, FTd := FTd, bTd := bTd, FTx := FTx, bTx := bTx, FCp := FCp, bCp := bCp, FBr := FBr, bBr := bBr
      gAt := PySem.W.mg_of X G aAt, gBe := PySem.W.mg_of X G aBe, gDr := PySem.W.mg_of X G aDr, gNa := PySem.W.mg_of X G aNa, gSu := PySem.W.mg_of X G aSu, gHa := PySem.W.mg_of X G aHa, gWh := PySem.W.mg_of X G aWh, gSg := PySem.W.mg_of X G aSg, gTo := PySem.W.mg_of X G aTo, gPl := PySem.W.mg_of X G aPl, gCg := PySem.W.mg_of X G aCg, gDe := PySem.W.mg_of X G aDe, gMa := PySem.W.mg_of X G aMa, gCo := PySem.W.mg_of X G aCo, gDo := PySem.W.mg_of X G aDo, gRm := PySem.W.mg_of X G aRm, gOt := PySem.W.mg_of X G aOt, gOs := PySem.W.mg_of X G aOs, gTd := PySem.W.mg_of X G aTd, gTx := PySem.W.mg_of X G aTx, gCp := PySem.W.mg_of X G aCp, gBr := PySem.W.mg_of X G aBr
      mNW := ⟨aNW, iNW, kNW⟩, mMW := ⟨aMW, iMW, kMW⟩, mPW := ⟨aPW, iPW, kPW⟩, mIW := ⟨aIW, iIW, kIW⟩, mXW := ⟨aXW, iXW, kXW⟩, mYH := ⟨aYH, iYH, kYH⟩, mLH := ⟨aLH, iLH, kLH⟩, mAH := ⟨aAH, iAH, kAH⟩, mEH := ⟨aEH, iEH, kEH⟩, mUH := ⟨aUH, iUH, kUH⟩, mBH := ⟨aBH, iBH, kBH⟩, mOH := ⟨aOH, iOH, kOH⟩, mTH := ⟨aTH, iTH, kTH⟩, mZV := ⟨aZV, iZV, kZV⟩, mZF := ⟨aZF, iZF, kZF⟩, mNS := ⟨aNS, iNS, kNS⟩, mMS := ⟨aMS, iMS, kMS⟩, mYS := ⟨aYS, iYS, kYS⟩, mES := ⟨aES, iES, kES⟩, mBS := ⟨aBS, iBS, kBS⟩ }
  exact ⟨PySem.W.fnOf "law" "law" (defArgs sLaw) (defBody sLaw) (defScope sLaw) .none kVL dcL pmL anL cdL ctL, fun s v => .of_eq rfl, fun base _ _ => ok_law T FL⟩
theorem walk {l : PySem.W.OpenLaw} {q : Program} {loose : List Str} {XP : (Str → Option Value) → Heap → Prop} {YP : World → Heap → Prop} {d : DefRec} {K : Params → PySem.W.Frag} (hn : l.most = some 63) (hdf : d.params.defaults = [])
    (hY : ∀ (w : World) (h : Heap), YP w h → (K w.params).In h)
    (F : ∀ (w : World) (mg : Str → Option Value) (fa : Addr) (h : Heap), (K w.params).In h → h.Ns mainGlobals mg → mg d.name = some (.ref fa) →
      ∃ fd : FuncData, (∀ (s : Shared) (u : Value), BindsTo s fd ⟨[u], []⟩ [("_law_script", u)]) ∧ ∀ base : Heap, (K w.params).In base → base.Ns mainGlobals mg → FnOk l.prog w (K w.params) mg base CX0 19 fa fd ["_law_script"] (spLaw (K w.params))) :
    PySem.W.WalkO q loose XP YP l.row.toRowW d [] (fun f vs => PySem.call f vs) :=
  L2.walk_of (n := 63) (k := 19) (x := "_law_script") (CX := fun _ => CX0) (sp := fun w => spLaw (K w.params)) hn (by decide) hdf ⟨rfl, by decide, by decide⟩ hY F (fun _ _ a ns hl _ hS => ⟨a, ns, rfl, hS, hl, fun _ => rfl⟩) fun _ _ _ _ _ z => z
end Nw
open PySem PySem.W PyProof.Rows
namespace PySem.W.Fast
def tw10374514524603764478 := ()
def tw8911186143715705437 := ()
def tw8498945233105580711 := ()
def tw9078158529297608484 := ()
def tw3760801662533149902 := ()
def tw11434865901193102336 := ()
def tw1551903754032393074 := ()
def tw18083342093559775589 := ()
def tw560624032129386053 := ()
def tw16486948261078442382 := ()
def tw11250183422958202309 := ()
def tw10547644673273071435 := ()
def tw3732322233194611688 := ()
def tw17025475025136747848 := ()
def tw3377840982901359270 := ()
def tw17160441422984355059 := ()
def tw12448173371636395010 := ()
def tw7314010117961957872 := ()
def tw8921878404216513024 := ()
def tw15099724992882438662 := ()
def tw3119554235502377384 := ()
def tw13756464959244743064 := ()
def tw14050507883198308864 := ()
def tw6399528534578618088 := ()
def tw16442868824319034388 := ()
def tw4257777054236415904 := ()
def tw1985943288982870805 := ()
def tw14902595117908175882 := ()
def tw15367607308809763375 := ()
def tw17291881981859381038 := ()
def tw12743115176435634217 := ()
def tw9392903100085220403 := ()
def tw7353795583467674198 := ()
def tw4189039675207892314 := ()
def tw3490204583687504843 := ()
def tw2144960854072247581 := ()
def tw11533868692734687909 := ()
def tw8230411011070593850 := ()
def tw12133685471031999186 := ()
def tw17010204448891395634 := ()
def tw2524556263774903446 := ()
def tw13154306765099421958 := ()
def tw16719514382218696969 := ()
def tw6667114752155043058 := ()
def tw3121909243829296624 := ()
def tw10155215741305642292 := ()
def tw12620739491054895772 := ()
def tw8160490969326129828 := ()
def tw8520383336626395714 := ()
def tw10237673352573299491 := ()
def tw12415107007045721972 := ()
def tw3684729084203017299 := ()
def tw16865208228458950690 := ()
def tw15564752414891449320 := ()
def tw5163539270980966411 := ()
def tw9635956868134254456 := ()
def tw14284921552900661513 := ()
def tw3654833314612383619 := ()
def tw10355428837522593079 := ()
def tw67750578985299483 := ()
def tw5774095914806559044 := ()
def tw12077957939953238117 := ()
def tw14237799582031446536 := ()
def tw12522149686917080234 := ()
def tw12904512119401454801 := ()
def tw13147166460339900189 := ()
def tw10491153724182529487 := ()
def tw9963795980876887475 := ()
def tw4463361851918823491 := ()
def tw5383081763313431603 := ()
def tw6643107848605542154 := ()
def tw17834318941661248989 := ()
def tw5241725321847103450 := ()
def tw13256024981959420992 := ()
def tw7379519955715895999 := ()
def tw13787081370037003772 := ()
def tw8450163352999832731 := ()
def tw8646018347636428075 := ()
def tw255547777528845532 := ()
def tw15964688760662445261 := ()
def tw6622455260176820465 := ()
def tw6736447033997819376 := ()
def tw14475907361388586254 := ()
def tw5211783435832054711 := ()
def tw14122509914613776484 := ()
def tw9335067658570949818 := ()
def tw11783262286694871220 := ()
def tw459875223134444073 := ()
def tw11960379063898126494 := ()
def tw2572667420250140097 := ()
def tw18278319643110410392 := ()
def tw13561041478860366492 := ()
def tw3782509256919782211 := ()
def tw11356129460109809212 := ()
def tw7764310145690570197 := ()
def tw2073185270004937546 := ()
def tw14585812226663779564 := ()
def tw14969298676789468666 := ()
def tw8521633300156070685 := ()
def tw8973932237196139502 := ()
def tw4924183206752842398 := ()
def tw14012353252663672148 := ()
def tw18304645860766298029 := ()
def tw17746009016750245305 := ()
def tw3905517154750360260 := ()
def tw11268192304486604147 := ()
def tw17724625190712002312 := ()
def tw1543422728166682423 := ()
def tw17458895476503216259 := ()
def tw14124958035786104642 := ()
def tw4453058349430926662 := ()
def tw17745691593042251210 := ()
def tw15726630625330974115 := ()
def tw3368486172120366592 := ()
def tw1394005828590745098 := ()
def tw5183065840885803975 := ()
def tw13824882721932414319 := ()
def tw8697349042759282968 := ()
def tw9916370528653196054 := ()
def tw496854996851130442 := ()
def tw5712511898468058639 := ()
def tw6522088323223526185 := ()
def tw8346513117446545433 := ()
def tw6989106546652887959 := ()
def tw16137272262454125030 := ()
def tw5578914449330026758 := ()
def tw2432647219166803821 := ()
def tw17898744512161747683 := ()
def tw17133699631777796778 := ()
def tw9194602384246486970 := ()
def tw5154647913863815840 := ()
def tw17309475870148543200 := ()
def tw18334628642464129689 := ()
def tw2554153037720104696 := ()
def tw3180249252087906313 := ()
def tw16905114368901302364 := ()
def tw1955733992455203293 := ()
def tw15495272824488962308 := ()
def tw7911852546375465650 := ()
def tw10198429236704659773 := ()
def tw14742555797725297924 := ()
def tw16639269325707357516 := ()
def tw1665156989252080139 := ()
def tw17831482704394645655 := ()
def tw16909246112599233927 := ()
def tw2389543260196309391 := ()
def tw15791953188863115706 := ()
def tw5218400719599397121 := ()
def tw453515511012992199 := ()
def tw11964960008670122027 := ()
def tw14713710930930181123 := ()
def tw12816985685422233010 := ()
def tw1953474919596807233 := ()
def tw10923627576690222784 := ()
def tw1747473265645730621 := ()
def tw3740760155685142554 := ()
def tw1636382174402597038 := ()
def tw3322909219063531933 := ()
def tw16153522582491377887 := ()
def tw1649420692872560874 := ()
def tw1623704260822532148 := ()
def tw8184746505835888481 := ()
def tw2210293010073238441 := ()
def tw5261378049242819631 := ()
def tw4288339757126156101 := ()
def tw6527328395576747408 := ()
def tw14015987044892916695 := ()
def tw1407515557667439795 := ()
def tw2844419355944815596 := ()
def tw7619477888514668118 := ()
def tw16081927404283313067 := ()
def tw14262982149652704298 := ()
def tw14259417200285462553 := ()
def tw13560370630848509807 := ()
def tw11600861020939577354 := ()
def tw4002234590394696174 := ()
def tw3475848417093709750 := ()
def tw2180317775743802876 := ()
def tw912153202920491087 := ()
def tw15365191401328351216 := ()
def tw6592771808204633985 := ()
def tw15529662437837545266 := ()
def tw6498795564449927589 := ()
def tw18369504517925109225 := ()
def tw17303149666146421906 := ()
def tw5172721261642825275 := ()
def tw17208768964775926926 := ()
def tw2885938675390134779 := ()
def tw17709764503030197814 := ()
def tw8402296237050865174 := ()
def tw1965054755028024498 := ()
def tw11446401171333708325 := ()
def tw2102997593944683280 := ()
def tw4914915676547702499 := ()
def tw7935511645851425463 := ()
def tw4433051360323198931 := ()
def tw8503927158763034051 := ()
def tw7229782090081948430 := ()
def tw16981469567032490616 := ()
def tw12145732223481782000 := ()
def tw10008335325235754711 := ()
def tw401792267263098360 := ()
def tw12743452304077727132 := ()
def tw10114795324182117002 := ()
def tw14192543126179757258 := ()
def tw2777898605118921354 := ()
def tw16388284640385023665 := ()
def tw2980023772774320454 := ()
def tw13480022511673110828 := ()
def tw6653851618302071691 := ()
def tw16260782356646652562 := ()
def tw6220332648794933372 := ()
def tw18051079372733338649 := ()
def tw2666147419647969868 := ()
def tw12396944115983810564 := ()
def tw11675664493927324544 := ()
def tw1063239006893307479 := ()
def tw607823460346447940 := ()
def tw16835321953294147442 := ()
def tw959126671727564076 := ()
def tw17548056614415618592 := ()
def tw4350077321613675607 := ()
def tw5876438756596489831 := ()
def tw13453556824424320666 := ()
def tw9746050318989032246 := ()
def tw2730058276274246277 := ()
def tw17751641112876768320 := ()
def tw7697957061909766524 := ()
def tw6538938935157164360 := ()
def tw3647106142750427415 := ()
def tw4259262847845262245 := ()
def tw4093122713814786295 := ()
def tw15424361693205343807 := ()
def tw14730687541625911464 := ()
def tw15243797473053471663 := ()
def tw2837282087072838336 := ()
def tw7656917130414026451 := ()
def tw635030860915660465 := ()
def tw1261265094410633635 := ()
def tw16431370846868719442 := ()
def tw15191657256024134957 := ()
def tw14563159565923985708 := ()
def tw2966808847629960734 := ()
def tw2950441630868741898 := ()
def tw14140627262380640334 := ()
def tw2845046683722483212 := ()
def tw1731075020830382210 := ()
def tw707943743635458060 := ()
def tw5014380639388003904 := ()
def tw14146325349542803181 := ()
def tw13351073137519328432 := ()
def tw11825594778568269329 := ()
def tw209872388891898123 := ()
def tw16051651574714506258 := ()
def tw14405544831105815512 := ()
def tw15695848777005717245 := ()
def tw8024588091290681816 := ()
def tw888396915413496105 := ()
def tw8534119444840647669 := ()
def tw8159861468310090479 := ()
def tw12985664310351472589 := ()
def tw3808646678605143690 := ()
def tw3390009486964996848 := ()
def tw14599640316394358976 := ()
def tw4747786518762286002 := ()
def tw8085366408040946082 := ()
def tw434046309175990802 := ()
def tw9477704525075744066 := ()
def tw615245638730124399 := ()
def tw1366965317138682697 := ()
def tw11497186988733501597 := ()
def tw574894834462282670 := ()
def tw10044969762486563067 := ()
def tw15041391476863348045 := ()
def tw4200006911300488138 := ()
def tw1452434272199014148 := ()
def tw9469486339542137326 := ()
def tw9577317971968362434 := ()
def tw17671177301418517896 := ()
def tw10382633100431996207 := ()
def tw9986951656697963094 := ()
def tw2365262709396510841 := ()
def tw9372780436986633813 := ()
def tw4395950015687670214 := ()
def tw13270537863541871670 := ()
def tw7143687787806235977 := ()
def tw5421598603504655631 := ()
def tw16768013455918140511 := ()
def tw17710127666664684507 := ()
def tw6281922493384522027 := ()
def tw13971793659326305678 := ()
def tw2865833150113591163 := ()
def tw2836999054054277070 := ()
def tw10888073023945478346 := ()
def tw365000047615515305 := ()
def tw11382014117691012168 := ()
def tw2428934550463699952 := ()
def tw2405837506271115393 := ()
def tw18071211677834899192 := ()
def tw11903435921162920703 := ()
def tw9608208293992571678 := ()
def tw830183486252284482 := ()
def tw13987518779989965148 := ()
def tw13062504050985605876 := ()
def tw16468996130964552591 := ()
def tw11342768785974489787 := ()
def tw6267695267035076753 := ()
def tw15954831785234560896 := ()
def tw16675066063010155548 := ()
def tw11463338097637876602 := ()
def tw3493065121958721448 := ()
def tw4742576866207954423 := ()
def tw6493810208663774515 := ()
def tw7400422005885399800 := ()
def tw14820101802544366301 := ()
def tw9953614505567467476 := ()
def tw8607111230479934177 := ()
def tw531823834880371267 := ()
def tw4368314623182340334 := ()
def tw16519059846809025743 := ()
def tw16320244440094846263 := ()
def tw4911720376306622887 := ()
def tw3344626823572032429 := ()
def tw6877506855388223417 := ()
def tw8407197696521225604 := ()
def tw15437292141989944905 := ()
def tw2573204972518388503 := ()
def tw7180878652291781790 := ()
def tw1676064322328491408 := ()
def tw16753928005286258070 := ()
def tw10103532063490992672 := ()
def tw373038240364929199 := ()
def tw3661064045264891663 := ()
def tw16137293097969339612 := ()
def tw15054600171718872609 := ()
def tw13415098765315246087 := ()
def tw9310866936007848361 := ()
def tw2746290091513775794 := ()
def tw2964480710132607879 := ()
def tw198033354667120262 := ()
def tw13878727099779614594 := ()
def tw946599563111791109 := ()
def tw15083435694533029995 := ()
def tw14492243265792469773 := ()
def tw1208401567964384529 := ()
def tw3049468036506584823 := ()
def tw9668780481846917234 := ()
def tw2950123077047140018 := ()
def tw5458978016705250987 := ()
def tw6329897779873863722 := ()
def tw11643491462576201907 := ()
def tw11085998050653139339 := ()
def tw1494827392992126556 := ()
def tw7861565847217634065 := ()
def tw968257557280815244 := ()
def tw2426131738063116696 := ()
def tw7785865967201443074 := ()
def tw10520033344053434181 := ()
def tw1065299379993146031 := ()
def tw11847052322249118044 := ()
def tw16686182091054439621 := ()
def tw18042489306500091332 := ()
def tw709444483151350617 := ()
def tw986911729225569814 := ()
def tw16112801617214379113 := ()
def tw4602072945287487477 := ()
def tw10086252172336514175 := ()
def tw5847738290115578486 := ()
def tw17618825837744559076 := ()
def tw3281096264098067549 := ()
def tw6454921874879311305 := ()
def tw17102321176629072770 := ()
def tw9532902915182420191 := ()
def tw15637564365950697753 := ()
def tw4553592255235104279 := ()
def tw11772927719416166760 := ()
def tw15784789260732378938 := ()
def tw9626054838348086609 := ()
def tw17276902875692687407 := ()
def tw13477801523503392193 := ()
def tw10652001462697611279 := ()
def tw5432214512474077306 := ()
def tw17533127521389054597 := ()
def tw6978540347906776204 := ()
def tw17045859953571525427 := ()
def tw5484909296653130275 := ()
def tw1919598806356290123 := ()
def tw5078648968127232818 := ()
def tw11875014036753331164 := ()
def tw8632089183045725316 := ()
def tw6983187885094339543 := ()
def tw15378202357639578003 := ()
def tw12994292350606122569 := ()
def tw474731355355884987 := ()
def tw4660823606864784173 := ()
def tw11193505928056740228 := ()
def tw9463023168928619840 := ()
def tw17816967432677765433 := ()
def tw2844989003229918066 := ()
def tw18131874907059007587 := ()
def tw1858689458048024863 := ()
def tw13786136817501075442 := ()
def tw14025988754774637495 := ()
def tw1213956330185009126 := ()
def tw9204404591283479021 := ()
def tw15840646040854382044 := ()
def tw12836849075011859621 := ()
def tw7817079804486418228 := ()
def tw10045232314982259160 := ()
def tw17001332922443044580 := ()
def tw13602258892962416148 := ()
def tw16100118374043235901 := ()
def tw14721367017269959883 := ()
def tw3541315267263975638 := ()
def tw9990076008199891689 := ()
def tw2617284633574595337 := ()
def tw2594503130062259327 := ()
def tw16511422151268721783 := ()
def tw6037337055215163278 := ()
def tw10557054852002204680 := ()
def tw10616554675382801265 := ()
def tw3847956624782154102 := ()
def tw16714241531791106546 := ()
def tw11282085604343359323 := ()
def tw13490171995681812061 := ()
def tw3140356772132766202 := ()
def tw17937988955273520896 := ()
def tw7247458984815222907 := ()
def tw5672563418246274302 := ()
def tw3309081225797313165 := ()
def tw8749163682471441200 := ()
def tw5863283082348398483 := ()
def tw13719322391765932201 := ()
def tw11014182129137986229 := ()
def tw15637301299646357612 := ()
def tw15490927200385325316 := ()
def tw7820038738627422108 := ()
def tw8982384952625100682 := ()
def tw1867834272561339406 := ()
def tw6926593444434230915 := ()
def tw16871560330398893461 := ()
def tw2345777770220609343 := ()
def tw7383351085102146567 := ()
def tw7534045977126632362 := ()
def tw6535029654010647925 := ()
def tw670629270691949570 := ()
def tw9270325967652659346 := ()
def tw10085294632451922524 := ()
def tw10436221334821618347 := ()
def tw1974488232191371603 := ()
def tw16424401358118246010 := ()
def tw11425216194296076441 := ()
def tw18093463519889353878 := ()
def tw1042143173504463232 := ()
def tw6508913867827330419 := ()
def tw1185687473877149895 := ()
def tw14597776065580101320 := ()
def tw274231028821705598 := ()
def tw2037906279294224738 := ()
def tw17152183634471819993 := ()
def tw6300944307903398458 := ()
def tw9215063389354749897 := ()
def tw8095655462906607063 := ()
def tw2444690045672826014 := ()
def tw5420773245984827993 := ()
def tw13091068043680994360 := ()
def tw15568888028913853715 := ()
def tw2856990751824882507 := ()
def tw3281753735311620575 := ()
def tw17216606869446326330 := ()
def tw17987770651352552749 := ()
def tw12864757074664810033 := ()
def tw15399701795261285335 := ()
def tw14488512196957917563 := ()
def tw13590916898238350191 := ()
def tw1638697080627795167 := ()
def tw10393051392899458531 := ()
def tw15268153744059568204 := ()
def tw15055064852198047056 := ()
def tw717411042451447105 := ()
def tw4389939626114875650 := ()
def tw8447771464253732227 := ()
def tw14066159042761317959 := ()
def tw3865359252031636190 := ()
def tw16701422702501072193 := ()
def tw14326179018238462874 := ()
def tw3536833861213775483 := ()
def tw1740374888562108269 := ()
def tw12426432447521742742 := ()
def tw6182623194930599191 := ()
def tw14490287441646142531 := ()
def tw11506588684299442466 := ()
def tw7247062501072848392 := ()
def tw16088279058504726655 := ()
def tw11725984697760430877 := ()
def tw7485687978732094821 := ()
def tw12894380386454840957 := ()
def tw11765017299627288349 := ()
def tw12633607836282491310 := ()
def tw5491715964525061980 := ()
def tw16676823810693894026 := ()
def tw10894361651356587957 := ()
def tw13355444247014578847 := ()
def tw2624742457347696100 := ()
def tw18031381811172960854 := ()
def tw10746784189567433534 := ()
def tw2758040322622596319 := ()
def tw11647020120893743284 := ()
def tw15993386467795499580 := ()
def tw15593489370545670028 := ()
def tw14334722862400427027 := ()
def tw17344254668864335190 := ()
def tw17392784704677171006 := ()
def tw1566679712412471004 := ()
def tw9620919148731104584 := ()
def tw3167392322567316674 := ()
def tw2932236900704545245 := ()
def tw7460755652498398226 := ()
def tw18204468147842286889 := ()
def tw2777129573167339689 := ()
def tw17149081132652148477 := ()
def tw3445447703735723794 := ()
def tw18035109560173280596 := ()
def tw12909262046686516920 := ()
def tw11159111595987369294 := ()
def tw10825272602191489914 := ()
def tw198224489081441253 := ()
def tw4127816432877545903 := ()
def tw13619759373790653327 := ()
def tw17649030419129626641 := ()
def tw7662543412584012807 := ()
def tw9607463689766232907 := ()
def tw11235267375050799552 := ()
def tw5390728406457390247 := ()
def tw1409409875330686638 := ()
def tw8989161553750696310 := ()
def tw17393636046391689658 := ()
def tw17677470333797524007 := ()
def tw12328153404440050830 := ()
def tw4253505217431945806 := ()
def tw8535754652530382090 := ()
def tw621643718155973766 := ()
def tw15183830214188874344 := ()
def tw13478604071581214750 := ()
def tw11052439178612855180 := ()
def tw15369799171899059899 := ()
def tw8580909388929005321 := ()
def tw11382279615142580981 := ()
def tw997812837048646894 := ()
def tw12544848023772804370 := ()
def tw1807675678516560666 := ()
def tw8228011287922323307 := ()
def tw17725912677139699816 := ()
def tw11289938659475476526 := ()
def tw5496214759484914198 := ()
def tw8371256334370514383 := ()
def tw8204290242613824772 := ()
def tw2268425608317947476 := ()
def tw4948020434660466623 := ()
def tw18226017823559274662 := ()
def tw256121260141961620 := ()
def tw542024796522622591 := ()
def tw8619827441422411360 := ()
def tw5714597216267167628 := ()
def tw5404101337711742947 := ()
def tw16922730537606397717 := ()
def tw3720443701133210551 := ()
def tw14957380288251605007 := ()
def tw5866135084590484002 := ()
def tw685422815033511696 := ()
def tw7488768144754778770 := ()
def tw14334031895523792777 := ()
def tw7303990383573190361 := ()
def tw9837914249420521815 := ()
def tw7307277762387722137 := ()
def tw14916356370994292272 := ()
def tw7281818845790179188 := ()
def tw12241561883893384282 := ()
def tw13662972586433217425 := ()
def tw12972826705677643001 := ()
def tw4999609064058527928 := ()
def tw5136122424041317119 := ()
def tw5686216171034743931 := ()
def tw16797924351746160949 := ()
def tw13506258755864831049 := ()
def tw18014383742401698302 := ()
def tw10194541525145641670 := ()
def tw18352413790783522075 := ()
def tw9832041745016616566 := ()
def tw3246786748287485668 := ()
def tw10320357357486112441 := ()
def tw4305420857650435677 := ()
def tw3893192599895376252 := ()
def tw17292665483825259748 := ()
def tw11586268661852321553 := ()
def tw9184473761571067200 := ()
def tw7056856313308079951 := ()
def tw5805817031921161733 := ()
def tw14921545650931250300 := ()
def tw1502151333782873122 := ()
def tw15043505104279126249 := ()
def tw16425345362688411381 := ()
def tw12913368733784053354 := ()
def tw3477075769633013764 := ()
def tw12608692258560876279 := ()
def tw9058339153255819543 := ()
def tw6528059115304243193 := ()
def tw12980376730058875666 := ()
def tw1781586828762037375 := ()
def tw10039970272909483171 := ()
def tw1025053143485651657 := ()
def tw15587980499335238847 := ()
def tw818678600917743252 := ()
def tw16876060373953667814 := ()
def tw15528874502904780038 := ()
def tw10826764751546902721 := ()
def tw1806626777296029492 := ()
def tw11758617512508582088 := ()
def tw7878267693670047369 := ()
def tw5208094773686422599 := ()
def tw17210677335751302439 := ()
def tw8483008233674566629 := ()
def tw1115407264645315511 := ()
def tw6824368918659183706 := ()
def tw7827226838111443189 := ()
def tw6505207610634793856 := ()
def tw3260251061084909076 := ()
def tw16642779399604924984 := ()
def tw10774200447826293330 := ()
def tw17077721623790122345 := ()
def tw4668751832605655214 := ()
def tw10585654881160443430 := ()
def tw4412010707040399747 := ()
def tw2315170065889163541 := ()
def tw3485157833540276525 := ()
def tw17722456340188814402 := ()
def tw4837029370771927856 := ()
def tw14456529866146221537 := ()
def tw7232693312359930314 := ()
def tw1368067237093734986 := ()
def tw1223664354581850181 := ()
def tw14289459914500938042 := ()
def tw10167497453823490144 := ()
def tw7617775535842939289 := ()
def tw12330051756900494238 := ()
def tw10811937916629467445 := ()
def tw12482759781448645069 := ()
def tw13417199312302177837 := ()
def tw13829039309049704545 := ()
def tw13812055733186964678 := ()
def tw4578413933441710632 := ()
def tw16040415326803250844 := ()
def tw6816008356860016537 := ()
def tw9231376394353046093 := ()
def tw12072360060146127873 := ()
def tw9306861440505968033 := ()
def tw3592387038674387096 := ()
def tw9296462314267092092 := ()
def tw441743744112899976 := ()
def tw2186667703230986378 := ()
def tw29559710586447316 := ()
def tw4830550120019253841 := ()
def tw12962454514477703166 := ()
def tw11605240077541229811 := ()
def tw17454522959917983870 := ()
def tw3365051322684393271 := ()
def tw4387415770899642728 := ()
def tw9809974452076547524 := ()
def tw12730602661537543298 := ()
def tw16406388130577431785 := ()
def tw10652157341555926132 := ()
def tw9023673684152978673 := ()
def tw17580482232863263306 := ()
def tw12110587317215965185 := ()
def tw18094452465385324128 := ()
def tw14758299575854513441 := ()
def tw6459609053210164314 := ()
def tw7090979738933483883 := ()
def tw8518974913691226044 := ()
def tw9292137084136615289 := ()
def tw8490802404460731926 := ()
def tw12088922245114791192 := ()
def tw5070459098018017340 := ()
def tw7525708006219835400 := ()
def tw9107872271707719912 := ()
def tw6915532119297638641 := ()
def tw13617768484286670499 := ()
def tw6294794382536402326 := ()
def tw16501731594933964625 := ()
def tw2346550547550751450 := ()
def tw13185267664923352571 := ()
def tw15505662082225374814 := ()
def tw16817883838964698584 := ()
def tw8388846472006182336 := ()
def tw8533357111259550942 := ()
def tw14407393430686446440 := ()
def tw13541953456950654313 := ()
def tw16691975773964855673 := ()
def tw11809849526591420780 := ()
def tw291636424503744635 := ()
def tw9093693508186814002 := ()
def tw17609572892740855713 := ()
def tw17999182736816143860 := ()
def tw3392457562587922358 := ()
def tw4143121779465779657 := ()
def tw16802290319361737595 := ()
def tw2754325881694500631 := ()
def tw14093514062448682671 := ()
def tw14655911712981762962 := ()
def tw8820328980106958210 := ()
def tw9198077918183844389 := ()
def tw4411823065910107419 := ()
def tw8358571696938068953 := ()
def tw1883003951026297715 := ()
def tw8559632405544701155 := ()
def tw12037208996717754410 := ()
def tw10078444280934619367 := ()
def tw5518120144766438912 := ()
def tw17624938249894022966 := ()
def tw5464969019185563823 := ()
def tw2341797067362759453 := ()
def tw17034946478519420444 := ()
def tw5833026735697553606 := ()
def tw8924045153366245369 := ()
def tw4659204338033982263 := ()
def tw12391574418894779932 := ()
def tw5628772880299273571 := ()
def tw14499931033179013832 := ()
def tw11089871274587392388 := ()
def tw8244285853333296306 := ()
def tw10812513343434150071 := ()
def tw16593926086968782936 := ()
def tw10879126820777466321 := ()
def tw15030315135759940929 := ()
def tw11217894160975955227 := ()
def tw2137659219014953713 := ()
def tw1703194797913396555 := ()
def tw14967592623111773979 := ()
def tw18351958344213943388 := ()
def tw4445150373977894361 := ()
def tw4154112955625255137 := ()
def tw2030979758509800383 := ()
def tw2843229716951540246 := ()
def tw7510876243585880770 := ()
def tw924684669225038995 := ()
def tw6715515005330905186 := ()
def tw16189596256115342402 := ()
def tw14663329900162808648 := ()
def tw4742706719831683202 := ()
def tw13980816155431134116 := ()
def tw17044665401315179252 := ()
def tw6008476994609729989 := ()
def tw10884805506532506007 := ()
def tw8827406048900411808 := ()
def tw2633324803388217606 := ()
def tw3313817968791135467 := ()
def tw7908988576106527025 := ()
def tw17110965118877864319 := ()
def tw6384098056585169040 := ()
def tw6207867346465728723 := ()
def tw9306552593077116157 := ()
def tw11616794924645785692 := ()
def tw11146692307788185324 := ()
def tw3019354393579224744 := ()
def tw1709583221043260921 := ()
def tw624804409708846480 := ()
def tw9239858969775198021 := ()
def tw1590196724069736069 := ()
def tw17804415402402049543 := ()
def tw8023723025712205892 := ()
def tw16188697716884144658 := ()
def tw15442604451004934946 := ()
def tw426169804317763997 := ()
def tw7595833673663910187 := ()
def tw4728953468732300853 := ()
def tw17058585269598569906 := ()
def tw5148634430279293543 := ()
def tw16964937278788242342 := ()
def tw8697911439856788885 := ()
def tw5663616456686405065 := ()
def tw3464349545151981387 := ()
def tw4171163563993707372 := ()
def tw2844295305745491917 := ()
def tw1226401630733219003 := ()
def tw791916812110144424 := ()
def tw12176057605832208641 := ()
def tw10830073649793736693 := ()
def tw2077147152342403881 := ()
def tw13520733759353499824 := ()
def tw17534628912409354728 := ()
def tw5541344064055608939 := ()
def tw6775396339565212038 := ()
def tw16093925260350851104 := ()
def tw2067731981976447489 := ()
def tw7678009345719860551 := ()
def tw14312472621847370969 := ()
def tw11110275691251154525 := ()
def tw13467209813821453660 := ()
def tw6519170432635670917 := ()
def tw13176981732153659844 := ()
def tw593417865766493394 := ()
def tw12280171361550403651 := ()
def tw15454648030335974968 := ()
def tw2443092565860445713 := ()
def tw10667745769438448258 := ()
def tw15118310341511087467 := ()
def tw3219992165447636564 := ()
def tw14526467214882663195 := ()
def tw4690332494849118716 := ()
def tw18321990810410108388 := ()
def tw4474765240158151972 := ()
def tw2551733125674056294 := ()
def tw4405448186186543840 := ()
def tw6479451705943099579 := ()
def tw771257843423640744 := ()
def tw11755109287732603515 := ()
def tw11192894645734648272 := ()
def tw16964460246849324270 := ()
def tw954717147204767595 := ()
def tw11039706363323450169 := ()
def tw7804108195690331811 := ()
def tw14958473471299114193 := ()
def tw2161497843636311650 := ()
def tw16276042656102075145 := ()
def tw8600182344555890327 := ()
def tw2041750635463147032 := ()
def tw3284321043435672942 := ()
def tw11540534136035075641 := ()
def tw1178829827613653678 := ()
def tw8930965003316261379 := ()
def tw14481663977764050368 := ()
def tw18343130611603893866 := ()
def tw1710847687713043291 := ()
def tw14063316086851151988 := ()
def tw8581415140204542954 := ()
def tw9116664501707855097 := ()
def tw10089143310959232889 := ()
def tw9372926466721770543 := ()
def tw4818704176440533780 := ()
def tw352049424267701072 := ()
def tw18441870950487084784 := ()
def tw8466096361532769393 := ()
def tw17785386156023655816 := ()
def tw9878278130961354176 := ()
def tw18333370470268625441 := ()
def tw15118113554700612109 := ()
def tw18014461558612774942 := ()
def tw11685194369079050322 := ()
def tw1264207605831763187 := ()
def tw3495718833213933481 := ()
def tw8643111427394734418 := ()
def tw3725134336957193597 := ()
def tw10911638406193972158 := ()
def tw5538782307972703270 := ()
def tw15137871102499856120 := ()
def tw15146334352238301887 := ()
def tw5115505539874403601 := ()
def tw3895346044985510678 := ()
def tw11870280983870501554 := ()
def tw634699480658300235 := ()
def tw15675037348549810805 := ()
def tw7857283940287929432 := ()
def tw16513440835622254518 := ()
def tw10745916928365646042 := ()
def tw17097804189443573691 := ()
def tw511300342608895395 := ()
def tw13700735074118566282 := ()
def tw14444799844040500108 := ()
def tw2493739078332874755 := ()
def tw17752222999601834245 := ()
def tw15292108299302602462 := ()
def tw3865907291250936367 := ()
def tw10302927673237320638 := ()
def tw15337140218276491083 := ()
def tw4040386936786206058 := ()
def tw6567412241976462802 := ()
def tw2172256368909316159 := ()
def tw10269919397906804966 := ()
def tw3352758434428113001 := ()
def tw2374363166704088826 := ()
def tw1982714545270381878 := ()
def tw16195132894669155359 := ()
def tw1097827752265828977 := ()
def tw9468139220167830465 := ()
def tw9173516466406323031 := ()
def tw432057125072986442 := ()
def tw14144111210862198406 := ()
def tw17246732943378884237 := ()
def tw13252527942796464545 := ()
def tw3167810890210006403 := ()
def tw18176690348405533272 := ()
def tw10979066790473487836 := ()
def tw16982298312274970292 := ()
def tw978020572844410974 := ()
def tw14434230140909982591 := ()
def tw11721448295233639367 := ()
def tw7560804633372812113 := ()
def tw8597070895661959303 := ()
def tw240760571805441771 := ()
def tw12497206682111715229 := ()
def tw11423235230384240044 := ()
def tw14529146972455891699 := ()
def tw3653830324651224681 := ()
def tw10030821527277830946 := ()
def tw3213235398623831745 := ()
def tw10807370270618318092 := ()
def tw16344708593432975454 := ()
def tw7501142732179293328 := ()
def tw3723681386375436628 := ()
def tw15840714789744015637 := ()
def tw3387814099387933756 := ()
def tw11646481334767491642 := ()
def tw15874415086333465423 := ()
def tw14739755122045689774 := ()
def tw17720578288667330330 := ()
def tw13470401748686732029 := ()
def tw2156037867860781595 := ()
def tw18022490348646306728 := ()
def tw8151502139337224872 := ()
def tw4510304215460424030 := ()
def tw18274651386872048711 := ()
def tw8678511280898158990 := ()
def tw14220335243582306426 := ()
def tw12963641518803429587 := ()
def tw8521966723742353673 := ()
def tw3227218932466002086 := ()
def tw6234838949282802446 := ()
def tw17160191995499803724 := ()
def tw13932808473228709452 := ()
def tw16138419163486636254 := ()
def tw7773195770442980636 := ()
def tw9818490451568909005 := ()
def tw5499582044438537682 := ()
def tw7877954215333988561 := ()
def tw15963001788294866373 := ()
def tw10213139626906507761 := ()
def tw10177135389082709890 := ()
def tw5439348479482196341 := ()
def tw17125398902736615366 := ()
def tw14526883324642692381 := ()
def tw6949307843675145787 := ()
def tw1219751415427327858 := ()
def tw4756422498440010088 := ()
def tw16780374437534028203 := ()
def tw749672831951671438 := ()
def tw15314850372953682722 := ()
def tw488236047911438654 := ()
def tw16850944898920181125 := ()
def tw13655267171827654239 := ()
def tw926834467022683490 := ()
def tw5408836007795376387 := ()
def tw12499434268933396793 := ()
def tw45552350431555735 := ()
def tw7699017449214444030 := ()
def tw11395123230318085174 := ()
def tw15996512959521557712 := ()
def tw146703883899121227 := ()
def tw1782338966504839058 := ()
def tw8217207127603148621 := ()
def tw3643912432157347294 := ()
def tw14151825343640143597 := ()
def tw17731476674719214922 := ()
def tw5813881057070546003 := ()
def tw14788280917373983485 := ()
def tw2939695014629411928 := ()
def tw12902742135933043077 := ()
def tw17484813295133883464 := ()
def tw9576722441101311588 := ()
def tw8788914966312475440 := ()
def tw17942978155936853241 := ()
def tw8446483101256281574 := ()
def tw2036663455283331396 := ()
def tw8177567220648992541 := ()
def tw8435565379184874400 := ()
def tw9702585353667400502 := ()
def tw12792393286424018349 := ()
def tw12285707643214901863 := ()
def tw15678004112846342632 := ()
def tw4732220609493838325 := ()
def tw10295646984724244499 := ()
def tw17412702488662036170 := ()
def tw17079182093693594630 := ()
def tw3707274485042493519 := ()
def tw16388762140503082198 := ()
def tw2444031361132823940 := ()
def tw12476621944356265793 := ()
def tw16065136485497989882 := ()
def tw2174374126247570207 := ()
def tw8637682803751399777 := ()
def tw18193611428059515194 := ()
def tw7379691291602388096 := ()
def tw5710171964182421488 := ()
def tw2113679204795802222 := ()
def tw3952984539234306605 := ()
def tw457527241798730873 := ()
def tw9041190751260946604 := ()
def tw18259144804479748733 := ()
def tw16141323490644429021 := ()
def tw13417594981213419281 := ()
def tw5863307520868610379 := ()
def tw15481050170401247121 := ()
def tw10647880922905121291 := ()
def tw15855433063334341153 := ()
def tw6966061631890755868 := ()
def tw17564175854078320321 := ()
def tw11078453014605562546 := ()
def tw15718821397102759849 := ()
def tw9602510800058218416 := ()
def tw18166985018071949263 := ()
def tw8713322080651618854 := ()
def tw8613149397828319081 := ()
def tw13451067949666101281 := ()
def tw9209275515775383364 := ()
def tw587648395529044743 := ()
def tw18163574480436674046 := ()
def tw12051998945836964694 := ()
def tw15432172187385739953 := ()
def tw18101865485875399144 := ()
def tw2524759669130585286 := ()
def tw8226990482068402719 := ()
def tw6513216517817956301 := ()
def tw8244208278241075009 := ()
def tw14129253903688584507 := ()
def tw17270836435192722632 := ()
def tw17070618876369467607 := ()
def tw4002051929202398829 := ()
def tw10537092321896110522 := ()
def tw14068463267188874351 := ()
def tw11396731282114894141 := ()
def tw7179007658887302976 := ()
def tw7455810155090048422 := ()
def tw3865624086310532664 := ()
def tw1531310675487717677 := ()
def tw5413045359175563406 := ()
def tw400344124861577298 := ()
def tw1716463994127150298 := ()
def tw7580184991455739758 := ()
def tw12224103154914390283 := ()
def tw18181772091710183463 := ()
def tw14762975479843676795 := ()
def tw13454660763781204571 := ()
def tw12534098967867619084 := ()
def tw15563374109375404349 := ()
def tw6071454166058640962 := ()
def tw15579087407835475542 := ()
def tw10238493395229297154 := ()
def tw7207261030015948200 := ()
def tw12856085736244929962 := ()
def tw16992250318232867355 := ()
def tw5495144801374843539 := ()
def tw10702368789231538956 := ()
def tw3195634947636209585 := ()
def tw16484269539062623055 := ()
def tw6673395555787714802 := ()
def tw1887729917062334811 := ()
def tw4865515994394411684 := ()
def tw16934271583301927249 := ()
def tw6401897211186208645 := ()
def tw15316601929692088711 := ()
def tw15961843781952904191 := ()
def tw13463078355937088971 := ()
def tw2045686706192593533 := ()
def tw9253481566301034873 := ()
def tw10534435409147666795 := ()
def tw17267907525350882080 := ()
def tw4438085721452762768 := ()
def tw652626805846059002 := ()
def tw3288745757880417996 := ()
def tw13049408847237338901 := ()
def tw1597508023337573422 := ()
def tw17255817252113696463 := ()
def tw3081769153327904194 := ()
def tw2218684432018595357 := ()
def tw11619557829997948061 := ()
def tw15058216262931885689 := ()
def tw14010508736614994376 := ()
def tw12767610159155836713 := ()
def tw17838093443577152578 := ()
def tw10726443919033813390 := ()
def tw14373236452371681676 := ()
def tw5377445569989175397 := ()
def tw5901047323324293925 := ()
def tw16634405894370469711 := ()
def tw9928679063169471276 := ()
def tw11756251619136752966 := ()
def tw4648667217699334898 := ()
def tw16857396068528597280 := ()
def tw17848059613258663285 := ()
def tw17009873580951448277 := ()
def tw15413047733165725295 := ()
def tw5835262328067813940 := ()
def tw5629641343409110581 := ()
def tw8584473981749620939 := ()
def tw6135597482841653225 := ()
def tw10815906616266448144 := ()
def tw11993523289553120631 := ()
def tw5252959584485439329 := ()
def tw8973862362734652239 := ()
def tw15036325282487656697 := ()
def tw3527060470663820662 := ()
def tw11342709296099344532 := ()
def tw17331490254710335030 := ()
def tw14616159805997948949 := ()
def tw16775238290488643123 := ()
def tw1935590022500948806 := ()
def tw10883360785218391316 := ()
def tw5990723046063664233 := ()
def tw257959213847860369 := ()
def tw13307167426168683864 := ()
def tw16125994655115008134 := ()
def tw14534620675185513689 := ()
def tw10923789840308264681 := ()
def tw9724809663104983710 := ()
def tw13848451806500894124 := ()
def tw7107484388935543566 := ()
def tw11873469481037442982 := ()
def tw14758384657424260788 := ()
def tw2796914212728930413 := ()
def tw3880548200234535129 := ()
def tw11094981015197845382 := ()
def tw15046755636098391549 := ()
def tw3906969486553960725 := ()
def tw13272921063464029002 := ()
def tw9074789303942447708 := ()
def tw8499075924440000428 := ()
def tw6935130144853403420 := ()
def tw5646605918514569422 := ()
def tw3025924982660879249 := ()
def tw13185153389669368636 := ()
def tw184391334884097146 := ()
def tw17768920709755199022 := ()
def tw8468860006749230773 := ()
def tw3504510269564420652 := ()
def tw8044430273228023362 := ()
def tw4815467180518432775 := ()
def tw10840602533081935253 := ()
def tw15409486462925719412 := ()
def tw10436911442661212829 := ()
def tw16329389470925231486 := ()
def tw16566683551448137069 := ()
def tw3417381744188256494 := ()
def tw11344506321980793569 := ()
def tw8132109921432479444 := ()
def tw12547665134738103015 := ()
def tw10215312275190353221 := ()
def tw6589431947854862013 := ()
def tw13733478469612758664 := ()
def tw6274087812628601868 := ()
def tw12094295539774101754 := ()
def tw11836095221994857254 := ()
def tw5600079913128618326 := ()
def tw7568425071904815639 := ()
def tw6658206619240078321 := ()
def tw9672546004246973236 := ()
def tw10690148762792438158 := ()
def tw6721860092934638974 := ()
def tw17539933316282232985 := ()
def tw11613705450163115836 := ()
def tw12144822344115318630 := ()
def tw17640429304992779786 := ()
def tw17685302416069954086 := ()
def tw14004537276976222464 := ()
def tw2142305410435487631 := ()
def tw14930109995078835704 := ()
def tw15933198858449149698 := ()
def tw9726068564395220859 := ()
def tw6190246954289614032 := ()
def tw9102887650915428110 := ()
def tw9654979251139768452 := ()
def tw1162694018211846110 := ()
def tw4986519969682791488 := ()
def tw199574815044661607 := ()
def tw12274026926437216032 := ()
def tw10706724751260978631 := ()
def tw11021387531012349362 := ()
def tw10392205427991124599 := ()
def tw750512874771635152 := ()
def tw9272771939324647691 := ()
def tw1501174384439121585 := ()
def tw2053668605225739495 := ()
def tw4063807590432334639 := ()
def tw10015559034473020263 := ()
def tw14767400291984186300 := ()
def tw15803986054569748510 := ()
def tw9080309922420300276 := ()
def tw12433248659450657341 := ()
def tw13039500405325856678 := ()
def tw9252009436945837403 := ()
def tw5661207463466426739 := ()
def tw11660250629072059005 := ()
def tw1052967584998124442 := ()
def tw14459678444069822905 := ()
def tw1820322355613021362 := ()
def tw17391627115531375217 := ()
def tw10932140292924515795 := ()
def tw3899261268851728638 := ()
def tw2495765403410759118 := ()
def tw12565540768172482341 := ()
def tw15226261666795048584 := ()
def tw4387794446631994390 := ()
def tw7976571419151887130 := ()
def tw8116612109640418857 := ()
def tw1167524863695247650 := ()
def tw13349296245542373803 := ()
def tw14385834674764630980 := ()
def tw8366438373793603279 := ()
def tw16113492139471743120 := ()
def tw4520927755642241327 := ()
def tw5976249209444433719 := ()
def tw45248556770796199 := ()
def tw18095676964735426468 := ()
def tw11260548649904023710 := ()
def tw10863629731494004672 := ()
def tw3663881820717689043 := ()
def tw2562602841237173597 := ()
def tw16544715638948862128 := ()
def tw2939136448614621365 := ()
def tw4905913718773062412 := ()
def tw3842136267493106495 := ()
def tw17064232419791096299 := ()
def tw15750474658073493662 := ()
def tw15861643170071268562 := ()
def tw8878282149814608261 := ()
def tw13816860535505159752 := ()
def tw11537019344565541210 := ()
def tw3273047460444067203 := ()
def tw7402805384767404077 := ()
def tw5696835951363211528 := ()
def tw14970216675574862989 := ()
def tw12254403707080240776 := ()
def tw16227670384412860651 := ()
def tw12217918942171265592 := ()
def tw1726098164530772387 := ()
def tw16746272216518117840 := ()
def tw4914751260974413878 := ()
def tw18292858027931041559 := ()
def tw6580293142788737926 := ()
def tw2915003423457472797 := ()
def tw11087308535103921570 := ()
def tw6324115907047024993 := ()
def tw16504521463676791076 := ()
def tw14659845279263141333 := ()
def tw13796861831033463831 := ()
def tw6328716594074227040 := ()
def tw13376221697499385308 := ()
def tw8513870084119500743 := ()
def tw16603355323323349288 := ()
def tw1224103680228757898 := ()
def tw9842715245782130064 := ()
def tw10994296154396507199 := ()
def tw9158706365721903435 := ()
def tw8709561219626224496 := ()
def tw5216639559225672531 := ()
def tw12162418160095110589 := ()
def tw12274344127345370079 := ()
def tw8921344408379552148 := ()
def tw736446486899832122 := ()
def tw9412241287258962426 := ()
def tw1328246577514313588 := ()
def tw11634521468126590123 := ()
def tw639911418808599274 := ()
def tw17935744307492322294 := ()
def tw11119322343513938513 := ()
def tw16553849815171210243 := ()
def tw12493019982026000961 := ()
def tw14742386265243292259 := ()
def tw14672931440680319872 := ()
def tw14950198472100891803 := ()
def tw4487914144506884268 := ()
def tw18162661396221041507 := ()
def tw5462295101022804151 := ()
def tw14106849745515815742 := ()
def tw18125929652899368223 := ()
def tw17823333715011250756 := ()
def tw12958383537940459460 := ()
def tw8196226524274126584 := ()
def tw18234473082089787164 := ()
def tw12748520299822520932 := ()
def tw2995244555571128192 := ()
def tw16657891688117270625 := ()
def tw18389592865371379534 := ()
def tw2546847911808205321 := ()
def tw15109716788892710778 := ()
def tw13225465296802133085 := ()
def tw5743148994251607708 := ()
def tw528364806630035183 := ()
def tw917066715540514433 := ()
def tw9539378510388204011 := ()
def tw1536117141483276565 := ()
def tw17858753380276995992 := ()
def tw8902631873543203633 := ()
def tw14519943894222936918 := ()
def tw12166958308142714357 := ()
def tw14627729379234298746 := ()
def tw6714115368789202992 := ()
def tw10374152660768376541 := ()
def tw17928769448386429920 := ()
def tw14820885837079432326 := ()
def tw4344172881562209309 := ()
def tw2860270077471046527 := ()
def tw1335738986283033495 := ()
def tw1180590152131381590 := ()
def tw120592820673221252 := ()
def tw14317214225728971288 := ()
def tw4155166686609525713 := ()
def tw2260357438032695475 := ()
def tw13357564108670762179 := ()
def tw4898645354835359193 := ()
def tw12593837164737583048 := ()
def tw13776596416839926122 := ()
def tw16692060491601256735 := ()
def tw10050329244732132112 := ()
def tw16556767800581472214 := ()
def tw9769372717684260204 := ()
def tw8823962093127713611 := ()
def tw2438260790547807709 := ()
def tw13836346156628610774 := ()
def tw1592172532418197449 := ()
def tw14138108137915953668 := ()
def tw11096558911756703910 := ()
def tw12449943108952649291 := ()
def tw1878400350421353333 := ()
def tw4491999614006454892 := ()
def tw10856682914020496753 := ()
def tw9837539221840884048 := ()
def tw4128326628551126792 := ()
def tw3998851779989841174 := ()
def tw9734796800659889033 := ()
def tw8300251314661536969 := ()
def tw16869041328195093755 := ()
def tw17242830426285070673 := ()
def tw14684048651170752672 := ()
def tw10495217797844753302 := ()
def tw637425253552178164 := ()
def tw6165452605328912560 := ()
def tw17069207356756959313 := ()
def tw7701781347919921485 := ()
def tw18152833929201347644 := ()
def tw14048981466761763443 := ()
def tw14677355021084090089 := ()
def tw16334435749217920238 := ()
def tw1432546105529631887 := ()
def tw15523880798083730966 := ()
def tw15188616626687864877 := ()
def tw13088847535780068921 := ()
def tw17647917370120147368 := ()
def tw13713567465431035290 := ()
def tw13385715691784912793 := ()
def tw10276685307890830523 := ()
def tw15944962863164402014 := ()
def tw4154199299713088177 := ()
def tw17562441631411114337 := ()
def tw1514246664577487501 := ()
def tw5384844909157727674 := ()
def tw14361714948244875859 := ()
def tw3992533313619389429 := ()
def tw10702237438388166784 := ()
def tw882351549093915337 := ()
def tw3905394746038238248 := ()
def tw17100770946087961744 := ()
def tw808574466417783270 := ()
def tw1787910874757796464 := ()
def tw18402788126372068581 := ()
def tw13514692655460760790 := ()
def tw3050093482884606048 := ()
def tw4524183847000316543 := ()
def tw8228194976938094235 := ()
def tw662592626181315816 := ()
def tw2309562152316619498 := ()
def tw1114041718524605613 := ()
def tw556447489362500659 := ()
def tw2592625174874725536 := ()
def tw3610067053977461773 := ()
def tw11695564128698344552 := ()
def tw852033250599677211 := ()
def tw735955488025779727 := ()
def tw15377535795532299135 := ()
def tw17915882214361166400 := ()
def tw624018617171921474 := ()
def tw18297062094642788021 := ()
def tw10352704025506706786 := ()
def tw335916464577993018 := ()
def tw14432893544545501837 := ()
def tw13549633011940056853 := ()
def tw576794996333377509 := ()
def tw12986363531837238105 := ()
def tw12121955262114923717 := ()
def tw7764564160439551336 := ()
def tw6100559926364622968 := ()
def tw16139233766006619845 := ()
def tw13492893060818818016 := ()
def tw4545637588680004383 := ()
def tw12128654845227226203 := ()
def tw9973094973504387792 := ()
def tw17409612849642911092 := ()
def tw15656326544312798123 := ()
def tw11304150183342900368 := ()
def tw4118744291698217621 := ()
def tw3281552383088557513 := ()
def tw2199170834616999078 := ()
def tw12703705467091867883 := ()
def tw14586817600833732404 := ()
def tw13963281861110709815 := ()
def tw6469617637929374264 := ()
def tw6056362297793604574 := ()
def tw4214140724592105412 := ()
def tw6664748674674898970 := ()
def tw7008066766924980623 := ()
def tw5538189241054118854 := ()
def tw13906334577354847795 := ()
def tw14378895546784783086 := ()
def tw5797875977519286018 := ()
def tw12726974598371155126 := ()
def tw10765545355374544556 := ()
def tw5037703719095262349 := ()
def tw400567651761509326 := ()
def tw8236516249411142524 := ()
def tw3505070780896840783 := ()
def tw17653596011169945459 := ()
def tw16827666273251701103 := ()
def tw17273003828314871756 := ()
def tw6399201775172231836 := ()
def tw7518736363526381753 := ()
def tw10866751380964195143 := ()
def tw15059357645201509724 := ()
def tw14760344556823190377 := ()
def tw4227426725856502054 := ()
def tw1524300720377897970 := ()
def tw5976526570066876443 := ()
def tw5241232462511020187 := ()
def tw15280517850949596382 := ()
def tw1499774252746012861 := ()
def tw12550317747181605666 := ()
def tw6627395060273938854 := ()
def tw14966064502681567109 := ()
def tw3451326533298926 := ()
def tw6800198111085909 := ()
def tw18193621133145098812 := ()
def tw10145995014522884464 := ()
def tw17057154730135871804 := ()
def tw1159897940699231634 := ()
def tw18085923064086435658 := ()
def tw7335812100149531515 := ()
def tw5267794926150467315 := ()
def tw9957640564613474747 := ()
def tw11304677699515313854 := ()
def tw3254125107691044225 := ()
def tw8883033930980956864 := ()
def tw1931397592713057213 := ()
def tw1823796951367449924 := ()
def tw777785684631099818 := ()
def tw6746956827345084134 := ()
def tw2378570998297444527 := ()
def tw2167335161022595655 := ()
def tw9759294515635311518 := ()
def tw5756709274299568440 := ()
def tw4237764726838808774 := ()
def tw5615097551178996954 := ()
def tw12508376524610913975 := ()
def tw14461958736929797440 := ()
def tw10895218292001892567 := ()
def tw14619735107896950481 := ()
def tw11900031962365662311 := ()
def tw490549055153553756 := ()
def tw5059173702191470850 := ()
def tw7393340616449551578 := ()
def tw13102070272227144429 := ()
def tw7995243251244635789 := ()
def tw5172502018867100027 := ()
def tw4053748866779594881 := ()
def tw6019561693100619522 := ()
def tw7250396618405205715 := ()
def tw9944055899334168162 := ()
def tw14683402942649997787 := ()
def tw13391372669201355372 := ()
def tw12031501932042934856 := ()
def tw4426154556831056744 := ()
def tw1284429432256230031 := ()
def tw9356484613925732409 := ()
def tw3966250313627408218 := ()
def tw9245170383443238858 := ()
def tw15223491665311019921 := ()
def tw1738140992912421785 := ()
def tw6627702073150741289 := ()
def tw13122215662629724751 := ()
def tw2147135377087631304 := ()
def tw5023381333885421303 := ()
def tw14012054738551900387 := ()
def tw4235575054752932921 := ()
def tw13103511012670570627 := ()
def tw5351394946097123483 := ()
def tw16775009141388454165 := ()
def tw7058329507017661480 := ()
def tw9180470361908913590 := ()
def tw2762179370712849788 := ()
def tw11498625947068012232 := ()
def tw18187119841470693375 := ()
def tw16703090180987176731 := ()
def tw16896064742064186280 := ()
def tw6189340894716225571 := ()
def tw5806806980853148519 := ()
def tw17637956161332502039 := ()
def tw53224458008938056 := ()
def tw3757336622985832307 := ()
def tw2743340512232540986 := ()
def tw16089437743442377303 := ()
def tw9702258081357642521 := ()
def tw17290876693615511953 := ()
def tw5227643026471783741 := ()
def tw10287217813147442631 := ()
def tw4519924930148590633 := ()
def tw15003719166403108954 := ()
def tw136022933518958057 := ()
def tw12126667794379608298 := ()
def tw16393668538030952232 := ()
def tw890697185089874322 := ()
def tw6490211953840118582 := ()
def tw12547698335230879369 := ()
def tw8329403117495125293 := ()
def tw1328410646294501084 := ()
def tw14685626455222271126 := ()
def tw16742645291641388609 := ()
def tw1184521086444512310 := ()
def tw4022648092410779210 := ()
def tw6524471120816381468 := ()
def tw4932259221421927601 := ()
def tw4819408722710910589 := ()
def tw18168377220559664395 := ()
def tw13678239195566795396 := ()
def tw2339503275492254830 := ()
def tw10610798148322070025 := ()
def tw2655106612435492200 := ()
def tw13000943857930470514 := ()
def tw12747473044448914638 := ()
def tw2541252359008659535 := ()
def tw14431763305108004039 := ()
def tw2969779309800078049 := ()
def tw5886278267934168567 := ()
def tw560983570674504674 := ()
def tw15813224338406142669 := ()
def tw7044981207040361564 := ()
def tw4238503206398840339 := ()
def tw14235180856874910443 := ()
def tw11211738262752679045 := ()
def tw12854512811158177337 := ()
def tw6541049450476235360 := ()
def tw16441542170598387144 := ()
def tw15512775980251105992 := ()
def tw9276760112145733506 := ()
def tw8545666261086964270 := ()
def tw10394522824871686766 := ()
def tw16471134073738791272 := ()
def tw15896902448477251524 := ()
def tw13708695414901784382 := ()
def tw7073469244688948509 := ()
def tw8526564898459884091 := ()
def tw9388626636316957113 := ()
def tw13360792520819875985 := ()
def tw3832034223002072625 := ()
def tw2739401156673838806 := ()
def tw15698105180742391009 := ()
def tw18322057973422413590 := ()
def tw12979666606171032530 := ()
def tw6718835804435112353 := ()
def tw10752692214223898767 := ()
def tw4407907834267798736 := ()
def tw6565222858050859267 := ()
def tw1492723553274596333 := ()
def tw7847527885249882460 := ()
def tw2435742182150779466 := ()
def tw13578138500899628497 := ()
def tw10205537585335881691 := ()
def tw4817817326525308764 := ()
def tw7593430916624553322 := ()
def tw797831452330112036 := ()
def tw12001985482195488925 := ()
def tw13805715644714847197 := ()
def tw9504808316744726296 := ()
def tw12837375321588651961 := ()
def tw10603533567706324922 := ()
def tw5795642915186844523 := ()
def tw480462708634599062 := ()
def tw9338697670898400521 := ()
def tw13457606926018233153 := ()
def tw15810594332061592284 := ()
def tw5650316951664376794 := ()
def tw18315642655052371137 := ()
def tw4703787227757982081 := ()
def tw12958149442709622870 := ()
def tw3558287717334688275 := ()
def tw8913807218576281634 := ()
def tw4235957272383465034 := ()
def tw15065119712386187040 := ()
def tw6860984068542207608 := ()
def tw4407344862808160329 := ()
def tw16825344079249694120 := ()
def tw16897953014321290947 := ()
def tw3794134984048674561 := ()
def tw3542042286503746028 := ()
def tw10757671096628231214 := ()
def tw5275622513358355409 := ()
def tw10418991163904733397 := ()
def tw7940967148854445475 := ()
def tw3545577372506019398 := ()
def tw15705015689007567576 := ()
def tw13689733789379876603 := ()
def tw2042489793404238480 := ()
def tw9410123142327072206 := ()
def tw9042058222230738553 := ()
def tw9519123975228843321 := ()
def tw11615961278408566208 := ()
def tw3428300089614172721 := ()
def tw13725004354502220503 := ()
def tw11460837820911204732 := ()
def tw5753999960464335802 := ()
def tw6953818111295870647 := ()
def tw11647904465254044889 := ()
def tw5834621502059936164 := ()
def tw1673072696840637746 := ()
def tw18166744405058476078 := ()
def tw5026736843591364469 := ()
def tw15291621407422352805 := ()
def tw5472639996735906168 := ()
def tw14424153623021569164 := ()
def tw15956100386672598948 := ()
def tw911891488660493638 := ()
def tw14858271170035300443 := ()
def tw16667990973483727446 := ()
def tw2194584200568456421 := ()
def tw14900024602132424532 := ()
def tw17560977571098406647 := ()
def tw14172451408514257105 := ()
def tw9128955861682133724 := ()
def tw1260429588351162750 := ()
def tw9052881333460365974 := ()
def tw10639557187338627956 := ()
def tw10802722534760736801 := ()
def tw16578426025506844061 := ()
def tw11970959800505747439 := ()
def tw14909425425376134591 := ()
def tw514552532350046714 := ()
def tw5416306343959046896 := ()
def tw2349382682246884998 := ()
def tw17075992508269123004 := ()
def tw12978044279270619389 := ()
def tw11445818410930608304 := ()
def tw8300233303937499784 := ()
def tw7202793878302972759 := ()
def tw12909454763686399323 := ()
def tw8006855202417991842 := ()
def tw6069643315863958911 := ()
def tw15330928735473863280 := ()
def tw1748687170762691470 := ()
def tw5084153112144711304 := ()
def tw9570914045713118192 := ()
def tw11714474294833388797 := ()
def tw2348435761700157417 := ()
def tw16656220278432581237 := ()
def tw14486746266614709320 := ()
def tw14042896048628564848 := ()
def tw6920637415594395008 := ()
def tw15635947664947851480 := ()
def tw7185603141856300047 := ()
def tw17002114624139472547 := ()
def tw14857052845794864776 := ()
def tw7883607224045737365 := ()
def tw16291345300529701514 := ()
def tw14258237394479483101 := ()
def tw3634950067775880645 := ()
def tw7139072982393228287 := ()
def tw5871173710192598303 := ()
def tw8112792024297448479 := ()
def tw5113238611002417046 := ()
def tw8193145742915322568 := ()
def tw13684600904429914220 := ()
def tw6378121728615733428 := ()
def tw9047656752164423240 := ()
def tw3161355606061763092 := ()
def tw17063562415433464570 := ()
def tw14584364106498940797 := ()
def tw3121620308589529059 := ()
def tw13490967675757943395 := ()
def tw2524216698125914735 := ()
def tw10021193453087318049 := ()
def tw8492921550576582657 := ()
def tw9267478823469446783 := ()
def tw3539386659627978502 := ()
def tw8664766852877643224 := ()
def tw13812356423784310655 := ()
def tw5290703656521431627 := ()
def tw7994071247758794679 := ()
def tw8482965569976252411 := ()
def tw11113513678202650460 := ()
def tw1789407972216974781 := ()
def tw6982286719066794495 := ()
def tw14511855016121343960 := ()
def tw11296204711230146153 := ()
def tw14350767214621582676 := ()
def tw12494452544249746094 := ()
def tw1038580705888255621 := ()
def tw2680327563245822168 := ()
def tw5752628519525466107 := ()
def tw2622689471218233958 := ()
def tw7566440497220839827 := ()
def tw3594140119626475134 := ()
def tw5340359937526322354 := ()
def tw5898648041662950445 := ()
def tw6871290241870056877 := ()
def tw14574112130573603213 := ()
def tw371398679383615429 := ()
def tw15801748584930556069 := ()
def tw8093388714990342520 := ()
def tw11562628185541435321 := ()
def tw15667576123382207218 := ()
def tw7239315917510711112 := ()
def tw4362587592488453120 := ()
def tw17937302527288452875 := ()
def tw16014663156571014036 := ()
def tw7213185407075369854 := ()
def tw11899630231813502167 := ()
def tw16159690549529237261 := ()
def tw7563000130274163319 := ()
def tw449697649074173736 := ()
def tw12734254064661481406 := ()
def tw13134343885956037739 := ()
def tw3204529467615509017 := ()
def tw10424977377216297376 := ()
def tw7202499989917957322 := ()
def tw4704445349102242173 := ()
def tw17315579113740296737 := ()
def tw8878541182163033853 := ()
def tw5853887125195628589 := ()
def tw8953328846319052047 := ()
def tw6702482365226707939 := ()
def tw4858436183441488201 := ()
def tw1315176087842025871 := ()
def tw2267511351667699437 := ()
def tw13245577936361203776 := ()
def tw4370727854478184189 := ()
def tw10394002857160926633 := ()
def tw5518397454417555090 := ()
def tw10800883942697956619 := ()
def tw10640620842069446776 := ()
def tw9787809724626608221 := ()
def tw12134135402629753584 := ()
def tw7944237691534126241 := ()
def tw14032942586592751825 := ()
def tw446775584190502083 := ()
def tw6010247572403277163 := ()
def tw17576602275107970372 := ()
def tw8300497385931329501 := ()
def tw13875177359676696273 := ()
def tw6557215039092793566 := ()
def tw5197101782909932742 := ()
def tw14295385517899676604 := ()
def tw14016093503670505904 := ()
def tw10375520289432569621 := ()
def tw417611556133199328 := ()
def tw18192620096842404715 := ()
def tw10800685140158656103 := ()
def tw5909259650193608015 := ()
def tw3163385120633805070 := ()
def tw14575782933399731393 := ()
def tw134801443406918167 := ()
def tw6337654109970263652 := ()
def tw6796047429110524702 := ()
def tw11297378640370271887 := ()
def tw15566026753677287110 := ()
def tw4151481355308613748 := ()
def tw8216450310579775926 := ()
def tw6347091237459524032 := ()
def tw3432550873103618917 := ()
def tw12415412329924566172 := ()
def tw9080757056815832208 := ()
def tw1907316091427374426 := ()
def tw12327778876847021361 := ()
def tw3622619599340949606 := ()
def tw5935875718987171647 := ()
def tw9914515779268461510 := ()
def tw1236076111478772946 := ()
def tw10050618410413895964 := ()
def tw4854827276343807171 := ()
def tw3234160653604343063 := ()
def tw2925697110449196154 := ()
def tw15794802275145880684 := ()
def tw12737339737815552960 := ()
def tw8313053686011545088 := ()
def tw15797492308875762763 := ()
def tw3533055548434622353 := ()
def tw695599728811026261 := ()
def tw2888897012496129155 := ()
def tw10331188898693571165 := ()
def tw8010237788443595523 := ()
def tw14495738991650044007 := ()
def tw5510145367847770384 := ()
def tw14858117460393166297 := ()
def tw12088220551588420396 := ()
def tw16336280109685868545 := ()
def tw2243435600977477463 := ()
def tw10705350283643850938 := ()
def tw3534139216924370334 := ()
def tw14778131733653457067 := ()
def tw13738313616675956793 := ()
def tw5232993229015739220 := ()
def tw15531763267566061138 := ()
def tw16913076818085723376 := ()
def tw17204276353908036356 := ()
def tw4094963146182877471 := ()
def tw8865740360401821589 := ()
def tw3438213801062640995 := ()
def tw4657935960933887647 := ()
def tw17998381974201186460 := ()
def tw9569450277217609150 := ()
def tw5260860292538993987 := ()
def tw4142596136101943858 := ()
def tw7110409953522635213 := ()
def tw7454657102616583226 := ()
def tw5931991160000779014 := ()
def tw12794819726925318963 := ()
def tw14438436144925873743 := ()
def tw6065906080925497959 := ()
def tw11409827884022450197 := ()
def tw2645255676415588820 := ()
def tw15112933989510323818 := ()
def tw9829423552380168728 := ()
def tw12136623659530397850 := ()
def tw10873382487497530955 := ()
def tw17800590024730432661 := ()
def tw11473052355693157693 := ()
def tw9789970110879842033 := ()
def tw13020551318467304599 := ()
def tw4241055866375198943 := ()
def tw15831180044655530407 := ()
def tw15858212676028388446 := ()
def tw15039187715188341586 := ()
def tw14048086504335364487 := ()
def tw10342852252238167438 := ()
def tw18430843758279136264 := ()
def tw9796385564065225326 := ()
def tw8491157920468329676 := ()
def tw9037434172517602996 := ()
def tw3093912517046309248 := ()
def tw4671414204548004267 := ()
def tw5098237383785108619 := ()
def tw8684404668279540484 := ()
def tw15841147714884697844 := ()
def tw13790070877035753162 := ()
def tw1009314744149976738 := ()
def tw15989254756086168247 := ()
def tw5987511625108394865 := ()
def tw12568186429117116246 := ()
def tw7977625790231284801 := ()
def tw9585650402105738066 := ()
def tw2829109873770680358 := ()
def tw6932043591983543419 := ()
def tw17081472906212533247 := ()
def tw11961390918498636195 := ()
def tw4513524575603732445 := ()
def tw2273761612485653290 := ()
def tw7816609796270293325 := ()
def tw7238169704412202816 := ()
def tw5668394527901001804 := ()
def tw1280644739301860975 := ()
def tw4869144995819775831 := ()
def tw15439853036623490365 := ()
def tw2509275146182121861 := ()
def tw5956119277151474512 := ()
def tw16005888420670967717 := ()
def tw1523635167204434989 := ()
def tw5640648864718356596 := ()
def tw4210737550333452907 := ()
def tw7129137897873768959 := ()
def tw15356627846916214993 := ()
def tw12814821159670067581 := ()
def tw13729682805468650182 := ()
def tw9740777692281884636 := ()
def tw1746244038874219563 := ()
def tw8570267475720045928 := ()
def tw8904658540645026709 := ()
def tw16706278221048766362 := ()
def tw17786750603542730582 := ()
def tw17633241098589722627 := ()
def tw3691807981494803566 := ()
def tw16777795105100179686 := ()
def tw17579550139866358628 := ()
def tw13624051603557384637 := ()
def tw988756383578471151 := ()
def tw13733395842335139230 := ()
def tw15891238578833039298 := ()
def tw1637365146913850564 := ()
def tw8769771333783927689 := ()
def tw4809564307482986088 := ()
def tw9685682403545464205 := ()
def tw5593719468175335053 := ()
def tw2558207242327974892 := ()
def tw16884218389230831799 := ()
def tw1719276454139476275 := ()
def tw13713213585120856023 := ()
def tw5969568769239473971 := ()
def tw7384536239561256735 := ()
def tw2151718360281410175 := ()
def tw6861419170951224314 := ()
def tw16727266902806857794 := ()
def tw6954241572049105776 := ()
def tw18220815437895984003 := ()
def tw2072190862896068999 := ()
def tw11550145833925252785 := ()
def tw5878213540079378146 := ()
def tw10057115523222820031 := ()
def tw14340733763517552235 := ()
def tw2341016743141765876 := ()
def tw9041603194561093666 := ()
def tw1307955564082578916 := ()
def tw4851495064969920729 := ()
def tw406021732527281644 := ()
def tw2080526543253283372 := ()
def tw8818353827420564196 := ()
def tw9781720608631217798 := ()
def tw4762056740003030987 := ()
def tw7781240432217678047 := ()
def tw3258731084351018300 := ()
def tw17072272176319117686 := ()
def tw7485512386911165773 := ()
def tw9368639595224755204 := ()
def tw7936414473038757336 := ()
def tw8724073040269802157 := ()
def tw17977740935344703150 := ()
def tw1218670740409048037 := ()
def tw17575136654663459144 := ()
def tw17102286230186419023 := ()
def tw9059495657711747808 := ()
def tw1424315366984956187 := ()
def tw10736477955143855662 := ()
def tw7529290262497631300 := ()
def tw12634058642747105763 := ()
def tw15168356851663316292 := ()
def tw16394596755722076148 := ()
def tw5309776506023558168 := ()
def tw17964156818329611625 := ()
def tw12882856928927939597 := ()
def tw788062767091844577 := ()
def tw2857697056371603787 := ()
def tw5321641072010532049 := ()
def tw14472792307283210744 := ()
def tw17018960269735855497 := ()
def tw15307603826170887506 := ()
def tw16840395188865526725 := ()
def tw7336544821219007119 := ()
def tw5508806149017069263 := ()
def tw17782185416917654893 := ()
def tw4741302883019552373 := ()
def tw1438979059590949827 := ()
def tw7636260854775264879 := ()
def tw10600548339855015146 := ()
def tw2243020201906397201 := ()
def tw3276622995950326192 := ()
def tw15738163485539529712 := ()
def tw12402714787876398825 := ()
def tw15217299309830350150 := ()
def tw3483787024267963897 := ()
def tw7509760208118839623 := ()
def tw10157765691031334250 := ()
def tw2770685005397919762 := ()
def tw17980168531075294231 := ()
def tw13559017202043738846 := ()
def tw696706465331160882 := ()
def tw13739623494688039435 := ()
def tw16688155961001761416 := ()
def tw104140451800638968 := ()
def tw13149436521496780104 := ()
def tw11074412749260634047 := ()
def tw9054467651065560252 := ()
def tw1791304972193000469 := ()
def tw9910025576099354561 := ()
def tw17327083631295282138 := ()
def tw13149123940696603408 := ()
def tw9807500952434797810 := ()
def tw10521818791095224603 := ()
def tw15434989269407267209 := ()
def tw2313955760542312703 := ()
def tw5641485352693557988 := ()
def tw16191257613089835218 := ()
def tw3238546987303709965 := ()
def tw6056228007417471944 := ()
def tw13258586854011695386 := ()
def tw10617436555529009464 := ()
def tw11204789603626510730 := ()
def tw8108479391433704151 := ()
def tw11560373051153690941 := ()
def tw7657729326244842695 := ()
def tw17493516584155775090 := ()
def tw15343115464614142290 := ()
def tw10155273136422126802 := ()
def tw1192582318763980079 := ()
def tw12414052503713863904 := ()
def tw5178443038504062443 := ()
def tw8395373264649911075 := ()
def tw993302881383235889 := ()
def tw15173334130876613947 := ()
def tw15486198778731998605 := ()
def tw5197919357367219830 := ()
def tw8970797867208604402 := ()
def tw13196656622816941998 := ()
def tw9264783469325528531 := ()
def tw16916248676244609952 := ()
def tw9362969925713054726 := ()
def tw16728625603964241007 := ()
def tw9421543004050708966 := ()
def tw9067673720353600369 := ()
def tw9935464049611230455 := ()
def tw17774838093314254762 := ()
def tw16244328655268906529 := ()
def tw10502524870173719513 := ()
def tw12659403033182502755 := ()
def tw3354449499963725150 := ()
def tw607871268390895162 := ()
def tw782429983340536734 := ()
def tw9923892170247926894 := ()
def tw12648088366113742723 := ()
def tw9316461728506673736 := ()
def tw12963706094991458106 := ()
def tw12897827144131748022 := ()
def tw4264730885422305209 := ()
def tw7364487009973017377 := ()
def tw1958259519600800454 := ()
def tw11951166833940806308 := ()
def tw10964652992087689465 := ()
def tw2312191273039243487 := ()
def tw14838434361272866428 := ()
def tw8681344428595863517 := ()
def tw8392061206360459909 := ()
def tw4604409899185016152 := ()
def tw13378279249702992285 := ()
def tw1720603127365812446 := ()
def tw3651114201004585631 := ()
def tw6825381393400281155 := ()
def tw191383901985338676 := ()
def tw7878267967265422154 := ()
def tw9880639739348828116 := ()
def tw12141619052835613046 := ()
def tw10932605600785008919 := ()
def tw1570946279122883876 := ()
def tw4977770773259143447 := ()
def tw13032179149883625928 := ()
def tw14731101855623657710 := ()
def tw3287767116886621259 := ()
def tw4731087310996650850 := ()
def tw12636252920232701697 := ()
def tw7584677817701168116 := ()
def tw11124500712408550234 := ()
def tw12494698942924132023 := ()
def tw2923090676686949129 := ()
def tw12516731141165700898 := ()
def tw14802597150253934280 := ()
def tw11325152282224549917 := ()
def tw15155105015892659974 := ()
def tw14407293087068109539 := ()
def tw11541139678266331458 := ()
def tw10160767758348203686 := ()
def tw9326411870997383886 := ()
def tw6414190760305172191 := ()
def tw15059454502253370543 := ()
def tw12438799719803778490 := ()
def tw1989966120126119218 := ()
def tw7559808958863614436 := ()
def tw12980677098405974962 := ()
def tw14499378558634768789 := ()
def tw16638090664562929048 := ()
def tw13870602724701292818 := ()
def tw803030026384543156 := ()
def tw12699500617300775343 := ()
def tw7794945966568214696 := ()
def tw14637729393119072109 := ()
def tw3056619282144851212 := ()
def tw9597612824522637673 := ()
def tw5537178435659752680 := ()
def tw4068401107242814878 := ()
def tw9141382377997325950 := ()
def tw12642854873296003992 := ()
def tw10114125239390889435 := ()
def tw13598277644273353980 := ()
def tw1621186078213862802 := ()
def tw7465166588589385598 := ()
def tw4707278475277107844 := ()
def tw8103339517050854956 := ()
def tw10784567659166903059 := ()
def tw16267755900446229751 := ()
def tw4540362274860596029 := ()
def tw900568871269250141 := ()
def tw10667632055739430717 := ()
def tw6340501357908676526 := ()
def tw8649534094705677551 := ()
def tw5412926876619620774 := ()
def tw16875404661075234699 := ()
def tw14046885408527157958 := ()
def tw334596322965936414 := ()
def tw354199506779037544 := ()
def tw9511833603903872174 := ()
def tw1815769874921849180 := ()
def tw12782198107428868993 := ()
def tw1354649624432355440 := ()
def tw14202029874995732576 := ()
def tw2042089030922499690 := ()
def tw6403164128238999857 := ()
def tw5718905807731131878 := ()
def tw6600211653480992232 := ()
def tw16771334608146892853 := ()
def tw555356295199409575 := ()
def tw7460900864936685962 := ()
def tw2411857877234021956 := ()
def tw10848963564928108801 := ()
def tw5201870109396902129 := ()
def tw1147352746076595042 := ()
def tw13490505873945898796 := ()
def tw10764063029071659400 := ()
def tw14293137764437229693 := ()
def tw4198373977798342198 := ()
def tw9147493526585632031 := ()
def tw7135114292214783464 := ()
def tw8636397504621345843 := ()
def tw15522226846158646926 := ()
def tw16001143443457419580 := ()
def tw6909078284056914256 := ()
def tw12413151558984666321 := ()
def tw3363538976605682059 := ()
def tw1646696348718144389 := ()
def tw10662891154861666808 := ()
def tw14557720093365020597 := ()
def tw10249579899043664619 := ()
def tw3897409295271732271 := ()
def tw18265647444847472941 := ()
def tw11622789863405760359 := ()
def tw17417764147140346423 := ()
def tw5596447489174760389 := ()
def tw6779078991770572314 := ()
def tw3500778945922719944 := ()
def tw4684080118263010435 := ()
def tw13469973184432194846 := ()
def tw4409786730716981503 := ()
def tw13103869587381422187 := ()
def tw8129699206185386295 := ()
def tw1352314557104476570 := ()
def tw5432289455563032726 := ()
def tw13792509587266508682 := ()
def tw13263033618247903416 := ()
def tw5033707350887803474 := ()
def tw4401789526308443609 := ()
def tw5549138608705534304 := ()
def tw15007410020112417927 := ()
def tw15010053498585214509 := ()
def tw3090968227496997774 := ()
def tw12591829696197364202 := ()
def tw2312349586973619474 := ()
def tw5636820109434046514 := ()
def tw2613261533439307706 := ()
def tw7057151611633042728 := ()
def tw12878656153783291869 := ()
def tw10140110491068651951 := ()
def tw8994515912677593022 := ()
def tw10455407127115534081 := ()
def tw3317468306954060808 := ()
def tw6771511563794831279 := ()
def tw10219832796466180603 := ()
def tw5200976134301940614 := ()
def tw8649239247662712729 := ()
def tw10967513532027307623 := ()
def tw3837008225399937468 := ()
def tw11607189278228835432 := ()
def tw12517866900177622729 := ()
def tw4026912483985416873 := ()
def tw4086231212428738333 := ()
def tw7043005860952519457 := ()
def tw15707408406376594848 := ()
def tw17549488916582909820 := ()
def tw11839055138598286171 := ()
def tw14401972021992234310 := ()
def tw2716140278306824054 := ()
def tw15283241940836413561 := ()
def tw7206063506108862631 := ()
def tw10508404513287425867 := ()
def tw5972840930186168545 := ()
def tw2138679574289898820 := ()
def tw3945023125562062575 := ()
def tw14259597340948034933 := ()
def tw5429757347493339807 := ()
def tw3507695541896891021 := ()
def tw9729736503029430209 := ()
def tw972490013705387275 := ()
def tw11674612710199585726 := ()
def tw15816227933814105139 := ()
def tw7137656543847231776 := ()
def tw17673467588354055382 := ()
def tw2258154643534836199 := ()
def tw6674906928589293990 := ()
def tw3378027213221464143 := ()
def tw17739133518017068317 := ()
def tw17548467883711730165 := ()
def tw13239175139694171525 := ()
def tw15457953404588018642 := ()
def tw5381884535730297084 := ()
def tw11960179990391534503 := ()
def tw5493592675261959425 := ()
def tw1668756438696724538 := ()
def tw3881306796034766752 := ()
def tw3775103557342755140 := ()
def tw15939777542765909272 := ()
def tw14211067620389623071 := ()
def tw13939275953892159995 := ()
def tw16287595989560810154 := ()
def tw691360383390867022 := ()
def tw9411075914884554002 := ()
def tw5537439482155978865 := ()
def tw13203152177256458684 := ()
def tw8916063797518668571 := ()
def tw11333132743253379458 := ()
def tw4583744975701905053 := ()
def tw1761030675711782704 := ()
def tw15186891067759683331 := ()
def tw5230670923791236285 := ()
def tw12698973023613147871 := ()
def tw10802035968425503036 := ()
def tw11357668538707105314 := ()
def tw13794838755173395462 := ()
def tw6027863046770342731 := ()
def tw2342701732888019211 := ()
def tw1382816932871973487 := ()
def tw1673733348265433550 := ()
def tw4183161029880768387 := ()
def tw11207436383975012314 := ()
def tw15138747189723134504 := ()
def tw15638077685697807310 := ()
def tw12031252305421671111 := ()
def tw12157895351958293010 := ()
def tw16956578745301672600 := ()
def tw8478634346502389210 := ()
def tw3414557196666241060 := ()
def tw6809053341321042814 := ()
def tw14404915486905315314 := ()
end PySem.W.Fast
set_option maxRecDepth 100000 in
set_option maxHeartbeats 0 in
theorem PySem.Challenge.cw_nearerwork_k62_own_ties_holds : PySem.Challenge.rw_nearerwork_k62_own_ties.Holds := by
  w_on; o_law; k_head; (case hw => w_witness2)
  k_fill
  refine Nw.walk (l := PySem.Challenge.rw_nearerwork_k62_own_ties) rfl rfl (fun w h Y => PySem.W.kIn_of Y) ?F
  case F =>
    intro w mg fa h KX G hmg
    refine' Nw.all_mk KX G hmg ?aN ?pgN ?hdN ?poN ?saN ?mkN ?kcN ?nN_number ?aM ?pgM ?hdM ?poM ?saM ?mkM ?kcM ?nM_name ?aP ?pgP ?hdP ?poP ?saP ?mkP ?kcP ?nP_one ?nP_other ?aI ?pgI ?hdI ?poI ?saI ?mkI ?kcI ?nI_one ?nI_other ?aX ?pgX ?hdX ?poX ?saX ?mkX ?kcX ?nX_one ?nX_other ?aC ?pgC ?hdC ?poC ?saC ?mkC ?kcC ?nC_name ?aU ?pgU ?hdU ?poU ?saU ?mkU ?kcU ?nU_name ?nU_one ?aA ?pgA ?hdA ?poA ?saA ?mkA ?kcA ?nA_name ?nA_one ?nA_other ?aY ?pgY ?hdY ?poY ?saY ?mkY ?kcY ?inY ?aQ ?pgQ ?hdQ ?poQ ?saQ ?mkQ ?kcQ ?nQ_one ?nQ_other ?aW ?pgW ?hdW ?poW ?saW ?mkW ?kcW ?nW_one ?nW_other ?aE ?pgE ?hdE ?poE ?saE ?mkE ?kcE ?nE_one ?nE_other ?aV ?pgV ?hdV ?poV ?saV ?mkV ?kcV ?nV_one ?nV_other ?aB ?pgB ?hdB ?poB ?saB ?mkB ?kcB ?nB_one ?nB_other ?aO ?pgO ?hdO ?poO ?saO ?mkO ?kcO ?nO_one ?nO_other ?aT ?pgT ?hdT ?poT ?saT ?mkT ?kcT ?nT_one ?aD ?pgD ?hdD ?poD ?saD ?mkD ?kcD ?nD_called ?nD_when ?nD_changes ?aZ ?pgZ ?hdZ ?poZ ?saZ ?mkZ ?kcZ ?nZ_places ?nZ_keeps ?nZ_deeds ?aJ ?pgJ ?hdJ ?poJ ?saJ ?mkJ ?kcJ ?nJ_saying ?nJ_table ?nJ_falling ?aNI ?iNI ?lNI ?cNI ?kNI ?aMI ?iMI ?lMI ?cMI ?kMI ?aTI ?aTII ?aTIX ?iTI ?lTI ?cTI ?kTI ?aPI ?aPIW ?aPIE ?aPIV ?aPIB ?aPIO ?iPI ?lPI ?cPI ?kPI ?aOI ?iOI ?lOI ?cOI ?kOI ?aCI ?iCI ?lCI ?cCI ?kCI ?aUI ?iUI ?lUI ?cUI ?kUI ?aAI ?iAI ?lAI ?cAI ?kAI ?aDI ?iDI ?lDI ?cDI ?kDI ?aZI ?iZI ?lZI ?cZI ?kZI ?aJI ?iJI ?lJI ?cJI ?kJI ?aNW ?iNW ?lNW ?cNW ?kNW ?aMW ?iMW ?lMW ?cMW ?kMW ?aPW ?iPW ?lPW ?cPW ?kPW ?aIW ?iIW ?lIW ?cIW ?kIW ?aXW ?iXW ?lXW ?cXW ?kXW ?aYH ?iYH ?lYH ?cYH ?kYH ?aLH ?iLH ?lLH ?cLH ?kLH ?aAH ?iAH ?lAH ?cAH ?kAH ?aEH ?iEH ?lEH ?cEH ?kEH ?aUH ?iUH ?lUH ?cUH ?kUH ?aBH ?iBH ?lBH ?cBH ?kBH ?aOH ?iOH ?lOH ?cOH ?kOH ?aTH ?iTH ?lTH ?cTH ?kTH ?aZV ?iZV ?lZV ?cZV ?kZV ?aZF ?iZF ?lZF ?cZF ?kZF ?aNS ?iNS ?lNS ?cNS ?kNS ?aMS ?iMS ?lMS ?cMS ?kMS ?aYS ?iYS ?lYS ?cYS ?kYS ?aES ?iES ?lES ?cES ?kES ?aBS ?iBS ?lBS ?cBS ?kBS ?aAt ?lAt ?cAt ?kAt ?aBe ?lBe ?cBe ?kBe ?aDr ?lDr ?cDr ?kDr ?aNa ?lNa ?cNa ?kNa ?aSu ?lSu ?cSu ?kSu ?aHa ?lHa ?cHa ?kHa ?aWh ?lWh ?cWh ?kWh ?aSg ?lSg ?cSg ?kSg ?aTo ?lTo ?cTo ?kTo ?aPl ?lPl ?cPl ?kPl ?aCg ?lCg ?cCg ?kCg ?aDe ?lDe ?cDe ?kDe ?aMa ?lMa ?cMa ?kMa ?aCo ?lCo ?cCo ?kCo ?aDo ?lDo ?cDo ?kDo ?aRm ?lRm ?cRm ?kRm ?aOt ?lOt ?cOt ?kOt ?aOs ?lOs ?cOs ?kOs ?aTd ?lTd ?cTd ?kTd ?aTx ?lTx ?cTx ?kTx ?aCp ?lCp ?cCp ?kCp ?aBr ?lBr ?cBr ?kBr ?aL ?lL ?cL ?kL ?z_len ?z_range ?z_isinstance ?z_int ?z_bool ?z_str ?z_list ?z_tuple ?z_dict ?z_max ?z_min ?z_zip ?cmg ?cmr ?cmf ?hn ?ht ?hcJ ?hmJ
    (case aN => k_is)
    (case pgN => k_is)
    (case hdN => k_is)
    (case poN => k_is)
    (case saN => k_is)
    (case mkN => k_is)
    (case kcN => k_is)
    (case nN_number => k_is)
    (case aM => k_is)
    (case pgM => k_is)
    (case hdM => k_is)
    (case poM => k_is)
    (case saM => k_is)
    (case mkM => k_is)
    (case kcM => k_is)
    (case nM_name => k_is)
    (case aP => k_is)
    (case pgP => k_is)
    (case hdP => k_is)
    (case poP => k_is)
    (case saP => k_is)
    (case mkP => k_is)
    (case kcP => k_is)
    (case nP_one => k_is)
    (case nP_other => k_is)
    (case aI => k_is)
    (case pgI => k_is)
    (case hdI => k_is)
    (case poI => k_is)
    (case saI => k_is)
    (case mkI => k_is)
    (case kcI => k_is)
    (case nI_one => k_is)
    (case nI_other => k_is)
    (case aX => k_is)
    (case pgX => k_is)
    (case hdX => k_is)
    (case poX => k_is)
    (case saX => k_is)
    (case mkX => k_is)
    (case kcX => k_is)
    (case nX_one => k_is)
    (case nX_other => k_is)
    (case aC => k_is)
    (case pgC => k_is)
    (case hdC => k_is)
    (case poC => k_is)
    (case saC => k_is)
    (case mkC => k_is)
    (case kcC => k_is)
    (case nC_name => k_is)
    (case aU => k_is)
    (case pgU => k_is)
    (case hdU => k_is)
    (case poU => k_is)
    (case saU => k_is)
    (case mkU => k_is)
    (case kcU => k_is)
    (case nU_name => k_is)
    (case nU_one => k_is)
    (case aA => k_is)
    (case pgA => k_is)
    (case hdA => k_is)
    (case poA => k_is)
    (case saA => k_is)
    (case mkA => k_is)
    (case kcA => k_is)
    (case nA_name => k_is)
    (case nA_one => k_is)
    (case nA_other => k_is)
    (case aY => k_is)
    (case pgY => k_is)
    (case hdY => k_is)
    (case poY => k_is)
    (case saY => k_is)
    (case mkY => k_is)
    (case kcY => k_is)
    (case inY => k_is)
    (case aQ => k_is)
    (case pgQ => k_is)
    (case hdQ => k_is)
    (case poQ => k_is)
    (case saQ => k_is)
    (case mkQ => k_is)
    (case kcQ => k_is)
    (case nQ_one => k_is)
    (case nQ_other => k_is)
    (case aW => k_is)
    (case pgW => k_is)
    (case hdW => k_is)
    (case poW => k_is)
    (case saW => k_is)
    (case mkW => k_is)
    (case kcW => k_is)
    (case nW_one => k_is)
    (case nW_other => k_is)
    (case aE => k_is)
    (case pgE => k_is)
    (case hdE => k_is)
    (case poE => k_is)
    (case saE => k_is)
    (case mkE => k_is)
    (case kcE => k_is)
    (case nE_one => k_is)
    (case nE_other => k_is)
    (case aV => k_is)
    (case pgV => k_is)
    (case hdV => k_is)
    (case poV => k_is)
    (case saV => k_is)
    (case mkV => k_is)
    (case kcV => k_is)
    (case nV_one => k_is)
    (case nV_other => k_is)
    (case aB => k_is)
    (case pgB => k_is)
    (case hdB => k_is)
    (case poB => k_is)
    (case saB => k_is)
    (case mkB => k_is)
    (case kcB => k_is)
    (case nB_one => k_is)
    (case nB_other => k_is)
    (case aO => k_is)
    (case pgO => k_is)
    (case hdO => k_is)
    (case poO => k_is)
    (case saO => k_is)
    (case mkO => k_is)
    (case kcO => k_is)
    (case nO_one => k_is)
    (case nO_other => k_is)
    (case aT => k_is)
    (case pgT => k_is)
    (case hdT => k_is)
    (case poT => k_is)
    (case saT => k_is)
    (case mkT => k_is)
    (case kcT => k_is)
    (case nT_one => k_is)
    (case aD => k_is)
    (case pgD => k_is)
    (case hdD => k_is)
    (case poD => k_is)
    (case saD => k_is)
    (case mkD => k_is)
    (case kcD => k_is)
    (case nD_called => k_is)
    (case nD_when => k_is)
    (case nD_changes => k_is)
    (case aZ => k_is)
    (case pgZ => k_is)
    (case hdZ => k_is)
    (case poZ => k_is)
    (case saZ => k_is)
    (case mkZ => k_is)
    (case kcZ => k_is)
    (case nZ_places => k_is)
    (case nZ_keeps => k_is)
    (case nZ_deeds => k_is)
    (case aJ => k_is)
    (case pgJ => k_is)
    (case hdJ => k_is)
    (case poJ => k_is)
    (case saJ => k_is)
    (case mkJ => k_is)
    (case kcJ => k_is)
    (case nJ_saying => k_is)
    (case nJ_table => k_is)
    (case nJ_falling => k_is)
    (case aNI => k_is)
    (case iNI => k_is)
    (case lNI => k_is)
    (case cNI => k_is)
    (case kNI => k_is)
    (case aMI => k_is)
    (case iMI => k_is)
    (case lMI => k_is)
    (case cMI => k_is)
    (case kMI => k_is)
    (case aTI => k_is)
    (case aTII => k_is)
    (case aTIX => k_is)
    (case iTI => k_is)
    (case lTI => k_is)
    (case cTI => k_is)
    (case kTI => k_is)
    (case aPI => k_is)
    (case aPIW => k_is)
    (case aPIE => k_is)
    (case aPIV => k_is)
    (case aPIB => k_is)
    (case aPIO => k_is)
    (case iPI => k_is)
    (case lPI => k_is)
    (case cPI => k_is)
    (case kPI => k_is)
    (case aOI => k_is)
    (case iOI => k_is)
    (case lOI => k_is)
    (case cOI => k_is)
    (case kOI => k_is)
    (case aCI => k_is)
    (case iCI => k_is)
    (case lCI => k_is)
    (case cCI => k_is)
    (case kCI => k_is)
    (case aUI => k_is)
    (case iUI => k_is)
    (case lUI => k_is)
    (case cUI => k_is)
    (case kUI => k_is)
    (case aAI => k_is)
    (case iAI => k_is)
    (case lAI => k_is)
    (case cAI => k_is)
    (case kAI => k_is)
    (case aDI => k_is)
    (case iDI => k_is)
    (case lDI => k_is)
    (case cDI => k_is)
    (case kDI => k_is)
    (case aZI => k_is)
    (case iZI => k_is)
    (case lZI => k_is)
    (case cZI => k_is)
    (case kZI => k_is)
    (case aJI => k_is)
    (case iJI => k_is)
    (case lJI => k_is)
    (case cJI => k_is)
    (case kJI => k_is)
    (case aNW => k_is)
    (case iNW => k_is)
    (case lNW => k_is)
    (case cNW => k_is)
    (case kNW => k_is)
    (case aMW => k_is)
    (case iMW => k_is)
    (case lMW => k_is)
    (case cMW => k_is)
    (case kMW => k_is)
    (case aPW => k_is)
    (case iPW => k_is)
    (case lPW => k_is)
    (case cPW => k_is)
    (case kPW => k_is)
    (case aIW => k_is)
    (case iIW => k_is)
    (case lIW => k_is)
    (case cIW => k_is)
    (case kIW => k_is)
    (case aXW => k_is)
    (case iXW => k_is)
    (case lXW => k_is)
    (case cXW => k_is)
    (case kXW => k_is)
    (case aYH => k_is)
    (case iYH => k_is)
    (case lYH => k_is)
    (case cYH => k_is)
    (case kYH => k_is)
    (case aLH => k_is)
    (case iLH => k_is)
    (case lLH => k_is)
    (case cLH => k_is)
    (case kLH => k_is)
    (case aAH => k_is)
    (case iAH => k_is)
    (case lAH => k_is)
    (case cAH => k_is)
    (case kAH => k_is)
    (case aEH => k_is)
    (case iEH => k_is)
    (case lEH => k_is)
    (case cEH => k_is)
    (case kEH => k_is)
    (case aUH => k_is)
    (case iUH => k_is)
    (case lUH => k_is)
    (case cUH => k_is)
    (case kUH => k_is)
    (case aBH => k_is)
    (case iBH => k_is)
    (case lBH => k_is)
    (case cBH => k_is)
    (case kBH => k_is)
    (case aOH => k_is)
    (case iOH => k_is)
    (case lOH => k_is)
    (case cOH => k_is)
    (case kOH => k_is)
    (case aTH => k_is)
    (case iTH => k_is)
    (case lTH => k_is)
    (case cTH => k_is)
    (case kTH => k_is)
    (case aZV => k_is)
    (case iZV => k_is)
    (case lZV => k_is)
    (case cZV => k_is)
    (case kZV => k_is)
    (case aZF => k_is)
    (case iZF => k_is)
    (case lZF => k_is)
    (case cZF => k_is)
    (case kZF => k_is)
    (case aNS => k_is)
    (case iNS => k_is)
    (case lNS => k_is)
    (case cNS => k_is)
    (case kNS => k_is)
    (case aMS => k_is)
    (case iMS => k_is)
    (case lMS => k_is)
    (case cMS => k_is)
    (case kMS => k_is)
    (case aYS => k_is)
    (case iYS => k_is)
    (case lYS => k_is)
    (case cYS => k_is)
    (case kYS => k_is)
    (case aES => k_is)
    (case iES => k_is)
    (case lES => k_is)
    (case cES => k_is)
    (case kES => k_is)
    (case aBS => k_is)
    (case iBS => k_is)
    (case lBS => k_is)
    (case cBS => k_is)
    (case kBS => k_is)
    (case aAt => k_is)
    (case lAt => k_is)
    (case cAt => k_is)
    (case kAt => k_is)
    (case aBe => k_is)
    (case lBe => k_is)
    (case cBe => k_is)
    (case kBe => k_is)
    (case aDr => k_is)
    (case lDr => k_is)
    (case cDr => k_is)
    (case kDr => k_is)
    (case aNa => k_is)
    (case lNa => k_is)
    (case cNa => k_is)
    (case kNa => k_is)
    (case aSu => k_is)
    (case lSu => k_is)
    (case cSu => k_is)
    (case kSu => k_is)
    (case aHa => k_is)
    (case lHa => k_is)
    (case cHa => k_is)
    (case kHa => k_is)
    (case aWh => k_is)
    (case lWh => k_is)
    (case cWh => k_is)
    (case kWh => k_is)
    (case aSg => k_is)
    (case lSg => k_is)
    (case cSg => k_is)
    (case kSg => k_is)
    (case aTo => k_is)
    (case lTo => k_is)
    (case cTo => k_is)
    (case kTo => k_is)
    (case aPl => k_is)
    (case lPl => k_is)
    (case cPl => k_is)
    (case kPl => k_is)
    (case aCg => k_is)
    (case lCg => k_is)
    (case cCg => k_is)
    (case kCg => k_is)
    (case aDe => k_is)
    (case lDe => k_is)
    (case cDe => k_is)
    (case kDe => k_is)
    (case aMa => k_is)
    (case lMa => k_is)
    (case cMa => k_is)
    (case kMa => k_is)
    (case aCo => k_is)
    (case lCo => k_is)
    (case cCo => k_is)
    (case kCo => k_is)
    (case aDo => k_is)
    (case lDo => k_is)
    (case cDo => k_is)
    (case kDo => k_is)
    (case aRm => k_is)
    (case lRm => k_is)
    (case cRm => k_is)
    (case kRm => k_is)
    (case aOt => k_is)
    (case lOt => k_is)
    (case cOt => k_is)
    (case kOt => k_is)
    (case aOs => k_is)
    (case lOs => k_is)
    (case cOs => k_is)
    (case kOs => k_is)
    (case aTd => k_is)
    (case lTd => k_is)
    (case cTd => k_is)
    (case kTd => k_is)
    (case aTx => k_is)
    (case lTx => k_is)
    (case cTx => k_is)
    (case kTx => k_is)
    (case aCp => k_is)
    (case lCp => k_is)
    (case cCp => k_is)
    (case kCp => k_is)
    (case aBr => k_is)
    (case lBr => k_is)
    (case cBr => k_is)
    (case kBr => k_is)
    (case aL => k_is)
    (case lL => k_is)
    (case cL => k_is)
    (case kL => k_is)
    (case z_len => k_is)
    (case z_range => k_is)
    (case z_isinstance => k_is)
    (case z_int => k_is)
    (case z_bool => k_is)
    (case z_str => k_is)
    (case z_list => k_is)
    (case z_tuple => k_is)
    (case z_dict => k_is)
    (case z_max => k_is)
    (case z_min => k_is)
    (case z_zip => k_is)
    (case cmg => k_is)
    (case cmr => k_is)
    (case cmf => k_is)
    (case hn => k_is)
    (case ht => k_is)
    (case hcJ => k_is)
    (case hmJ => k_is)
