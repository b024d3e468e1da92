import PyProof.Rows.All
import Wide.All
import OpenK.AllK
import Wide.FinOn
import Lean
import PyProof.EqAt
import PyProof.EqKinds
import PyProof.TupleCall
import PyProof.NeKinds
import KE.IntBitsLaws
import PyProof.ZipIter
import PyProof.StrCalls2
import PyProof.Rows.Range3
import PyProof.ListRange
import PyProof.LongRange
import KE.LcSums
import PyProof.SetKind
import PyProof.DictKinds
import PyProof.DictIter
import PyProof.CollectWalk
import PyProof.FactsAll.set_1
import PyProof.FactsAll.set_2
import PyProof.FactsAll.set_0
import PyProof.Walks
import PyProof.Rows.SortShellK
import PyProof.Rows.SortStr
import PyProof.Rows.SetFrom
import PySem.Challenge.RW_nearerwork_k05_names_and_texts
set_option Elab.async false
set_option linter.all false
set_option maxRecDepth 100000
/-! THE HAND LAYER, for ints, bools, texts, own classes, LISTS and tuples (index, slices, in, append, pop ..), calls, loops. Paste it whole ahead of your own text; what your proof does not reach may be deleted. -/
namespace L2
open PySem PySem.Spec PyProof.Rows

/-- a key: an int or a str -/
abbrev Key := Sum Int Str
def keyIs : Key → Value → Bool
  | .inl k, v => Value.isInt k v
  | .inr x, v => Value.isStrOf x v
def keyH (w : World) : Key → Int
  | .inl k => hashInt k
  | .inr x => hashStr w x
theorem keyIs_shape : ∀ {k : Key} {v : Value}, keyIs k v = true → (∃ i t, k = Sum.inl i ∧ v = Value.int i t) ∨ (∃ x t, k = Sum.inr x ∧ v = Value.str x t)
  | .inl i, v, h => by
    obtain ⟨t, e⟩ := Value.isInt_shape (k := i) (v := v) h
    exact .inl ⟨i, t, rfl, e⟩
  | .inr x, v, h => by
    obtain ⟨t, e⟩ := Value.isStrOf_shape (x := x) (v := v) h
    exact .inr ⟨x, t, rfl, e⟩
theorem key_ll (a b : Int) : decide ((Sum.inl a : Key) = Sum.inl b) = (a == b) := by
  by_cases e : a = b
  · subst e; simp
  · have h : ¬ (Sum.inl a : Key) = Sum.inl b := fun q => e (Sum.inl.inj q)
    rw [decide_eq_false h]
    exact (beq_eq_false_iff_ne.mpr e).symm
theorem key_rr (a b : Str) : decide ((Sum.inr a : Key) = Sum.inr b) = decide (a = b) := by
  by_cases e : a = b
  · subst e; simp
  · have h : ¬ (Sum.inr a : Key) = Sum.inr b := fun q => e (Sum.inr.inj q)
    rw [decide_eq_false h, decide_eq_false e]
theorem key_lr (a : Int) (b : Str) : decide ((Sum.inl a : Key) = Sum.inr b) = false := decide_eq_false (fun q => nomatch q)
theorem key_rl (a : Str) (b : Int) : decide ((Sum.inr a : Key) = Sum.inl b) = false := decide_eq_false (fun q => nomatch q)

def mixKind (prog : Program) (w : World) : PySem.KeyKind prog w Key where
  is := keyIs
  hash := keyH w
  inj := fun v a b ha hb => by
    rcases keyIs_shape ha with ⟨i, t, rfl, rfl⟩ | ⟨x, t, rfl, rfl⟩
    · rcases keyIs_shape hb with ⟨j, u, rfl, e⟩ | ⟨y, u, rfl, e⟩
      · injection e with e1 _; rw [e1]
      · exact nomatch e
    · rcases keyIs_shape hb with ⟨j, u, rfl, e⟩ | ⟨y, u, rfl, e⟩
      · exact nomatch e
      · injection e with e1 _; rw [e1]
  byValue := fun k v h => by
    rcases keyIs_shape h with ⟨i, t, rfl, rfl⟩ | ⟨x, t, rfl, rfl⟩ <;> rfl
  pyHash := fun hv h => by
    rcases keyIs_shape hv with ⟨i, t, rfl, rfl⟩ | ⟨x, t, rfl, rfl⟩
    · exact wpAny_pyHash_int h
    · exact wpAny_pyHash_str h
  eqBool := fun hu hv h => by
    rcases keyIs_shape hu with ⟨i, t, rfl, rfl⟩ | ⟨x, t, rfl, rfl⟩
    · rcases keyIs_shape hv with ⟨j, u, rfl, rfl⟩ | ⟨y, u, rfl, rfl⟩
      · rw [key_ll] at h; exact wpAny_eqBool_int h
      · rw [key_lr] at h; exact SeqAt.EqAt.int_str i t y u _ _ _ _ h
    · rcases keyIs_shape hv with ⟨j, u, rfl, rfl⟩ | ⟨y, u, rfl, rfl⟩
      · rw [key_rl] at h; exact SeqAt.EqAt.str_int x t j u _ _ _ _ h
      · rw [key_rr] at h; exact wpAny_eqBool_str h
  «strs» := fun k x t v h => by
    rcases keyIs_shape h with ⟨i, u, rfl, e⟩ | ⟨y, u, rfl, e⟩
    · exact nomatch e
    · injection e with e1 _
      subst e1
      cases v <;> rfl

end L2

namespace L2
open PySem PySem.Spec PyProof.Rows

/-- a value, without the heap -/
inductive V where
  | non | bl (b : Bool) | int (i : Int) | str (x : Str) | byt (b : Array UInt8) | flt (b : UInt64) | ref (a : Addr) | ty (n : String)
  deriving DecidableEq

def RelV : V → Value → Prop
  | .non, u => u = Value.none
  | .bl b, u => u = Value.bool b
  | .int i, u => ∃ t, u = Value.int i t
  | .str x, u => ∃ t, u = Value.str x t
  | .byt b, u => ∃ t, u = Value.bytes b t
  | .flt b, u => ∃ t, u = Value.float b t
  | .ref a, u => u = Value.ref a
  | .ty n, u => u = Value.type n

abbrev Vals : List V → List Value → Prop := Paired RelV
theorem Vals.length {xs : List V} {us : List Value} (r : Vals xs us) : xs.length = us.length := Paired.length r
theorem Vals.get : ∀ {xs : List V} {us : List Value} {i : Nat} {x : V}, Vals xs us → xs[i]? = some x → ∃ u, us[i]? = some u ∧ RelV x u
  | _, _, _, _, .nil, e => by simp at e
  | _, _, 0, _, .cons r _, e => by simp at e; subst e; exact ⟨_, rfl, r⟩
  | _, _, i + 1, x, .cons _ t, e => by
    obtain ⟨u, h1, h2⟩ := Vals.get (i := i) (x := x) t (by simpa using e)
    exact ⟨u, by simpa using h1, h2⟩
theorem Vals.set {x : V} {u : Value} (r : RelV x u) : ∀ {xs : List V} {us : List Value} (i : Nat), Vals xs us → Vals (xs.set i x) (us.set i u)
  | _, _, _, .nil => .nil
  | _, _, 0, .cons _ t => .cons r t
  | _, _, i + 1, .cons q t => .cons q (Vals.set r i t)
theorem Vals.append : ∀ {xs ys : List V} {us ws : List Value}, Vals xs us → Vals ys ws → Vals (xs ++ ys) (us ++ ws)
  | _, _, _, _, .nil, s => s
  | _, _, _, _, .cons r t, s => .cons r (Vals.append t s)
theorem Vals.take : ∀ {xs : List V} {us : List Value} (n : Nat), Vals xs us → Vals (xs.take n) (us.take n)
  | _, _, 0, _ => .nil
  | _, _, _ + 1, .nil => .nil
  | _, _, n + 1, .cons r t => .cons r (Vals.take n t)
theorem Vals.drop : ∀ {xs : List V} {us : List Value} (n : Nat), Vals xs us → Vals (xs.drop n) (us.drop n)
  | _, _, 0, r => r
  | _, _, _ + 1, .nil => .nil
  | _, _, n + 1, .cons _ t => Vals.drop n t
def RelO : Option V → Option Value → Prop
  | some v, some u => RelV v u
  | none, none => True
  | _, _ => False
def KV {κ : Type} : List (κ × V) → List (κ × Value) → Prop := Paired fun (p : κ × V) (q : κ × Value) => p.1 = q.1 ∧ RelV p.2 q.2

/-- a key of a dict (00_mix): an int or a text -/
def kV : Key → V
  | .inl i => .int i
  | .inr x => .str x

/-- what stands at a tracked address -/
inductive HO where
  /-- a list -/
  | lst (xs : List V)
  /-- a tuple (never changes) -/
  | tup (xs : List V)
  /-- a dict whose keys are ints and texts; one whose keys are tuples of ints and texts (the empty one is both) -/
  | dK (kvs : List (Key × V)) | dT (kvs : List (List Key × V))
  /-- a set of ints: its members, its size -/
  | set (S : Int → Bool) (n : Nat)
  /-- an instance of the class at C, its dict at dx, its attributes -/
  | ins (C dx : Addr) (fs : List (Str × V))
  /-- the dict of the instance at x -/
  | own (x : Addr)
  /-- the dict of an exception -/
  | xd (fs : List (Str × V))
  /-- a bound method, f of x -/
  | met (f x : Addr)
  /-- a range object lo, lo + 1, .. below hi -/
  | rng (lo hi : Int)
  /-- a thing that is known to the object (the script; a dict while a loop walks it): read, never written while it is so -/
  | frz (o : Obj) (u : HO)
  /-- a code object's table -/
  | tbl (ps : Array Value)
  /-- any other thing, by what is true of its one object (a def of one's own: SetO a S n := HO.ext fun h => ..) -/
  | ext (φ : Heap → Prop)

abbrev Hp := Addr → Option HO
def upd (H : Hp) (a : Addr) (o : HO) : Hp := fun b => if b = a then some o else H b
theorem upd_same {H : Hp} {a : Addr} {o : HO} : upd H a o a = some o := by unfold upd; rw [if_pos rfl]
theorem upd_ne {H : Hp} {a b : Addr} {o : HO} (h : b ≠ a) : upd H a o b = H b := by unfold upd; rw [if_neg h]
theorem upd_upd {H : Hp} {a : Addr} {o u : HO} : upd (upd H a o) a u = upd H a u := by
  funext b; unfold upd; split <;> rfl
/-- two objects of different content stand apart -/
theorem ne_of {H : Hp} {a b : Addr} {o u : HO} (h : H a = some o) (h' : H b = some u) (d : o ≠ u) : a ≠ b := by
  intro e; subst e; rw [h] at h'; exact d (Option.some.inj h')
theorem ne_of_none {H : Hp} {a b : Addr} {o : HO} (h : H a = some o) (h' : H b = none) : a ≠ b := by
  intro e; subst e; rw [h] at h'; cases h'

section
variable (P : Program) (w : World)
def ObjOk (H : Hp) (h : Heap) (a : Addr) : HO → Prop
  | .lst xs => xs.length ≤ sizeLine ∧ ∃ (its : List Value) (n : Nat), Vals xs its ∧ h.get? a = some { cls := .type "list", data := .seq its.toArray n }
  | .tup xs => xs.length ≤ sizeLine ∧ ∃ its : List Value, Vals xs its ∧ IsTup h a its.toArray
  | .dK kvs => kvs.length ≤ sizeLine ∧ (a == sysModules) = false ∧ ∃ vs, KV kvs vs ∧ h.DictOf (mixKind P w) a vs
  | .dT kvs => kvs.length ≤ sizeLine ∧ (a == sysModules) = false ∧ ∃ xs : List (List Key × Addr × Value),
      Paired (fun (p : List Key × V) (q : List Key × Addr × Value) => p.1 = q.1 ∧ H q.2.1 = some (.tup (p.1.map kV)) ∧ RelV p.2 q.2.2) kvs xs ∧
      ∃ o es ep, h.get? a = some o ∧ o.ExactDict ∧ o.data = .dict es ep ∧ es.toList = xs.map (entryOfKey (tupleKind (mixKind P w))) ∧ (xs.map (·.1)).Nodup
  | .set S n => h.SetOf (intKind P w) a S n
  | .ins C dx fs => H dx = some (.own a) ∧ fs.length ≤ 1000 ∧ dx ≠ a ∧ h.get? a = some (PySem.W.instObj C dx) ∧
      ∃ mA, h.Ns1 dx mA ∧ (∀ f, RelO (fs.lookup f) (mA f)) ∧ PySem.Within mA (fs.map (·.1))
  | .own _ => ∃ o, h.get? a = some o
  | .xd fs => ∃ mA, h.Ns1 a mA ∧ ∀ f, RelO (fs.lookup f) (mA f)
  | .rng lo hi => ∃ t u v, h.get? a = some { cls := .type "range", data := .fields #[.int lo t, .int hi u, .int 1 v] }
  | .frz o u => h.get? a = some o ∧ ObjOk H h a u
  | .tbl ps => h.get? a = some { cls := .none, data := .fields ps }
  | .met f x => h.get? a = some (PySem.W.methodObj (.ref f) (.ref x))
  | .ext φ => φ h ∧ (∃ o, h.get? a = some o) ∧ ∀ h1 h2 : Heap, φ h1 → (∀ o, h1.get? a = some o → h2.get? a = some o) → φ h2
/-- the abstract heap is held -/
def HOk (H : Hp) (h : Heap) : Prop := ∀ a o, H a = some o → ObjOk P w H h a o
end

section
variable {P : Program} {w : World} {H H' : Hp} {h h' : Heap} {a : Addr} {o : HO}
theorem ObjOk.lt (x : ObjOk P w H h a o) : a < h.objs.size := by
  cases o with
  | lst xs => obtain ⟨_, _, _, _, e⟩ := x; exact Heap.lt_size e
  | tup xs => obtain ⟨_, _, _, p⟩ := x; exact p.lt
  | dK kvs => obtain ⟨_, _, _, _, o, _, _, e, _⟩ := x; exact Heap.lt_size e
  | dT kvs => obtain ⟨_, _, _, _, o, _, _, e, _⟩ := x; exact Heap.lt_size e
  | set S n => obtain ⟨o, _, _, _, e, _⟩ := x; exact Heap.lt_size e
  | ins C dx fs => obtain ⟨_, _, _, e, _⟩ := x; exact Heap.lt_size e
  | own y => obtain ⟨_, e⟩ := x; exact Heap.lt_size e
  | xd fs => obtain ⟨_, ⟨_, _, _, e, _⟩, _⟩ := x; exact Heap.lt_size e
  | rng lo hi => obtain ⟨_, _, _, e⟩ := x; exact Heap.lt_size e
  | frz ob u => obtain ⟨e, _⟩ := x; exact Heap.lt_size e
  | tbl ps => exact Heap.lt_size (show h.get? a = some _ from x)
  | met f y => exact Heap.lt_size (show h.get? a = some _ from x)
  | ext φ => obtain ⟨_, ⟨_, e⟩, _⟩ := x; exact Heap.lt_size e
theorem Paired.mapP {α β : Type} {F G : α → β → Prop} : ∀ {l₁ : List α} {l₂ : List β}, Paired F l₁ l₂ → (∀ a b, F a b → G a b) → Paired G l₁ l₂
  | _, _, .nil, _ => .nil
  | _, _, .cons r t, f => .cons (f _ _ r) (Paired.mapP t f)
/-- what an object's description leans on: its own object, its own dict, the tuples -/
theorem ObjOk.stay (x : ObjOk P w H h a o) (k : ∀ b u, (b = a ∨ H b = some (.own a)) → h.get? b = some u → h'.get? b = some u)
    (ho : ∀ b, H b = some (.own a) → H' b = some (.own a)) (ht : ∀ b xs, H b = some (.tup xs) → H' b = some (.tup xs)) : ObjOk P w H' h' a o := by
  induction o with
  | lst xs => obtain ⟨z, its, n, r, e⟩ := x; exact ⟨z, its, n, r, k _ _ (.inl rfl) e⟩
  | tup xs => obtain ⟨z, its, r, ob, e, c⟩ := x; exact ⟨z, its, r, ob, k _ _ (.inl rfl) e, c⟩
  | dK kvs => obtain ⟨z, y, vs, r, ob, es, ep, e, c⟩ := x; exact ⟨z, y, vs, r, ob, es, ep, k _ _ (.inl rfl) e, c⟩
  | dT kvs =>
    obtain ⟨z, y, xs, r, ob, es, ep, e, c⟩ := x
    exact ⟨z, y, xs, Paired.mapP r fun p q z => ⟨z.1, ht _ _ z.2.1, z.2.2⟩, ob, es, ep, k _ _ (.inl rfl) e, c⟩
  | set S n => obtain ⟨ob, es, ep, t, e, c⟩ := x; exact ⟨ob, es, ep, t, k _ _ (.inl rfl) e, c⟩
  | ins C dx fs =>
    obtain ⟨d, z, ne, e, mA, ⟨od, es, ep, e2, c⟩, r⟩ := x
    exact ⟨ho _ d, z, ne, k _ _ (.inl rfl) e, mA, ⟨od, es, ep, k _ _ (.inr d) e2, c⟩, r⟩
  | own y => obtain ⟨ob, e⟩ := x; exact ⟨ob, k _ _ (.inl rfl) e⟩
  | xd fs => obtain ⟨mA, ⟨od, es, ep, e, c⟩, r⟩ := x; exact ⟨mA, ⟨od, es, ep, k _ _ (.inl rfl) e, c⟩, r⟩
  | rng lo hi => obtain ⟨t, u, v, e⟩ := x; exact ⟨t, u, v, k _ _ (.inl rfl) e⟩
  | frz ob u ih => obtain ⟨e, q⟩ := x; exact ⟨k _ _ (.inl rfl) e, ih q⟩
  | tbl ps =>
    have e : h.get? a = some { cls := .none, data := .fields ps } := x
    show h'.get? a = some { cls := .none, data := .fields ps }
    exact k a _ (.inl rfl) e
  | met f y =>
    have e : h.get? a = some (PySem.W.methodObj (.ref f) (.ref y)) := x
    show h'.get? a = some (PySem.W.methodObj (.ref f) (.ref y))
    exact k a _ (.inl rfl) e
  | ext φ => obtain ⟨p, ⟨o, e⟩, st⟩ := x; exact ⟨st _ _ p fun o q => k _ _ (.inl rfl) q, ⟨o, k _ _ (.inl rfl) e⟩, st⟩
theorem HOk.lt (x : HOk P w H h) (e : H a = some o) : a < h.objs.size := (x a o e).lt
theorem HOk.fresh (x : HOk P w H h) (e : h.objs.size ≤ a) : H a = none := by
  cases q : H a with
  | none => rfl
  | some u => exact absurd (Nat.lt_of_lt_of_le (x.lt q) e) (Nat.lt_irrefl _)
/-- every object of the heap is kept -/
theorem HOk.kept (x : HOk P w H h) (k : ∀ b u, h.get? b = some u → h'.get? b = some u) : HOk P w H h' := fun a o e =>
  (x a o e).stay (fun b u _ q => k b u q) (fun _ q => q) fun _ _ q => q
/-- a new object is laid and tracked -/
theorem HOk.laid (x : HOk P w H h) (k : ∀ b u, h.get? b = some u → h'.get? b = some u) (hp : h.objs.size ≤ a) (new : ObjOk P w (upd H a o) h' a o) : HOk P w (upd H a o) h' := fun b u e => by
  have hn := x.fresh hp
  by_cases hb : b = a
  · subst hb; rw [upd_same] at e; cases e; exact new
  · rw [upd_ne hb] at e
    exact (x b u e).stay (fun c v _ q => k c v q) (fun c q => by rw [upd_ne (ne_of_none q hn)]; exact q) fun c xs q => by rw [upd_ne (ne_of_none q hn)]; exact q
end

/-- what may be read as u: it is u, or a known u -/
def Rd (H : Hp) (a : Addr) (u : HO) : Prop := H a = some u ∨ ∃ o, H a = some (.frz o u)
theorem Rd.ok {P : Program} {w : World} {H : Hp} {h : Heap} {a : Addr} {u : HO} (r : Rd H a u) (x : HOk P w H h) : ObjOk P w H h a u := by
  rcases r with r | ⟨o, r⟩
  · exact x a u r
  · obtain ⟨_, q⟩ := x a _ r
    exact q
/-- what may be written -/
def Mut : Option HO → Prop
  | some (.lst _) => True
  | some (.dK _) => True
  | some (.dT _) => True
  | some (.set _ _) => True
  | some (.ins _ _ _) => True
  | some (.ext _) => True
  | _ => False
section
variable {P : Program} {w : World} {H : Hp} {h h' : Heap} {x e : Addr} {o' : HO}
/-- the object at e is changed: x itself, or the dict of the instance x -/
theorem HOk.write (ok : HOk P w H h) (mu : Mut (H x)) (he : e = x ∨ H e = some (.own x)) (k : ∀ b u, b ≠ e → h.get? b = some u → h'.get? b = some u) (heo : ∃ u, h'.get? e = some u)
    (new : ObjOk P w (upd H x o') h' x o') : HOk P w (upd H x o') h' := fun b u q => by
  have nown : ∀ c y, H c = some (.own y) → c ≠ x := fun c y r z => by subst z; rw [r] at mu; exact mu
  have ntup : ∀ c xs, H c = some (.tup xs) → c ≠ x := fun c xs r z => by subst z; rw [r] at mu; exact mu
  by_cases hb : b = x
  · subst hb; rw [upd_same] at q; cases q; exact new
  · rw [upd_ne hb] at q
    by_cases hbe : b = e
    · have q' : H b = some (.own x) := by
        rcases he with z | z
        · exact absurd (hbe.trans z) hb
        · rw [hbe]; exact z
      rw [q] at q'; cases q'
      obtain ⟨v, hv⟩ := heo
      exact ⟨v, by rw [hbe]; exact hv⟩
    · refine (ok b u q).stay (fun c v hc r => k c v ?_ r) (fun c r => by rw [upd_ne (nown c b r)]; exact r) fun c xs r => by rw [upd_ne (ntup c xs r)]; exact r
      rcases hc with rfl | hc
      · exact hbe
      · rintro rfl
        rcases he with z | z
        · exact nown c b hc z
        · rw [hc] at z; cases z; exact hb rfl
end

/-! ### kept unless tracked; of the frames at fs (the callers') the slots may change (an exception that passes writes there); of the records at ex (iterators) nothing is said -/
structure Un (fs ex : List Addr) (H H' : Hp) (h h' : Heap) : Prop where
  keep : ∀ b o, h.get? b = some o → H b = none → b ∉ fs → b ∉ ex → h'.get? b = some o
  slot : ∀ b o, h.get? b = some o → H b = none → b ∈ fs → b ∉ ex → ∃ sl, h'.get? b = some { o with slots := sl }
  free : ∀ b o, h.get? b = some o → H b = none → b ∉ ex → H' b = none
  there : ∀ b o, h.get? b = some o → b ∉ ex → ∃ o', h'.get? b = some o'
  tups : ∀ b xs, H b = some (.tup xs) → H' b = some (.tup xs)
  frzs : ∀ b o u, H b = some (.frz o u) → H' b = some (.frz o u)
  tbls : ∀ b ps, H b = some (.tbl ps) → ∃ more, H' b = some (.tbl (ps ++ more))
section
variable {fs fs' ex ex' : List Addr} {H H1 H2 : Hp} {h h1 h2 h' : Heap} {a x e : Addr} {o : HO}
theorem Un.any (u : Un fs ex H H1 h h1) {b : Addr} {ob : Obj} (q : h.get? b = some ob) (n : H b = none) (hx : b ∉ ex) : ∃ sl, h1.get? b = some { ob with slots := sl } := by
  by_cases hb : b ∈ fs
  · exact u.slot b ob q n hb hx
  · exact ⟨ob.slots, u.keep b ob q n hb hx⟩
theorem Un.kept (k : ∀ b u, h.get? b = some u → h'.get? b = some u) : Un fs ex H H h h' :=
  ⟨fun b ob q _ _ _ => k b ob q, fun b ob q _ _ _ => ⟨ob.slots, k b ob q⟩, fun _ _ _ n _ => n, fun b ob q _ => ⟨ob, k b ob q⟩, fun _ _ q => q, fun _ _ _ q => q, fun _ ps q => ⟨#[], by rw [q]; simp⟩⟩
theorem Un.refl : Un fs ex H H h h := Un.kept fun _ _ q => q
theorem Un.laid (k : ∀ b u, h.get? b = some u → h'.get? b = some u) (hp : h.objs.size ≤ a) (hn : H a = none) : Un fs ex H (upd H a o) h h' where
  keep := fun b u q _ _ _ => k b u q
  slot := fun b u q _ _ _ => ⟨u.slots, k b u q⟩
  free := fun b u q n _ => by rw [upd_ne (Nat.ne_of_lt (Nat.lt_of_lt_of_le (Heap.lt_size q) hp))]; exact n
  there := fun b u q _ => ⟨u, k b u q⟩
  tups := fun b xs q => by rw [upd_ne (ne_of_none q hn)]; exact q
  frzs := fun b u xs q => by rw [upd_ne (ne_of_none q hn)]; exact q
  tbls := fun b ps q => ⟨#[], by rw [upd_ne (ne_of_none q hn), q]; simp⟩
theorem Un.write (mu : Mut (H x)) (he : e = x ∨ H e = some (.own x)) (k : ∀ b u, b ≠ e → h.get? b = some u → h'.get? b = some u) (heo : ∃ u, h'.get? e = some u) : Un fs ex H (upd H x o) h h' := by
  have hx : ∀ b, H b = none → b ≠ x := fun b n z => by subst z; rw [n] at mu; exact mu
  have hb : ∀ b, H b = none → b ≠ e := fun b n z => by
    subst z
    rcases he with r | r
    · exact hx b n r
    · rw [n] at r; cases r
  have hm : ∀ b u, H b = some u → ¬ Mut (some u) → b ≠ x := fun b u q nm z => by subst z; rw [q] at mu; exact nm mu
  refine ⟨fun b u q n _ _ => k b u (hb b n) q, fun b u q n _ _ => ⟨u.slots, k b u (hb b n) q⟩, fun b u q n _ => by rw [upd_ne (hx b n)]; exact n, fun b u q _ => ?_,
    fun b xs q => by rw [upd_ne (hm b _ q fun z => z)]; exact q, fun b u xs q => by rw [upd_ne (hm b _ q fun z => z)]; exact q, fun b ps q => ⟨#[], by rw [upd_ne (hm b _ q fun z => z), q]; simp⟩⟩
  by_cases hbe : b = e
  · subst hbe; exact heo
  · exact ⟨u, k b u hbe q⟩
end

/-! ### the heap without what is tracked -/
def trk (h : Heap) (H : Hp) : List Addr := (List.range h.objs.size).filter fun a => (H a).isSome
def hidT (h : Heap) (H : Hp) : Heap := PySem.W.hideAll h (trk h H)
theorem hidT_size (h : Heap) (H : Hp) : (hidT h H).objs.size = h.objs.size := PySem.W.hideAll_size _ _
theorem hidT_get {h : Heap} {H : Hp} {b : Addr} {o : Obj} (e : h.get? b = some o) (n : H b = none) : (hidT h H).get? b = some o :=
  PySem.W.hideAll_get _ e fun hm => by
    have q : (H b).isSome = true := (List.mem_filter.mp hm).2
    rw [n] at q; simp at q
theorem of_hidT {h : Heap} {H : Hp} {b : Addr} {o : Obj} (e : (hidT h H).get? b = some o) : h.get? b = some o ∧ H b = none := by
  have e' : h.get? b = some o := PySem.W.of_hideAll (trk h H) e
  refine ⟨e', ?_⟩
  cases q : H b with
  | none => rfl
  | some x =>
    have hm : b ∈ trk h H := List.mem_filter.mpr ⟨List.mem_range.mpr (Heap.lt_size e'), by simp [q]⟩
    have z : (hidT h H).get? b = none := PySem.W.hideAll_none (trk h H) hm
    rw [z] at e; cases e

/-! ### OpenK's ledger, filled with every new object but one -/
end L2

namespace L2
open PySem PySem.Spec PyProof.Rows

/-- the module's facts, over the base: the heap at the law's entry without what is tracked there -/
structure Mod (K : PySem.W.Frag) (mg : Str → Option Value) (base : Heap) : Prop where
  kin : K.In base
  glob : base.Ns mainGlobals mg
  blt : ∃ mb, base.Ns builtinsNs mb ∧ ∀ x : Str, x ≠ "__name__" → mb x = bootBuiltins x
  nolimit : base.NoLimit

/-- the context: a def's body (or a comprehension's block) running. base: fixed through the whole law; s₀, H₀: the entry; outer: the frames whose slots others may change (a def's callers); stack: all frames that run;
   ex: iterators that were made ahead of the entry and are walked here (a comprehension's); fn: the names whose cells were made at the entry (a def: all; a comprehension's block: its own); calm: not within an except suite; pn: pins that every state bears; xe: what is wanted of an exception that leaves the code -/
structure Cx where
  prog : Program
  w : World
  K : PySem.W.Frag
  mg : Str → Option Value
  base : Heap
  A : Around
  N : List Str
  s₀ : Shared
  H₀ : Hp
  env : Env
  outer : List Env
  stack : List Env
  ex : List Addr
  fn : Str → Bool
  calm : Bool
  pn : List (Addr × Obj)
  xe : Value → Shared → Prop
/-- the callers' frames -/
def frs (l : List Env) : List Addr := l.filterMap (·.frame)
abbrev Cx.fs (X : Cx) : List Addr := frs X.outer

def Vis (sc : Scope) (x : Str) : Prop := sc.names.lookup x = some .local ∨ sc.names.lookup x = some .cell ∨ sc.names.lookup x = some .free
def Loc (sc : Scope) (x : Str) : Prop := sc.names.lookup x = some .local ∨ sc.names.lookup x = some .cell
def Look (env : Env) (h : Heap) (m : Str → Option Value) (x : Str) (u : Value) : Prop :=
  (env.kindOf x = some .local ∧ m x = some u) ∨ ((env.kindOf x = some .cell ∨ env.kindOf x = some .free) ∧ ∃ c, env.cells.lookup x = some c ∧ h.IsCell c (some u))

structure Cx.Ok (X : Cx) : Prop where
  mod : Mod X.K X.mg X.base
  kind : X.env.scope.kind = .function
  glob : X.env.globals = mainGlobals
  blt : X.env.builtins = builtinsNs
  above : X.s₀.heap.objs.size ≤ X.env.locals
  inj : ∀ x y c, X.env.cells.lookup x = some c → X.env.cells.lookup y = some c → x = y
  has : ∀ x, (X.env.kindOf x = some .cell ∨ X.env.kindOf x = some .free) → ∃ c, X.env.cells.lookup x = some c
  cab : ∀ x c, X.fn x = true → X.env.cells.lookup x = some c → X.s₀.heap.objs.size ≤ c
  hd : X.calm = true → X.A.handled = none
  frames : X.A.frames = some X.stack
  stk : X.stack = X.outer ∨ (X.stack = X.env :: X.outer ∧ X.env.frame = some X.env.locals)
  exf : ∀ b ∈ X.ex, b ≠ X.env.locals ∧ ∀ x c, X.env.cells.lookup x = some c → c ≠ b
  bs : ∀ b o, X.base.get? b = some o → X.s₀.heap.get? b = some o ∧ X.H₀ b = none
  bsz : X.base.objs.size ≤ X.s₀.heap.objs.size
  noex : ∀ b o, X.base.get? b = some o → b ∉ X.ex
  exfs : ∀ b ∈ X.ex, b ∉ X.fs
  funs : X.s₀.heap.FunFrames X.base X.outer
  frf : ∀ b ∈ X.fs, X.H₀ b = none

structure Inv (X : Cx) (pins : List (Addr × Obj)) (σ : List (Option V)) (H : Hp) (s : Shared) : Prop where
  ok : X.Ok
  os : s.os = X.s₀.os
  bare : AllBare s.gens
  base : Un X.fs X.ex X.H₀ H X.s₀.heap s.heap
  loc : ∃ m, s.heap.Ns X.env.locals m ∧ ∀ (i : Nat) (x : Str) (v : V), X.N[i]? = some x → σ[i]? = some (some v) → Vis X.env.scope x → ∃ u, RelV v u ∧ Look X.env s.heap m x u
  cell : ∀ x c, X.env.cells.lookup x = some c → ∃ v, s.heap.IsCell c v
  free : H X.env.locals = none
  freeC : ∀ x c, X.env.cells.lookup x = some c → H c = none
  pin : ∀ p ∈ X.pn ++ pins, s.heap.get? p.1 = some p.2 ∧ H p.1 = none ∧ p.1 ≠ X.env.locals ∧ p.1 ∉ X.fs ∧ ∀ v, p.2.data ≠ .cell v
  hok : HOk X.prog X.w H s.heap
  len : σ.length = X.N.length

section
variable {X : Cx} {pins : List (Addr × Obj)} {σ : List (Option V)} {H H' : Hp} {s : Shared} {h' : Heap}

theorem Cx.Ok.nofr (ok : X.Ok) {b : Addr} {o : Obj} (e : X.base.get? b = some o) : b ∉ X.fs := fun hb => by
  have := (ok.funs.mem hb).1
  rw [e] at this; cases this
theorem Inv.bs (I : Inv X pins σ H s) : ∀ b o, X.base.get? b = some o → s.heap.get? b = some o ∧ H b = none := fun b o e =>
  ⟨I.base.keep b o (I.ok.bs b o e).1 (I.ok.bs b o e).2 (I.ok.nofr e) (I.ok.noex b o e), I.base.free b o (I.ok.bs b o e).1 (I.ok.bs b o e).2 (I.ok.noex b o e)⟩
theorem Inv.bk (I : Inv X pins σ H s) : ∀ b o, X.base.get? b = some o → s.heap.get? b = some o := fun b o e => (I.bs b o e).1
theorem Inv.mod (I : Inv X pins σ H s) : Mod X.K X.mg X.base := I.ok.mod
theorem Inv.kIn (I : Inv X pins σ H s) : X.K.In s.heap := I.ok.mod.kin.keeps I.bk
/-- the frame over the base: for OpenK's rules (K.In X.base is I.mod.kin) -/
theorem Inv.fr (I : Inv X pins σ H s) : ∃ m, Fr X.base X.env.locals s.heap m :=
  let ⟨m, hn, _⟩ := I.loc
  ⟨m, hn, I.bk, Nat.le_trans I.ok.bsz I.ok.above⟩
theorem Inv.lt (I : Inv X pins σ H s) : X.env.locals < s.heap.objs.size := let ⟨_, hn, _⟩ := I.loc; hn.lt
theorem Inv.sz (I : Inv X pins σ H s) : X.s₀.heap.objs.size ≤ s.heap.objs.size := Nat.le_trans I.ok.above (Nat.le_of_lt I.lt)
theorem Inv.nofs (I : Inv X pins σ H s) {a : Addr} (h : s.heap.objs.size ≤ a) : a ∉ X.fs := fun hb => by
  obtain ⟨_, o, ho, _⟩ := I.ok.funs.mem hb
  exact absurd (Nat.lt_of_lt_of_le (Heap.lt_size ho) (Nat.le_trans I.sz h)) (Nat.lt_irrefl _)
theorem Inv.cne (I : Inv X pins σ H s) : ∀ x c, X.env.cells.lookup x = some c → c ≠ X.env.locals := fun x c e z => by
  obtain ⟨v, o, ho, hd⟩ := I.cell x c e
  obtain ⟨m, ⟨o', es, ep, ho', hd', _⟩, _⟩ := I.loc
  rw [z, ho'] at ho; cases ho; rw [hd'] at hd; cases hd
theorem Inv.funs (I : Inv X pins σ H s) : s.heap.FunFrames X.base X.outer := by
  have all : ∀ (l : List Env), (∀ b ∈ frs l, b ∈ X.fs) → X.s₀.heap.FunFrames X.base l → s.heap.FunFrames X.base l := by
    intro l
    induction l with
    | nil => intro _ _; trivial
    | cons env r ih =>
      intro hs hl
      obtain ⟨hk, ⟨L, o, hf, hn, ho, hd⟩, hr⟩ := hl
      have hL : L ∈ X.fs := hs L (by unfold frs; rw [List.filterMap_cons, hf]; exact List.mem_cons_self)
      obtain ⟨sl, e⟩ := I.base.slot L o ho (I.ok.frf L hL) hL fun z => I.ok.exfs L z hL
      exact ⟨hk, ⟨L, _, hf, hn, e, hd⟩, ih (fun b hb => hs b (by unfold frs; rw [List.filterMap_cons, hf]; exact List.mem_cons_of_mem _ hb)) hr⟩
  exact all X.outer (fun _ hb => hb) I.ok.funs

/-- the frames that run, for a call -/
theorem Inv.stack (I : Inv X pins σ H s) : s.heap.FunFrames X.base X.stack := by
  rcases I.ok.stk with e | ⟨e, hf⟩
  · rw [e]; exact I.funs
  · rw [e]
    obtain ⟨m, hn, _⟩ := I.loc
    refine .cons (by rw [I.ok.kind]; decide) hf hn ?_ I.funs
    exact Heap.get?_none_of_le (Nat.le_trans I.ok.bsz I.ok.above)
theorem Inv.stkSub (I : Inv X pins σ H s) : ∀ b ∈ frs X.stack, b ∈ X.env.locals :: X.fs := fun b hb => by
  rcases I.ok.stk with e | ⟨e, hf⟩
  · rw [e] at hb; exact List.mem_cons_of_mem _ hb
  · rw [e] at hb
    unfold frs at hb
    rw [List.filterMap_cons, hf] at hb
    exact hb
theorem Inv.stkFree (I : Inv X pins σ H s) : ∀ b ∈ frs X.stack, H b = none := fun b hb => by
  rcases List.mem_cons.mp (I.stkSub b hb) with e | hb
  · rw [e]; exact I.free
  · obtain ⟨_, o, ho, _⟩ := I.ok.funs.mem hb
    exact I.base.free b o ho (I.ok.frf b hb) fun z => I.ok.exfs b z hb

/-- THE STEP: the untracked objects but the frame and the records at ch are kept (the callers' frames up to slots), the frame's map is kept, the new abstract heap is held -/
theorem Inv.step {g' : Array GenState} {t' : Nat} {d' : Drawn} {ch : List Addr} (I : Inv X pins σ H s)
    (hch : ∀ b ∈ ch, (b ∈ X.ex ∨ X.s₀.heap.objs.size ≤ b) ∧ b ≠ X.env.locals ∧ (∀ x c, X.env.cells.lookup x = some c → c ≠ b) ∧ ∀ p ∈ X.pn ++ pins, p.1 ≠ b)
    (keep : ∀ b o, b ≠ X.env.locals → b ∉ X.fs → b ∉ ch → s.heap.get? b = some o → H b = none → h'.get? b = some o)
    (slot : ∀ b o, b ≠ X.env.locals → b ∈ X.fs → b ∉ ch → s.heap.get? b = some o → H b = none → ∃ sl, h'.get? b = some { o with slots := sl }) (free : ∀ b o, b ∉ ch → s.heap.get? b = some o → H b = none → H' b = none)
    (there : ∀ b o, b ∉ ch → s.heap.get? b = some o → ∃ o', h'.get? b = some o')
    (tups : ∀ b xs, H b = some (.tup xs) → H' b = some (.tup xs)) (frzs : ∀ b o u, H b = some (.frz o u) → H' b = some (.frz o u)) (tbls : ∀ b ps, H b = some (.tbl ps) → ∃ more, H' b = some (.tbl (ps ++ more)))
    (ns : ∀ m, s.heap.Ns X.env.locals m → h'.Ns X.env.locals m) (hok : HOk X.prog X.w H' h') (hg : AllBare g') :
    Inv X pins σ H' { s with heap := h', gens := g', drawn := d', toks := t' } := by
  have neL : ∀ b o, X.s₀.heap.get? b = some o → b ≠ X.env.locals := fun b o e => Nat.ne_of_lt (Nat.lt_of_lt_of_le (Heap.lt_size e) I.ok.above)
  have neC : ∀ b o, X.s₀.heap.get? b = some o → b ∉ X.ex → b ∉ ch := fun b o e hx hb => by
    rcases (hch b hb).1 with z | z
    · exact hx z
    · exact absurd (Nat.lt_of_lt_of_le (Heap.lt_size e) z) (Nat.lt_irrefl _)
  have cellK : ∀ x c, X.env.cells.lookup x = some c → ∀ v, s.heap.IsCell c v → h'.IsCell c v := fun x c e v ⟨o, ho, hd⟩ => by
    have nch : c ∉ ch := fun z => (hch c z).2.2.1 x c e rfl
    by_cases hc : c ∈ X.fs
    · obtain ⟨sl, q⟩ := slot c o (I.cne x c e) hc nch ho (I.freeC x c e)
      exact ⟨_, q, hd⟩
    · exact ⟨o, keep c o (I.cne x c e) hc nch ho (I.freeC x c e), hd⟩
  refine ⟨I.ok, I.os, hg, ⟨fun b o e n hb hx => ?_, fun b o e n hb hx => ?_, fun b o e n hx => ?_, fun b o e hx => ?_, fun b xs e => tups b xs (I.base.tups b xs e), fun b o xs e => frzs b o xs (I.base.frzs b o xs e), fun b ps e => ?_⟩, ?_, fun x c e => ?_, ?_, fun x c e => ?_, fun p hp => ?_, hok, I.len⟩
  · exact keep b o (neL b o e) hb (neC b o e hx) (I.base.keep b o e n hb hx) (I.base.free b o e n hx)
  · obtain ⟨sl, e1⟩ := I.base.slot b o e n hb hx
    obtain ⟨sl', e2⟩ := slot b _ (neL b o e) hb (neC b o e hx) e1 (I.base.free b o e n hx)
    exact ⟨sl', e2⟩
  · obtain ⟨o', e1⟩ := I.base.there b o e hx
    exact free b o' (neC b o e hx) e1 (I.base.free b o e n hx)
  · obtain ⟨o', e1⟩ := I.base.there b o e hx
    exact there b o' (neC b o e hx) e1
  · obtain ⟨m1, e1⟩ := I.base.tbls b ps e
    obtain ⟨m2, e2⟩ := tbls b _ e1
    exact ⟨m1 ++ m2, by rw [e2, Array.append_assoc]⟩
  · obtain ⟨m, hn, hl⟩ := I.loc
    refine ⟨m, ns m hn, fun i x v e1 e2 e3 => ?_⟩
    obtain ⟨u, r, l⟩ := hl i x v e1 e2 e3
    refine ⟨u, r, ?_⟩
    rcases l with l | ⟨k, c, e, z⟩
    · exact .inl l
    · exact .inr ⟨k, c, e, cellK x c e _ z⟩
  · obtain ⟨v, z⟩ := I.cell x c e
    exact ⟨v, cellK x c e v z⟩
  · obtain ⟨m, ⟨o, _, _, ho, _⟩, _⟩ := I.loc
    exact free _ o (fun z => (hch _ z).2.1 rfl) ho I.free
  · obtain ⟨v, o, ho, hd⟩ := I.cell x c e
    exact free c o (fun z => (hch c z).2.2.1 x c e rfl) ho (I.freeC x c e)
  · obtain ⟨e, n, ne, nf, d⟩ := I.pin p hp
    have nch : p.1 ∉ ch := fun z => (hch p.1 z).2.2.2 p hp rfl
    exact ⟨keep p.1 p.2 ne nf nch e n, free p.1 p.2 nch e n, ne, nf, d⟩
/-- .. where the frame's own object is kept too -/
theorem Inv.un {t' : Nat} (I : Inv X pins σ H s) (u : Un X.fs [] H H' s.heap h') (hok : HOk X.prog X.w H' h') : Inv X pins σ H' { s with heap := h', toks := t' } := by
  obtain ⟨m, ⟨o, es, ep, ho, r⟩, _⟩ := id I.loc
  obtain ⟨sl, hL⟩ := u.any ho I.free (by simp)
  exact I.step (g' := s.gens) (d' := s.drawn) (ch := []) (fun _ z => nomatch z) (fun b o _ hb _ e n => u.keep b o e n hb (by simp)) (fun b o _ hb _ e n => u.slot b o e n hb (by simp)) (fun b o _ e n => u.free b o e n (by simp)) (fun b o _ e => u.there b o e (by simp)) u.tups u.frzs u.tbls (fun m' hm => by
    obtain ⟨o', es', ep', ho', r'⟩ := hm
    rw [ho] at ho'; cases ho'
    exact ⟨_, es', ep', hL, r'⟩) hok I.bare
/-- behind a call (or a comprehension's block): the slots of this frame may have changed too, the records at ch may have turned -/
theorem Inv.call {g' : Array GenState} {t' : Nat} {d' : Drawn} {ch : List Addr} (I : Inv X pins σ H s) (u : Un (frs X.stack) ch H H' s.heap h') (hok : HOk X.prog X.w H' h') (hg : AllBare g')
    (hch : ∀ b ∈ ch, (b ∈ X.ex ∨ X.s₀.heap.objs.size ≤ b) ∧ b ≠ X.env.locals ∧ (∀ x c, X.env.cells.lookup x = some c → c ≠ b) ∧ ∀ p ∈ X.pn ++ pins, p.1 ≠ b) :
    Inv X pins σ H' { s with heap := h', gens := g', drawn := d', toks := t' } := by
  obtain ⟨m, ⟨o, es, ep, ho, r⟩, _⟩ := id I.loc
  obtain ⟨sl, hL⟩ := u.any ho I.free fun z => (hch _ z).2.1 rfl
  exact I.step (ch := ch) hch (fun b o hL hb hc e n => u.keep b o e n (fun z => (List.mem_cons.mp (I.stkSub b z)).elim hL hb) hc) (fun b o _ _ hc e n => u.any e n hc) (fun b o hc e n => u.free b o e n hc) (fun b o hc e => u.there b o e hc) u.tups u.frzs u.tbls (fun m' hm => by
    obtain ⟨o', es', ep', ho', r'⟩ := hm
    rw [ho] at ho'; cases ho'
    exact ⟨_, es', ep', hL, r'⟩) hok hg
/-- an untracked record of ours (an iterator) has turned -/
theorem Inv.turned {t' : Nat} {it : Addr} (I : Inv X pins σ H s) (k : ∀ b o, b ≠ it → s.heap.get? b = some o → h'.get? b = some o) (hn : H it = none) (hL : it ≠ X.env.locals)
    (h1 : it ∈ X.ex ∨ X.s₀.heap.objs.size ≤ it) (h2 : ∀ x c, X.env.cells.lookup x = some c → c ≠ it) (h3 : ∀ p ∈ X.pn ++ pins, p.1 ≠ it) : Inv X pins σ H { s with heap := h', toks := t' } := by
  have nit : ∀ b u, H b = some u → b ≠ it := fun b u e z => by rw [z, hn] at e; cases e
  refine I.step (g' := s.gens) (d' := s.drawn) (ch := [it]) (fun b hb => ?_) (fun b o _ _ hc e _ => k b o (fun z => hc (by simp [z])) e) (fun b o _ _ hc e _ => ⟨o.slots, k b o (fun z => hc (by simp [z])) e⟩) (fun _ _ _ _ n => n)
    (fun b o hc e => ⟨o, k b o (fun z => hc (by simp [z])) e⟩) (fun _ _ e => e) (fun _ _ _ e => e) (fun b ps e => ⟨#[], by rw [e]; simp⟩) (fun m hm => ?_) (fun b u e => ?_) I.bare
  · have e : b = it := by simpa using hb
    subst e
    exact ⟨h1, hL, h2, h3⟩
  · obtain ⟨o, es, ep, ho, r⟩ := hm
    exact ⟨o, es, ep, k _ o (Ne.symm hL) ho, r⟩
  · refine (I.hok b u e).stay (fun c v hc q => k c v ?_ q) (fun _ q => q) fun _ _ q => q
    rcases hc with z | z
    · rw [z]; exact nit b u e
    · exact nit c _ z
theorem Inv.tok (I : Inv X pins σ H s) (t : Nat) : Inv X pins σ H { s with toks := t } := I.un (h' := s.heap) (t' := t) Un.refl I.hok
/-- all objects kept -/
theorem Inv.kept {t' : Nat} (I : Inv X pins σ H s) (k : ∀ b u, s.heap.get? b = some u → h'.get? b = some u) : Inv X pins σ H { s with heap := h', toks := t' } := I.un (Un.kept k) (I.hok.kept k)
/-- a new object laid and tracked -/
theorem Inv.laid {a : Addr} {o : HO} {t' : Nat} (I : Inv X pins σ H s) (k : ∀ b u, s.heap.get? b = some u → h'.get? b = some u) (hp : s.heap.objs.size ≤ a) (new : ObjOk X.prog X.w (upd H a o) h' a o) :
    Inv X pins σ (upd H a o) { s with heap := h', toks := t' } := I.un (Un.laid k hp (I.hok.fresh hp)) (I.hok.laid k hp new)
/-- an object written -/
theorem Inv.write {x e : Addr} {o : HO} {t' : Nat} (I : Inv X pins σ H s) (mu : Mut (H x)) (he : e = x ∨ H e = some (.own x)) (k : ∀ b u, b ≠ e → s.heap.get? b = some u → h'.get? b = some u) (heo : ∃ u, h'.get? e = some u)
    (new : ObjOk X.prog X.w (upd H x o) h' x o) : Inv X pins σ (upd H x o) { s with heap := h', toks := t' } := I.un (Un.write mu he k heo) (I.hok.write mu he k heo new)
/-- forgetting slots, pins -/
theorem Inv.weak {σ' : List (Option V)} (I : Inv X pins σ H s) (hl : σ'.length = σ.length) (w : ∀ (i : Nat) v, σ'[i]? = some (some v) → σ[i]? = some (some v)) : Inv X pins σ' H s :=
  ⟨I.ok, I.os, I.bare, I.base, let ⟨m, hn, hl'⟩ := I.loc; ⟨m, hn, fun i x v e1 e2 e3 => hl' i x v e1 (w i v e2) e3⟩, I.cell, I.free, I.freeC, I.pin, I.hok, hl.trans I.len⟩
theorem Inv.pins_of {pins' : List (Addr × Obj)} (I : Inv X pins σ H s) (h : ∀ p ∈ pins', s.heap.get? p.1 = some p.2 ∧ H p.1 = none ∧ p.1 ≠ X.env.locals ∧ p.1 ∉ X.fs ∧ ∀ v, p.2.data ≠ .cell v) : Inv X pins' σ H s :=
  ⟨I.ok, I.os, I.bare, I.base, I.loc, I.cell, I.free, I.freeC, fun p hp => (List.mem_append.mp hp).elim (fun z => I.pin p (List.mem_append_left _ z)) (h p), I.hok, I.len⟩

theorem nodup_ix {N : List Str} (hN : N.Nodup) {i j : Nat} {x : Str} (a : N[i]? = some x) (b : N[j]? = some x) : i = j := by
  obtain ⟨h1, e1⟩ := List.getElem?_eq_some_iff.mp a
  obtain ⟨h2, e2⟩ := List.getElem?_eq_some_iff.mp b
  exact (List.getElem_inj hN).mp (e1.trans e2.symm)

/-- a name is stored; what changed -/
theorem store_ok2 {M : Model} {A : Around} {E : Value → Shared → Prop} {i : Nat} {x : Str} {v : V} {u : Value} {Q : Unit → Shared → Prop} (I : Inv X pins σ H s) (hN : X.N.Nodup) (hi : X.N[i]? = some x) (hx : Loc X.env.scope x) (r : RelV v u)
    (h : ∀ s', Inv X pins (σ.set i (some v)) H s' → (∃ a, Heap.SameBut a s.heap s'.heap ∧ (a = X.env.locals ∨ X.env.cells.lookup x = some a)) → Q () s') (hf : X.fn x = true ∨ X.env.scope.names.lookup x = some .local := by first | exact .inl rfl | exact .inr rfl | assumption) : wpAny M A (storeName X.env x u) Q E s := by
  obtain ⟨m, hn, hl⟩ := id I.loc
  have hcls : (X.env.scope.kind == .class || (X.env.scope.kind == .module && X.env.locals != X.env.globals)) = false := by rw [I.ok.kind]; rfl
  have hiσ : i < σ.length := by rw [I.len]; exact (List.getElem?_eq_some_iff.mp hi).1
  have cne := I.cne
  have tracked : ∀ {a : Addr} {h' : Heap}, (∃ o, s.heap.get? a = some o ∧ H a = none) → Heap.SameBut a s.heap h' → HOk X.prog X.w H h' := fun {a h'} ha hs b ob e => by
    obtain ⟨_, _, hfree⟩ := ha
    refine (I.hok b ob e).stay (fun c w' hc q => (hs.2 c ?_).trans q) (fun _ q => q) fun _ _ q => q
    rintro rfl
    rcases hc with rfl | hc
    · rw [hfree] at e; cases e
    · rw [hfree] at hc; cases hc
  rcases hx with hk | hk
  · refine wpAny_storeName_local hk hn (fun h' hn' hs => ?_) hcls
    obtain ⟨oL, _, _, hoL, _⟩ := id hn
    refine h _ ⟨I.ok, I.os, I.bare, ⟨fun b o e n hb hx => ?_, fun b o e n hb hx => ?_, I.base.free, fun b o e hx => ?_, I.base.tups, I.base.frzs, I.base.tbls⟩, ⟨_, hn', fun j y v' e1 e2 e3 => ?_⟩, fun y c e => ?_, I.free, I.freeC, fun p hp => ?_, tracked ⟨oL, hoL, I.free⟩ hs, by simpa using I.len⟩ ⟨_, hs, .inl rfl⟩
    · exact (hs.2 b (Nat.ne_of_lt (Nat.lt_of_lt_of_le (Heap.lt_size e) I.ok.above))).trans (I.base.keep b o e n hb hx)
    · obtain ⟨sl, e1⟩ := I.base.slot b o e n hb hx
      exact ⟨sl, (hs.2 b (Nat.ne_of_lt (Nat.lt_of_lt_of_le (Heap.lt_size e) I.ok.above))).trans e1⟩
    · obtain ⟨o', e1⟩ := I.base.there b o e hx
      exact ⟨o', (hs.2 b (Nat.ne_of_lt (Nat.lt_of_lt_of_le (Heap.lt_size e) I.ok.above))).trans e1⟩
    · by_cases hj : j = i
      · subst hj
        rw [hi] at e1; cases e1
        rw [List.getElem?_set_self hiσ] at e2
        cases e2
        exact ⟨u, r, .inl ⟨hk, by simp⟩⟩
      · rw [List.getElem?_set_ne (Ne.symm hj)] at e2
        obtain ⟨u', r', q⟩ := hl j y v' e1 e2 e3
        refine ⟨u', r', ?_⟩
        rcases q with ⟨k, e⟩ | ⟨k, c, e, z⟩
        · refine .inl ⟨k, ?_⟩
          have : y ≠ x := fun e => hj (nodup_ix hN e1 (e ▸ hi))
          simp [this, e]
        · exact .inr ⟨k, c, e, z.sameBut hs (cne y c e)⟩
    · obtain ⟨w', z⟩ := I.cell y c e
      exact ⟨w', z.sameBut hs (cne y c e)⟩
    · obtain ⟨e, n, ne, nf, d⟩ := I.pin p hp
      exact ⟨(hs.2 p.1 ne).trans e, n, ne, nf, d⟩
  · have hfn : X.fn x = true := by
      rcases hf with z | z
      · exact z
      · rw [z] at hk; cases hk
    obtain ⟨c, hc⟩ := I.ok.has x (.inl hk)
    obtain ⟨w', z⟩ := I.cell x c hc
    refine wpAny_storeName_cell I.ok.kind hk hc z (fun h' hc' hs => ?_)
    obtain ⟨oc, hoc, hocd⟩ := id z
    refine h { s with heap := h' } ⟨I.ok, I.os, I.bare, ⟨fun b o e n hb hx => ?_, fun b o e n hb hx => ?_, I.base.free, fun b o e hx => ?_, I.base.tups, I.base.frzs, I.base.tbls⟩, ⟨m, hn.sameBut hs (Ne.symm (cne x c hc)), fun j y v' e1 e2 e3 => ?_⟩, fun y c' e => ?_, I.free, I.freeC, fun p hp => ?_, tracked ⟨oc, hoc, I.freeC x c hc⟩ hs, by simpa using I.len⟩ ⟨c, hs, .inr hc⟩
    · exact (hs.2 b (Nat.ne_of_lt (Nat.lt_of_lt_of_le (Heap.lt_size e) (I.ok.cab x c hfn hc)))).trans (I.base.keep b o e n hb hx)
    · obtain ⟨sl, e1⟩ := I.base.slot b o e n hb hx
      exact ⟨sl, (hs.2 b (Nat.ne_of_lt (Nat.lt_of_lt_of_le (Heap.lt_size e) (I.ok.cab x c hfn hc)))).trans e1⟩
    · obtain ⟨o', e1⟩ := I.base.there b o e hx
      exact ⟨o', (hs.2 b (Nat.ne_of_lt (Nat.lt_of_lt_of_le (Heap.lt_size e) (I.ok.cab x c hfn hc)))).trans e1⟩
    · by_cases hj : j = i
      · subst hj
        rw [hi] at e1; cases e1
        rw [List.getElem?_set_self hiσ] at e2
        cases e2
        exact ⟨u, r, .inr ⟨.inl hk, c, hc, hc'⟩⟩
      · rw [List.getElem?_set_ne (Ne.symm hj)] at e2
        obtain ⟨u', r', q⟩ := hl j y v' e1 e2 e3
        refine ⟨u', r', ?_⟩
        rcases q with q | ⟨k, c', e, z'⟩
        · exact .inl q
        · refine .inr ⟨k, c', e, z'.sameBut hs ?_⟩
          rintro rfl
          exact hj (nodup_ix hN e1 (I.ok.inj _ _ _ e hc ▸ hi))
    · by_cases hcc : c' = c
      · subst hcc; exact ⟨_, hc'⟩
      · obtain ⟨w2, z2⟩ := I.cell y c' e
        exact ⟨w2, z2.sameBut hs hcc⟩
    · obtain ⟨e, n, ne, nf, d⟩ := I.pin p hp
      refine ⟨(hs.2 p.1 ?_).trans e, n, ne, nf, d⟩
      intro q
      rw [q, hoc] at e
      have q' : oc = p.2 := Option.some.inj e
      exact d w' (by rw [← q']; exact hocd)
theorem store_ok {M : Model} {A : Around} {E : Value → Shared → Prop} {i : Nat} {x : Str} {v : V} {u : Value} {Q : Unit → Shared → Prop} (I : Inv X pins σ H s) (hN : X.N.Nodup) (hi : X.N[i]? = some x) (hx : Loc X.env.scope x) (r : RelV v u)
    (h : ∀ s', Inv X pins (σ.set i (some v)) H s' → Q () s') (hf : X.fn x = true ∨ X.env.scope.names.lookup x = some .local := by first | exact .inl rfl | exact .inr rfl | assumption) : wpAny M A (storeName X.env x u) Q E s :=
  store_ok2 I hN hi hx r (fun s' I' _ => h s' I') hf
/-- behind a call or a block, the state as it is -/
theorem Inv.call' {s' : Shared} {ch : List Addr} (I : Inv X pins σ H s) (ho : s'.os = s.os) (u : Un (frs X.stack) ch H H' s.heap s'.heap) (hok : HOk X.prog X.w H' s'.heap) (hg : AllBare s'.gens)
    (hch : ∀ b ∈ ch, (b ∈ X.ex ∨ X.s₀.heap.objs.size ≤ b) ∧ b ≠ X.env.locals ∧ (∀ x c, X.env.cells.lookup x = some c → c ≠ b) ∧ ∀ p ∈ X.pn ++ pins, p.1 ≠ b) : Inv X pins σ H' s' := by
  obtain ⟨h', g', d', t', o'⟩ := s'
  have e : o' = s.os := ho
  subst e
  exact I.call (g' := g') (t' := t') (d' := d') u hok hg hch
end

/-! ### the judgements -/
/-- an exception: its class, its own dict's address (where it has one), the abstract heap behind it -/
abbrev XK := Value → Option Addr → Hp → Prop
abbrev St := List (Option V)
abbrev VK := V → Hp → Prop
/-- an expression's reading; a test's; an argument list's -/
abbrev TE := St → Hp → VK → Prop
abbrev TT := St → Hp → (Bool → Hp → Prop) → Prop
abbrev TA := St → Hp → (List V → Hp → Prop) → Prop
/-- what is wanted behind a statement -/
structure Ends where
  nx : St → Hp → Prop
  rt : VK
  bk : St → Hp → Prop := fun _ _ => False
  ct : St → Hp → Prop := fun _ _ => False
abbrev TS := Ends → St → Hp → Prop

def EP (X : Cx) (pins : List (Addr × Obj)) (σ : St) (Q : VK) (u : Value) (s' : Shared) : Prop := ∃ v H', Inv X pins σ H' s' ∧ RelV v u ∧ Q v H'
def TP (X : Cx) (pins : List (Addr × Obj)) (σ : St) (Q : Bool → Hp → Prop) (b : Bool) (s' : Shared) : Prop := ∃ H', Inv X pins σ H' s' ∧ Q b H'
def AP (X : Cx) (pins : List (Addr × Obj)) (σ : St) (Q : List V → Hp → Prop) (us : List Value) (s' : Shared) : Prop := ∃ vs H', Inv X pins σ H' s' ∧ Vals vs us ∧ Q vs H'
def SP (X : Cx) (pins : List (Addr × Obj)) (D : Ends) (f : Flow) (s' : Shared) : Prop :=
  match f with
  | .next => ∃ σ' H', Inv X pins σ' H' s' ∧ D.nx σ' H'
  | .brk => ∃ σ' H', Inv X pins σ' H' s' ∧ D.bk σ' H'
  | .cont => ∃ σ' H', Inv X pins σ' H' s' ∧ D.ct σ' H'
  | .ret u => ∃ v σ' H', Inv X pins σ' H' s' ∧ RelV v u ∧ D.rt v H'

def PE (X : Cx) (e : Expr) (t : TE) : Prop :=
  ∀ (pins : List (Addr × Obj)) (s : Shared) (σ : St) (H : Hp) (Q : VK), Inv X pins σ H s → t σ H Q → wpAny (model X.prog X.w) X.A (eval e X.env) (EP X pins σ Q) X.xe s
def PT (X : Cx) (e : Expr) (t : TT) : Prop :=
  ∀ (pins : List (Addr × Obj)) (s : Shared) (σ : St) (H : Hp) (Q : Bool → Hp → Prop), Inv X pins σ H s → t σ H Q → wpAny (model X.prog X.w) X.A (isTrue e X.env (eval e X.env)) (TP X pins σ Q) X.xe s
/-- a test whatever its 'whole' is (and, or) -/
def PW (X : Cx) (e : Expr) (t : TT) : Prop :=
  ∀ (whole : Sem Value) (pins : List (Addr × Obj)) (s : Shared) (σ : St) (H : Hp) (Q : Bool → Hp → Prop), Inv X pins σ H s → t σ H Q → wpAny (model X.prog X.w) X.A (isTrue e X.env whole) (TP X pins σ Q) X.xe s
theorem PW.pt {X : Cx} {e : Expr} {t : TT} (h : PW X e t) : PT X e t := h _
/-- an argument list (no star), from the left -/
def PA (X : Cx) (es : List Expr) (t : TA) : Prop :=
  ∀ (pos : Pos) (pins : List (Addr × Obj)) (s : Shared) (σ : St) (H : Hp) (Q : List V → Hp → Prop), Inv X pins σ H s → t σ H Q → wpAny (model X.prog X.w) X.A (spliced (backTo pos (starEach es X.env))) (AP X pins σ Q) X.xe s
def PS (X : Cx) (st : Stmt) (t : TS) : Prop :=
  ∀ (pins : List (Addr × Obj)) (s : Shared) (σ : St) (H : Hp) (D : Ends), Inv X pins σ H s → t D σ H → wpAny (model X.prog X.w) X.A (exec st X.env) (SP X pins D) X.xe s
def PSs (X : Cx) (st : List Stmt) (t : TS) : Prop :=
  ∀ (pins : List (Addr × Obj)) (s : Shared) (σ : St) (H : Hp) (D : Ends), Inv X pins σ H s → t D σ H → wpAny (model X.prog X.w) X.A (execs st X.env) (SP X pins D) X.xe s
/-- weaken the end -/
theorem thn {α : Type} {t : Sem α} {Q Q' : α → Shared → Prop} {M : Model} {A : Around} {E : Value → Shared → Prop} {s : Shared} (h : wpAny M A t Q E s) (hQ : ∀ a s, Q a s → Q' a s) : wpAny M A t Q' E s := wpAny_mono h hQ fun _ _ x => x
end L2

namespace L2
open PySem PySem.Spec PyProof.Rows
section
variable {X : Cx}

/-- two expressions in a row -/
theorem bin {a b : Expr} {ta tb : TE} (ha : PE X a ta) (hb : PE X b tb) {pins : List (Addr × Obj)} {s : Shared} {σ : St} {H : Hp} {R : V → V → Hp → Prop} (I : Inv X pins σ H s) (h : ta σ H fun x H1 => tb σ H1 fun y H2 => R x y H2)
    {α : Type} {Q : α → Shared → Prop} {f : Value → Value → Sem α}
    (hf : ∀ v u s2 x y H2, Inv X pins σ H2 s2 → RelV x v → RelV y u → R x y H2 → wpAny (model X.prog X.w) X.A (f v u) Q X.xe s2) :
    wpAny (model X.prog X.w) X.A (eval a X.env) (fun v s₁ => wpAny (model X.prog X.w) X.A (eval b X.env) (fun u s₂ => wpAny (model X.prog X.w) X.A (f v u) Q X.xe s₂) X.xe s₁) X.xe s := by
  refine thn (ha pins s σ H _ I h) fun v s1 ⟨x, H1, I1, r1, q1⟩ => ?_
  refine thn (hb pins s1 σ H1 _ I1 q1) fun u s2 ⟨y, H2, I2, r2, q2⟩ => ?_
  exact hf v u s2 x y H2 I2 r1 r2 q2

/-! ### names and constants -/
def tVar (i : Nat) : TE := fun σ H Q => ∃ v, σ[i]? = some (some v) ∧ Q v H
def tC (v : V) : TE := fun _ H Q => Q v H
theorem pe_var {i : Nat} {x : Str} {pos : Pos} (hN : X.N[i]? = some x) (hv : Vis X.env.scope x) (hd : (x == ("__debug__" : Str)) = false := by decide) (hcd : (x == ("__classdict__" : Str)) = false := by decide) : PE X (.Name x pos) (tVar i) := by
  intro pins s σ H Q I h
  obtain ⟨v, e, h⟩ := h
  obtain ⟨m, hn, hl⟩ := I.loc
  obtain ⟨u, r, l⟩ := hl i x v hN e hv
  have fin : EP X pins σ Q u s := ⟨v, H, I, r, h⟩
  rcases l with ⟨hk, hm⟩ | ⟨hk, c, hc, hcell⟩
  · exact wpAny_Name (wpAny_loadName_local I.ok.kind hk hn hm fin) hd
  · rcases hk with hk | hk
    · exact wpAny_Name (wpAny_loadName_cell I.ok.kind hk hc hcell fin) hd
    · exact wpAny_Name (wpAny_loadName_free I.ok.kind hk hc hcell fin hcd) hd
theorem pe_int {i j pos} : PE X (.Constant (.int i) j pos) (tC (.int i)) := fun _ _ _ H _ I h => wpAny_Constant_int ⟨.int i, H, I.tok _, ⟨_, rfl⟩, h⟩
theorem pe_bl {b j pos} : PE X (.Constant (.bool b) j pos) (tC (.bl b)) := fun _ _ _ H _ I h => Constant_bool ⟨.bl b, H, I, rfl, h⟩
theorem pe_str {x j pos} : PE X (.Constant (.str x) j pos) (tC (.str x)) := fun _ _ _ H _ I h => Calls.Constant_str ⟨.str x, H, I.tok _, ⟨_, rfl⟩, h⟩

/-- a global name of the def -/
def Gl (X : Cx) (x : Str) : Prop := X.env.kindOf x = some .globalImplicit
theorem ld_glob {E : Value → Shared → Prop} {pins : List (Addr × Obj)} {s : Shared} {σ : St} {H : Hp} {x : Str} {u : Value} {pos : Pos} {Q : Value → Shared → Prop} (I : Inv X pins σ H s) (hg : Gl X x) (hm : X.mg x = some u) (h : Q u s)
    (hd : (x == ("__debug__" : Str)) = false := by decide) : wpAny (model X.prog X.w) X.A (eval (.Name x pos) X.env) Q E s :=
  Calls.Name_function_global I.ok.kind hg (Calls.loadGlobal_global (by rw [I.ok.glob]; exact I.mod.glob.keeps I.bk) hm h) hd
theorem ld_blt {E : Value → Shared → Prop} {pins : List (Addr × Obj)} {s : Shared} {σ : St} {H : Hp} {x : Str} {u : Value} {pos : Pos} {Q : Value → Shared → Prop} (I : Inv X pins σ H s) (hg : Gl X x) (hm : X.mg x = none) (hv : bootBuiltins x = some u) (h : Q u s)
    (hn : x ≠ "__name__" := by decide) (hd : (x == ("__debug__" : Str)) = false := by decide) : wpAny (model X.prog X.w) X.A (eval (.Name x pos) X.env) Q E s := by
  obtain ⟨mb, h1, h2⟩ := I.mod.blt
  exact Calls.Name_function_global I.ok.kind hg (Calls.loadGlobal_builtin (by rw [I.ok.glob]; exact I.mod.glob.keeps I.bk) hm (by rw [I.ok.blt]; exact h1.keeps I.bk) ((h2 x hn).trans hv) h) hd
theorem pe_bltn {x : Str} {v : V} {u : Value} {pos : Pos} (hg : Gl X x) (hm : X.mg x = none) (hv : bootBuiltins x = some u) (r : RelV v u) (hn : x ≠ "__name__" := by decide) (hd : (x == ("__debug__" : Str)) = false := by decide) : PE X (.Name x pos) (tC v) :=
  fun _ _ _ H _ I h => ld_blt I hg hm hv ⟨v, H, I, r, h⟩ hn hd

/-! ### arithmetic -/
variable {a b : Expr} {ta tb : TE} {pos : Pos}
/-! ### comparisons -/
def PC (X : Cx) (op : CmpOp) (a b : Expr) (t : TE) : Prop :=
  ∀ (pins : List (Addr × Obj)) (s : Shared) (σ : St) (H : Hp) (Q : VK), Inv X pins σ H s → t σ H Q →
    wpAny (model X.prog X.w) X.A (eval a X.env) (fun v s₁ => wpAny (model X.prog X.w) X.A (eval b X.env) (fun u s₂ => wpAny (model X.prog X.w) X.A (compareOp op v u) (EP X pins σ Q) X.xe s₂) X.xe s₁) X.xe s
/-- a comparison as a value, as a test -/
def tB (t : TE) : TT := fun σ H Q => t σ H fun x H1 => ∃ c, x = .bl c ∧ Q c H1
theorem pt_cmp {op : CmpOp} {t : TE} (h : PC X op a b t) (h1 : behindInMarks op b = false := by first | exact nobehind _ (by decide) (by decide) | rfl) : PT X (.Compare a [op] [b] pos) (tB t) := by
  intro pins s σ H Q I hw
  refine wpAny_isTrue_Compare1 (thn (h pins s σ H _ I hw) fun v s1 h1 => thn h1 fun u s2 h2 => thn h2 fun c s3 ⟨x, H1, I1, r1, q1⟩ => ?_) h1
  obtain ⟨d, rfl, q⟩ := q1
  cases r1
  exact wpAny_truthy_bool ⟨H1, I1, q⟩
/-- an expression whose value is a bool, as a test -/
theorem pt_val {e : Expr} {t : TE} (h : PE X e t) (he : ∀ whole, isTrue e X.env whole = (do let v ← whole; standAt e.pos; holding [v] (truthy v)) := by intro _; rfl) : PT X e (tB t) := by
  intro pins s σ H Q I hw
  refine isTrue_plain (thn (h pins s σ H _ I hw) fun v s1 ⟨x, H1, I1, r1, q1⟩ => ?_) (he _)
  obtain ⟨d, rfl, q⟩ := q1
  cases r1
  exact wpAny_truthy_bool ⟨H1, I1, q⟩

/-! ### and, or, not -/
variable {tA tB' : TT} {rest : List Expr}
def tAnd (t u : TT) : TT := fun σ H Q => t σ H fun c H1 => if c = true then u σ H1 Q else Q false H1
def tOr (t u : TT) : TT := fun σ H Q => t σ H fun c H1 => if c = true then Q true H1 else u σ H1 Q
def tNot (t : TT) : TT := fun σ H Q => t σ H fun c H1 => Q (!c) H1
theorem pw_and1 (ha : PT X a tA) : PW X (.BoolOp .And [a] pos) tA := by
  intro wh pins s σ H Q I h
  refine isTrue_and (thn (ha pins s σ H Q I h) fun c s1 e => ?_)
  cases c with
  | true => exact isTrue_and_nil e
  | false => exact e
theorem pw_or1 (ha : PT X a tA) : PW X (.BoolOp .Or [a] pos) tA := by
  intro wh pins s σ H Q I h
  refine isTrue_or (thn (ha pins s σ H Q I h) fun c s1 e => ?_)
  cases c with
  | false => exact isTrue_or_nil e
  | true => exact e
theorem pw_and (ha : PT X a tA) (hb : PW X (.BoolOp .And (b :: rest) pos) tB') : PW X (.BoolOp .And (a :: b :: rest) pos) (tAnd tA tB') := by
  intro wh pins s σ H Q I h
  refine isTrue_and (thn (ha pins s σ H _ I h) fun c s1 ⟨H1, I1, q1⟩ => ?_)
  cases c with
  | true => exact hb wh pins s1 σ H1 Q I1 q1
  | false => exact ⟨H1, I1, q1⟩
theorem pw_or (ha : PT X a tA) (hb : PW X (.BoolOp .Or (b :: rest) pos) tB') : PW X (.BoolOp .Or (a :: b :: rest) pos) (tOr tA tB') := by
  intro wh pins s σ H Q I h
  refine isTrue_or (thn (ha pins s σ H _ I h) fun c s1 ⟨H1, I1, q1⟩ => ?_)
  cases c with
  | true => exact ⟨H1, I1, q1⟩
  | false => exact hb wh pins s1 σ H1 Q I1 q1
theorem pt_not (ha : PT X a tA) : PT X (.UnaryOp .Not a pos) (tNot tA) := by
  intro pins s σ H Q I h
  exact isTrue_not (ha pins s σ H (fun c H1 => Q (!c) H1) I h)
/-- .. as values (bools) -/
def tAndV (ta tb : TE) : TE := fun σ H Q => ta σ H fun x H1 => ∃ c, x = .bl c ∧ if c = true then tb σ H1 Q else Q (.bl false) H1
theorem pe_one {op} {t : TE} (h : PE X a t) : PE X (.BoolOp op [a] pos) t := fun pins s σ H Q I hw => BoolOp_one (h pins s σ H Q I hw)
theorem pe_and (ha : PE X a ta) (hb : PE X (.BoolOp .And (b :: rest) pos) tb) : PE X (.BoolOp .And (a :: b :: rest) pos) (tAndV ta tb) := by
  intro pins s σ H Q I h
  refine BoolOp_and (thn (ha pins s σ H _ I h) fun v s1 ⟨x, H1, I1, r1, q1⟩ => ?_)
  obtain ⟨c, rfl, q1⟩ := q1
  cases r1
  refine wpAny_truthy_bool ?_
  cases c with
  | true => exact hb pins s1 σ H1 Q I1 q1
  | false => exact ⟨.bl false, H1, I1, rfl, q1⟩
end
end L2

namespace L2
open PySem PySem.Spec PyProof.Rows

/-! ### a list, a tuple that is read: tracked, frozen, or an object of the module -/
def SqL (K : PySem.W.Frag) (H : Hp) (a : Addr) (xs : List V) : Prop :=
  Rd H a (.lst xs) ∨
    ∃ (o : Obj) (its : Array Value) (n : Nat), K.lookup a = some o ∧ o.cls = .type "list" ∧ o.dict = none ∧ o.data = .seq its n ∧ its.size ≤ sizeLine ∧ Vals xs its.toList
def SqT (K : PySem.W.Frag) (H : Hp) (a : Addr) (xs : List V) : Prop :=
  Rd H a (.tup xs) ∨
    ∃ (o : Obj) (its : Array Value) (n : Nat), K.lookup a = some o ∧ o.cls = .type "tuple" ∧ o.data = .seq its n ∧ its.size ≤ sizeLine ∧ Vals xs its.toList
def absV : Value → Option V
  | .none => some .non
  | .bool b => some (.bl b)
  | .int i _ => some (.int i)
  | .str x _ => some (.str x)
  | .bytes b _ => some (.byt b)
  | .float b _ => some (.flt b)
  | .ref a => some (.ref a)
  | .type n => some (.ty n)
  | _ => none
theorem RelV.abs {x : V} {u : Value} (r : RelV x u) : absV u = some x := by
  cases x with
  | non => cases r; rfl
  | bl _ => cases r; rfl
  | int _ => obtain ⟨t, rfl⟩ := r; rfl
  | str _ => obtain ⟨t, rfl⟩ := r; rfl
  | byt _ => obtain ⟨t, rfl⟩ := r; rfl
  | flt _ => obtain ⟨t, rfl⟩ := r; rfl
  | ref _ => cases r; rfl
  | ty _ => cases r; rfl
theorem RelV.inj {x y : V} {u : Value} (r : RelV x u) (q : RelV y u) : x = y := Option.some.inj (r.abs.symm.trans q.abs)
theorem Vals.inj : ∀ {xs ys : List V} {us : List Value}, Vals xs us → Vals ys us → xs = ys
  | _, _, _, .nil, .nil => rfl
  | _, _, _, .cons r t, .cons r' t' => by rw [r.inj r', Vals.inj t t']
section
variable {X : Cx} {pins : List (Addr × Obj)} {σ : St} {H : Hp} {s : Shared} {a : Addr} {xs ys : List V}
theorem SqL.of {K : PySem.W.Frag} (h : H a = some (.lst xs)) : SqL K H a xs := .inl (.inl h)
theorem SqT.of {K : PySem.W.Frag} (h : H a = some (.tup xs)) : SqT K H a xs := .inl (.inl h)
theorem Inv.list (I : Inv X pins σ H s) (h : SqL X.K H a xs) : ∃ its : List Value, Vals xs its ∧ PlainL s.heap a its.toArray ∧ xs.length ≤ sizeLine := by
  rcases h with h | ⟨o, its, n, hk, hc, hd, hs, hz, r⟩
  · obtain ⟨z, its, n, r, e⟩ := h.ok I.hok
    exact ⟨its, r, ⟨_, n, e, rfl, rfl, rfl⟩, z⟩
  · refine ⟨its.toList, r, ⟨o, n, I.kIn a o hk, hc, hd, by simpa using hs⟩, ?_⟩
    have e := r.length
    simp only [Array.length_toList] at e
    omega
theorem Inv.tuple (I : Inv X pins σ H s) (h : SqT X.K H a xs) : ∃ its : List Value, Vals xs its ∧ IsTup s.heap a its.toArray ∧ xs.length ≤ sizeLine := by
  rcases h with h | ⟨o, its, n, hk, hc, hs, hz, r⟩
  · obtain ⟨z, its, r, p⟩ := h.ok I.hok
    exact ⟨its, r, p, z⟩
  · refine ⟨its.toList, r, ⟨o, I.kIn a o hk, hc, n, by simpa using hs⟩, ?_⟩
    have e := r.length
    simp only [Array.length_toList] at e
    omega
theorem Inv.list_inj (I : Inv X pins σ H s) (h : SqL X.K H a xs) (h' : SqL X.K H a ys) : xs = ys := by
  obtain ⟨its, r, ⟨o, n, e, _, _, d⟩, _⟩ := I.list h
  obtain ⟨its', r', ⟨o', n', e', _, _, d'⟩, _⟩ := I.list h'
  rw [e] at e'; cases e'
  rw [d] at d'
  injection d' with d1 _
  have : its = its' := by simpa using congrArg Array.toList d1
  subst this
  exact r.inj r'
theorem Inv.tuple_inj (I : Inv X pins σ H s) (h : SqT X.K H a xs) (h' : SqT X.K H a ys) : xs = ys := by
  obtain ⟨its, r, ⟨o, e, _, n, d⟩, _⟩ := I.tuple h
  obtain ⟨its', r', ⟨o', e', _, n', d'⟩, _⟩ := I.tuple h'
  rw [e] at e'; cases e'
  rw [d] at d'
  injection d' with d1 _
  have : its = its' := by simpa using congrArg Array.toList d1
  subst this
  exact r.inj r'
end

/-! ### another wish about exceptions -/
abbrev Cx.wish (X : Cx) (E : Value → Shared → Prop) : Cx := { X with xe := E }
/-- no exception leaves -/
abbrev Cx.nox (X : Cx) : Cx := X.wish fun _ _ => False
theorem Cx.Ok.wish {X : Cx} (ok : X.Ok) (E : Value → Shared → Prop) : (X.wish E).Ok :=
  ⟨ok.mod, ok.kind, ok.glob, ok.blt, ok.above, ok.inj, ok.has, ok.cab, ok.hd, ok.frames, ok.stk, ok.exf, ok.bs, ok.bsz, ok.noex, ok.exfs, ok.funs, ok.frf⟩
theorem Cx.Ok.unwish {X : Cx} {E : Value → Shared → Prop} (ok : (X.wish E).Ok) : X.Ok :=
  ⟨ok.mod, ok.kind, ok.glob, ok.blt, ok.above, ok.inj, ok.has, ok.cab, ok.hd, ok.frames, ok.stk, ok.exf, ok.bs, ok.bsz, ok.noex, ok.exfs, ok.funs, ok.frf⟩
section
variable {X : Cx} {pins : List (Addr × Obj)} {σ : St} {H : Hp} {s : Shared} {E : Value → Shared → Prop}
theorem Inv.wish (I : Inv X pins σ H s) (E : Value → Shared → Prop) : Inv (X.wish E) pins σ H s := ⟨I.ok.wish E, I.os, I.bare, I.base, I.loc, I.cell, I.free, I.freeC, I.pin, I.hok, I.len⟩
theorem Inv.unwish (I : Inv (X.wish E) pins σ H s) : Inv X pins σ H s := ⟨I.ok.unwish, I.os, I.bare, I.base, I.loc, I.cell, I.free, I.freeC, I.pin, I.hok, I.len⟩
theorem SP.unwish {D : Ends} {f : Flow} {s' : Shared} (h : SP (X.wish E) pins D f s') : SP X pins D f s' := by
  cases f with
  | next => obtain ⟨σ', H', I, q⟩ := h; exact ⟨σ', H', I.unwish, q⟩
  | brk => obtain ⟨σ', H', I, q⟩ := h; exact ⟨σ', H', I.unwish, q⟩
  | cont => obtain ⟨σ', H', I, q⟩ := h; exact ⟨σ', H', I.unwish, q⟩
  | ret u => obtain ⟨v, σ', H', I, r, q⟩ := h; exact ⟨v, σ', H', I.unwish, r, q⟩
theorem PSs.nox {st : List Stmt} {t : TS} (h : PSs X.nox st t) : PSs X st t := fun pins s σ H D I hw =>
  wpAny_mono (h pins s σ H D (I.wish _) hw) (fun _ _ q => q.unwish) fun _ _ z => False.elim z
end

/-! ### blocks and small statements -/
section
variable {X : Cx} {st : Stmt} {rest : List Stmt} {t u : TS} {e : Expr} {te : TE} {pos : Pos}
def tNext : TS := fun D σ H => D.nx σ H
def tSeq (t u : TS) : TS := fun D σ H => t { D with nx := u D } σ H
theorem pss_nil : PSs X [] tNext := fun _ _ σ H _ I h => wpAny_execs_nil ⟨σ, H, I, h⟩
theorem pss_cons (h1 : PS X st t) (h2 : PSs X rest u) : PSs X (st :: rest) (tSeq t u) := by
  intro pins s σ H D I h
  refine wpAny_execs_cons (thn (h1 pins s σ H { D with nx := u D } I h) fun f s1 q => ?_)
  cases f with
  | next =>
    obtain ⟨σ', H', I', q⟩ := q
    exact h2 pins s1 σ' H' D I' q
  | ret v => exact q
  | brk => exact q
  | cont => exact q
theorem pss_one (h1 : PS X st t) : PSs X [st] t := by
  intro pins s σ H D I h
  refine wpAny_execs_cons (thn (h1 pins s σ H D I h) fun f s1 q => ?_)
  cases f with
  | next => exact wpAny_execs_nil q
  | ret v => exact q
  | brk => exact q
  | cont => exact q
/-- in a def's body nothing is shown -/
theorem Inv.quiet {pins : List (Addr × Obj)} {σ : St} {H : Hp} {s : Shared} (I : Inv X pins σ H s) : interactive X.env = false := by simp [interactive, I.ok.kind]
/-- an expression whose value is dropped -/
def tDrop (te : TE) : TS := fun D σ H => te σ H fun _ H1 => D.nx σ H1
theorem ps_expr (he : PE X e te) (hs : swapsWith e none pos.line X.env = pure false := by rfl) : PS X (.Expr e pos) (tDrop te) := by
  intro pins s σ H D I h
  exact wpAny_Expr_any (thn (he pins s σ H _ I h) fun v s1 ⟨x, H1, I1, r1, q1⟩ => ⟨σ, H1, I1, q1⟩) I.quiet hs
def tRet (te : TE) : TS := fun D σ H => te σ H D.rt
theorem ps_ret (he : PE X e te) : PS X (.Return (some e) pos) (tRet te) := by
  intro pins s σ H D I h
  exact wpAny_Return_some (thn (he pins s σ H _ I h) fun v s1 ⟨x, H1, I1, r1, q1⟩ => ⟨x, σ, H1, I1, r1, q1⟩)
def tIfS (c : TT) (t u : TS) : TS := fun D σ H => c σ H fun b H1 => if b = true then t D σ H1 else u D σ H1
theorem ps_if {c : Expr} {a b : List Stmt} {tc : TT} (hc : PT X c tc) (ha : PSs X a t) (hb : PSs X b u) : PS X (.If c a b pos) (tIfS tc t u) := by
  intro pins s σ H D I h
  refine wpAny_If (thn (hc pins s σ H _ I h) fun d s1 ⟨H1, I1, q1⟩ => ?_)
  cases d with
  | true => exact ha pins s1 σ H1 D I1 q1
  | false => exact hb pins s1 σ H1 D I1 q1
end

/-! ### targets -/
abbrev TG := V → St → Hp → (St → Hp → Prop) → Prop
def PG (X : Cx) (target : Expr) (t : TG) : Prop :=
  ∀ (pins : List (Addr × Obj)) (s : Shared) (σ : St) (H : Hp) (v : V) (u : Value) (Q : St → Hp → Prop), Inv X pins σ H s → RelV v u → t v σ H Q →
    wpAny (model X.prog X.w) X.A (assign target X.env u) (fun _ s' => ∃ σ' H', Inv X pins σ' H' s' ∧ Q σ' H') X.xe s
section
variable {X : Cx} {pos : Pos}
def gName (i : Nat) : TG := fun v σ H Q => Q (σ.set i (some v)) H
theorem pg_name {i : Nat} {x : Str} (hN : X.N.Nodup) (hi : X.N[i]? = some x) (hx : Loc X.env.scope x) (hf : X.fn x = true ∨ X.env.scope.names.lookup x = some .local := by first | exact .inl rfl | exact .inr rfl | assumption) : PG X (.Name x pos) (gName i) := by
  intro pins s σ H v u Q I r h
  exact wpAny_assign_Name (store_ok I hN hi hx r (fun s' I' => ⟨_, H, I', h⟩) hf)
/-- target = value -/
def tAsg (te : TE) (g : TG) : TS := fun D σ H => te σ H fun x H1 => g x σ H1 D.nx
/-- name = value -/
theorem ps_set {i : Nat} {x : Str} {e : Expr} {te : TE} {pos' : Pos} (hN : X.N.Nodup) (hi : X.N[i]? = some x) (hx : Loc X.env.scope x) (he : PE X e te) (hs : swapsWith e (some (.Name x pos')) pos.line X.env = pure false := by rfl) (hf : X.fn x = true ∨ X.env.scope.names.lookup x = some .local := by first | exact .inl rfl | exact .inr rfl | assumption) :
    PS X (.Assign [.Name x pos'] e pos) (tAsg te (gName i)) := by
  intro pins s σ H D I h
  refine wpAny_Assign_Name (thn (he pins s σ H _ I h) fun v s1 ⟨y, H1, I1, r1, q1⟩ => ?_) hs
  exact store_ok I1 hN hi hx r1 (fun s2 I2 => ⟨_, H1, I2, q1⟩) hf
end

/-! ### while -/
section
variable {X : Cx} {pos : Pos}
end

/-! ### what a loop or a comprehension walks -/
/-- at turn i: it yields x (the heap may grow), or it stops -/
structure It where
  go : Nat → Hp → Prop
  yld : Nat → Hp → V → Hp → Prop
  stop : Nat → Hp → Prop
/-- the iterator's own objects may turn: they are not the frame's, not pinned, younger than the entry (or a comprehension's own) -/
def FpOk (X : Cx) (pins : List (Addr × Obj)) (H : Hp) (b : Addr) : Prop :=
  H b = none ∧ b ≠ X.env.locals ∧ b ∉ X.fs ∧ (b ∈ X.ex ∨ X.s₀.heap.objs.size ≤ b) ∧ (∀ x c, X.env.cells.lookup x = some c → c ≠ b) ∧ ∀ p ∈ X.pn ++ pins, p.1 ≠ b
theorem Inv.fpOk {X : Cx} {pins : List (Addr × Obj)} {σ : St} {H H' : Hp} {s : Shared} {b : Addr} (I : Inv X pins σ H s) (hb : s.heap.objs.size ≤ b) (hn : H' b = none) : FpOk X pins H' b := by
  refine ⟨hn, Nat.ne_of_gt (Nat.lt_of_lt_of_le I.lt hb), I.nofs hb, .inr (Nat.le_trans I.sz hb), fun x c e z => ?_, fun p hp z => ?_⟩
  · obtain ⟨v, q⟩ := I.cell x c e
    exact absurd (Nat.lt_of_lt_of_le q.lt (by rw [z]; exact hb)) (Nat.lt_irrefl _)
  · exact absurd (Nat.lt_of_lt_of_le (Heap.lt_size (I.pin p hp).1) (by rw [z]; exact hb)) (Nat.lt_irrefl _)
structure Turn (P : Program) (w : World) (K : PySem.W.Frag) (tg : Expr) (J : It) (fp : List Addr) (it : Addr) (tn : Nat → Heap → Prop) : Prop where
  mem : it ∈ fp
  obj : ∀ i h, tn i h → ∀ b ∈ fp, ∃ o, h.get? b = some o ∧ ∀ v, o.data ≠ .cell v
  keep : ∀ i h h', tn i h → (∀ b ∈ fp, ∀ o, h.get? b = some o → h'.get? b = some o) → tn i h'
  item : ∀ (X : Cx), X.prog = P → X.w = w → X.K = K → X.calm = true → ∀ (i : Nat) (pins : List (Addr × Obj)) (s : Shared) (σ : St) (H : Hp) (E : Value → Shared → Prop), Inv X pins σ H s → (∀ b ∈ fp, FpOk X pins H b) → tn i s.heap → J.go i H →
    wpAny (model P w) X.A (pyNext (.ref it)) (fun r s1 => ∃ u, r = some u ∧
      wpAny (model P w) X.A (letOwnedTupleGo tg (.ref it) u) (fun _ s2 => ∃ x H', Inv X pins σ H' s2 ∧ RelV x u ∧ J.yld i H x H' ∧ tn (i + 1) s2.heap ∧ ∀ b ∈ fp, H' b = none) E s1) E s
  done : ∀ (X : Cx), X.prog = P → X.w = w → X.K = K → X.calm = true → ∀ (i : Nat) (pins : List (Addr × Obj)) (s : Shared) (σ : St) (H : Hp) (E : Value → Shared → Prop), Inv X pins σ H s → (∀ b ∈ fp, FpOk X pins H b) → tn i s.heap → J.stop i H →
    wpAny (model P w) X.A (pyNext (.ref it)) (fun r s1 => r = none ∧ Inv X pins σ H s1) E s
  self : ∀ (A : Around) (i : Nat) (s : Shared) (Q : Value → Shared → Prop) (E : Value → Shared → Prop), tn i s.heap → Q (.ref it) s → wpAny (model P w) A (pyIter (.ref it)) Q E s
abbrev TI := St → Hp → (It → Hp → Prop) → Prop
/-- an iterator has come -/
def PIE (X : Cx) (pins : List (Addr × Obj)) (σ : St) (tg : Expr) (R : It → Hp → Prop) (itv : Value) (s2 : Shared) : Prop :=
  ∃ (it : Addr) (fp : List Addr) (tn : Nat → Heap → Prop) (J : It) (H' : Hp), itv = .ref it ∧ Inv X pins σ H' s2 ∧ Turn X.prog X.w X.K tg J fp it tn ∧ tn 0 s2.heap ∧ (∀ b ∈ fp, FpOk X pins H' b) ∧ R J H'
def PI (X : Cx) (tg iter : Expr) (wi : TI) : Prop :=
  ∀ (pins : List (Addr × Obj)) (s : Shared) (σ : St) (H : Hp) (R : It → Hp → Prop), Inv X pins σ H s → wi σ H R →
    wpAny (model X.prog X.w) X.A (eval iter X.env) (fun v s1 => wpAny (model X.prog X.w) X.A (pyIter v) (PIE X pins σ tg R) X.xe s1) X.xe s

/-- the step ahead of the store is nothing for an iterator that keeps no tuple -/
theorem go_of {M : Model} {A : Around} {E : Value → Shared → Prop} {s : Shared} {tg : Expr} {it : Addr} {u : Value} {o : Obj} {n : String} {vs : Array Value} {Q : Unit → Shared → Prop} (ho : s.heap.get? it = some o) (hc : o.cls = .type n) (hd : o.data = .fields vs)
    (hn : ["enumerate", "zip", "dict_itemiterator", "dict_reverseitemiterator", "odict_iterator", "itertools.zip_longest", "itertools.pairwise"].contains n = false) (hQ : Q () s) : wpAny M A (letOwnedTupleGo tg (.ref it) u) Q E s := by
  unfold letOwnedTupleGo
  cases tg <;> first
    | exact wpAny_pure hQ
    | (cases u <;> first
        | exact wpAny_pure hQ
        | (refine wpAny_bind (wpAny_load ho ?_)
           rw [hc, hd]
           show wpAny M A (if (["enumerate", "zip", "dict_itemiterator", "dict_reverseitemiterator", "odict_iterator", "itertools.zip_longest", "itertools.pairwise"].contains n && vs[0]? == some (rawInt _)) = true then _ else _) Q E s
           rw [if_neg (by intro h; rw [hn, Bool.false_and] at h; cases h)]
           exact wpAny_pure hQ))

/-- the list at a, as it stands at each turn (a loop may append to it) -/
def Itl (K : PySem.W.Frag) (a : Addr) : It :=
  ⟨fun i H => ∃ xs x, SqL K H a xs ∧ xs[i]? = some x, fun i H x H' => H' = H ∧ ∀ xs, SqL K H a xs → xs[i]? = some x, fun i H => ∃ xs, SqL K H a xs ∧ xs.length ≤ i⟩
def Itt (K : PySem.W.Frag) (a : Addr) : It :=
  ⟨fun i H => ∃ xs x, SqT K H a xs ∧ xs[i]? = some x, fun i H x H' => H' = H ∧ ∀ xs, SqT K H a xs → xs[i]? = some x, fun i H => ∃ xs, SqT K H a xs ∧ xs.length ≤ i⟩
/-- lo, lo + 1, .. (n of them) -/
def Itr (lo : Int) (n : Nat) : It := ⟨fun i _ => i < n, fun i H x H' => H' = H ∧ x = .int (lo + i), fun i _ => n ≤ i⟩
theorem turn_list {P : Program} {w : World} {K : PySem.W.Frag} {tg : Expr} (a it : Addr) : Turn P w K tg (Itl K a) [it] it (fun i h => h.IsListIter it a i) where
  mem := by simp
  obj := fun i h st b hb => by
    have e : b = it := by simpa using hb
    subst e
    obtain ⟨o, e, c, d⟩ := st
    exact ⟨o, e, fun v z => by rw [d] at z; cases z⟩
  keep := fun i h h' st k => st.at fun o e => k it (by simp) o e
  item := by
    intro X hP hw hK hc i pins s σ H E I hf st hg
    subst hP hw hK
    obtain ⟨xs, x, hq, hx⟩ := hg
    obtain ⟨its, rv, p, hz⟩ := I.list hq
    obtain ⟨u, hu, ru⟩ := rv.get hx
    obtain ⟨f0, f1, f2, f3, f4, f5⟩ := hf it (by simp)
    refine wpAny_pyNext_list_item st p.isList (x := u) (by simpa using hu) fun h' st' sb => ?_
    have I1 : Inv X pins σ H { s with heap := h' } := I.turned (t' := s.toks) (fun b o hb e => (sb.2 b hb).trans e) f0 f1 f3 f4 f5
    obtain ⟨o, e, c, d⟩ := id st'
    exact ⟨u, rfl, go_of (s := { s with heap := h' }) e c d (by decide) ⟨x, H, I1, ru, ⟨rfl, fun ys hy => by rw [I.list_inj hy hq]; exact hx⟩, st', fun b hb => (hf b hb).1⟩⟩
  done := by
    intro X hP hw hK hc i pins s σ H E I hf st hg
    subst hP hw hK
    obtain ⟨xs, hq, hx⟩ := hg
    obtain ⟨its, rv, p, hz⟩ := I.list hq
    obtain ⟨f0, f1, f2, f3, f4, f5⟩ := hf it (by simp)
    have hl := rv.length
    exact wpAny_pyNext_list_end (I.ok.hd hc) st p.isList (by simp; omega) fun h' eb => ⟨rfl, I.turned (t' := s.toks) (fun b o hb e => eb b o hb e) f0 f1 f3 f4 f5⟩
  self := fun _ _ _ _ _ st h => wpAny_pyIter_listiter st h
theorem turn_tuple {P : Program} {w : World} {K : PySem.W.Frag} {tg : Expr} (a it : Addr) : Turn P w K tg (Itt K a) [it] it (fun i h => h.IsTupleIter it a i) where
  mem := by simp
  obj := fun i h st b hb => by
    have e : b = it := by simpa using hb
    subst e
    obtain ⟨o, e, c, d⟩ := st
    exact ⟨o, e, fun v z => by rw [d] at z; cases z⟩
  keep := fun i h h' st k => st.at fun o e => k it (by simp) o e
  item := by
    intro X hP hw hK hc i pins s σ H E I hf st hg
    subst hP hw hK
    obtain ⟨xs, x, hq, hx⟩ := hg
    obtain ⟨its, rv, p, hz⟩ := I.tuple hq
    obtain ⟨u, hu, ru⟩ := rv.get hx
    obtain ⟨f0, f1, f2, f3, f4, f5⟩ := hf it (by simp)
    refine wpAny_pyNext_tuple_item st (show s.heap.IsTuple a its.toArray from p) (x := u) (by simpa using hu) fun h' st' sb => ?_
    have I1 : Inv X pins σ H { s with heap := h' } := I.turned (t' := s.toks) (fun b o hb e => (sb.2 b hb).trans e) f0 f1 f3 f4 f5
    obtain ⟨o, e, c, d⟩ := id st'
    exact ⟨u, rfl, go_of (s := { s with heap := h' }) e c d (by decide) ⟨x, H, I1, ru, ⟨rfl, fun ys hy => by rw [I.tuple_inj hy hq]; exact hx⟩, st', fun b hb => (hf b hb).1⟩⟩
  done := by
    intro X hP hw hK hc i pins s σ H E I hf st hg
    subst hP hw hK
    obtain ⟨xs, hq, hx⟩ := hg
    obtain ⟨its, rv, p, hz⟩ := I.tuple hq
    obtain ⟨f0, f1, f2, f3, f4, f5⟩ := hf it (by simp)
    have hl := rv.length
    exact wpAny_pyNext_tuple_end (I.ok.hd hc) st (show s.heap.IsTuple a its.toArray from p) (by simp; omega) fun h' eb => ⟨rfl, I.turned (t' := s.toks) (fun b o hb e => eb b o hb e) f0 f1 f3 f4 f5⟩
  self := fun _ _ _ _ _ st h => wpAny_pyIter_tupleiter st h
theorem turn_range {P : Program} {w : World} {K : PySem.W.Frag} {tg : Expr} (it : Addr) (lo : Int) (n : Nat) : Turn P w K tg (Itr lo n) [it] it (fun i h => IsRangeIter h it (lo + (i : Nat) * 1) ((n : Int) - (i : Nat)) 1) where
  mem := by simp
  obj := fun i h st b hb => by
    have e : b = it := by simpa using hb
    subst e
    exact ⟨_, st, fun v z => by
      have z' : Data.fields _ = Data.cell v := z
      cases z'⟩
  keep := fun i h h' st k => k it (by simp) _ st
  item := by
    intro X hP hw hK hc i pins s σ H E I hf st hg
    subst hP hw hK
    obtain ⟨f0, f1, f2, f3, f4, f5⟩ := hf it (by simp)
    have W := Walks.range (prog := X.prog) (w := X.w) (I.ok.hd hc) it lo 1 n
    refine W.item i s _ _ hg st fun v h' tk hv st' kk => ?_
    obtain ⟨t, rfl⟩ := hv
    have I1 : Inv X pins σ H { s with heap := h', toks := tk } := I.turned (fun b o hb e => kk b o (by simpa using hb) e) f0 f1 f3 f4 f5
    refine ⟨_, rfl, go_of (s := { s with heap := h', toks := tk }) (n := "range_iterator") st' rfl rfl (by decide) ⟨.int (lo + i), H, I1, ⟨t, ?_⟩, ⟨rfl, rfl⟩, st', fun b hb => (hf b hb).1⟩⟩
    rw [Int.mul_one]
  done := by
    intro X hP hw hK hc i pins s σ H E I hf st hg
    subst hP hw hK
    obtain ⟨f0, f1, f2, f3, f4, f5⟩ := hf it (by simp)
    exact wpAny_pyNext_range_end (I.ok.hd hc) st (by have : n ≤ i := hg; omega) fun h' eb => ⟨rfl, I.turned (t' := s.toks) (fun b o hb e => eb b o hb e) f0 f1 f3 f4 f5⟩
  self := fun _ _ _ _ _ st h => wpAny_pyIter_rangeiter st h
end L2

namespace L2
open PySem PySem.Spec PyProof.Rows
section
variable {X : Cx} {tg : Expr}
def iTup (K : PySem.W.Frag) (tl : TE) : TI := fun σ H R => tl σ H fun x H1 => ∃ a, x = .ref a ∧ (∃ xs, SqT K H1 a xs) ∧ R (Itt K a) H1
theorem pi_tup {l : Expr} {tl : TE} (hl : PE X l tl) : PI X tg l (iTup X.K tl) := by
  intro pins s σ H R I h
  refine thn (hl pins s σ H _ I h) fun v s1 ⟨x, H1, I1, r1, q1⟩ => ?_
  obtain ⟨a, e, ⟨xs, hq⟩, q⟩ := q1
  subst e
  cases r1
  obtain ⟨its, rv, p, hz⟩ := I1.tuple hq
  refine wpAny_pyIter_tuple (show s1.heap.IsTuple a its.toArray from p) ?_
  refine ⟨s1.heap.objs.size, [s1.heap.objs.size], _, _, H1, rfl, I1.kept (t' := s1.toks) fun b o e => Heap.get?_push_of_some _ e, turn_tuple a _, ⟨_, Heap.get?_push_size _ rfl, rfl, rfl⟩, fun b hb => ?_, q⟩
  have e : b = s1.heap.objs.size := by simpa using hb
  subst e
  exact I1.fpOk (Nat.le_refl _) (I1.hok.fresh (Nat.le_refl _))
/-- a range object just made, walked -/
theorem range_it {pins : List (Addr × Obj)} {σ : St} {H : Hp} {s : Shared} {R : It → Hp → Prop} {E : Value → Shared → Prop} {lo hi : Int} {t u v : Tok} {tk : Nat} (I : Inv X pins σ H s) (h1 : -(2 ^ 62) ≤ lo) (h2 : lo < 2 ^ 62) (h3 : -(2 ^ 62) ≤ hi) (h4 : hi < 2 ^ 62)
    (q : R (Itr lo (hi - lo).toNat) H) : wpAny (model X.prog X.w) X.A (pyIter (.ref s.heap.objs.size)) (PIE X pins σ tg R) E { s with heap := s.heap.push { cls := .type "range", data := .fields #[.int lo t, .int hi u, .int 1 v] }, toks := tk } := by
  refine wpAny_pyIter_range (IsRange.new ..) (small_one h1 h2 h3 h4) ?_
  have I1 : Inv X pins σ H { s with heap := s.heap.push { cls := .type "range", data := .fields #[.int lo t, .int hi u, .int 1 v] }, toks := tk } := I.kept fun b o e => Heap.get?_push_of_some _ e
  refine ⟨(s.heap.push { cls := .type "range", data := .fields #[.int lo t, .int hi u, .int 1 v] }).objs.size, [(s.heap.push { cls := .type "range", data := .fields #[.int lo t, .int hi u, .int 1 v] }).objs.size], _, _, H, rfl,
    I1.kept (t' := tk) fun b o e => Heap.get?_push_of_some _ e, turn_range _ lo (hi - lo).toNat, ?_, fun b hb => ?_, q⟩
  · have e1 : lo + ((0 : Nat) : Int) * 1 = lo := by simp
    have e2 : (((hi - lo).toNat : Nat) : Int) - ((0 : Nat) : Int) = Builtin.Range.rangeSize lo hi 1 := by rw [rangeSize_one]; split <;> omega
    show IsRangeIter _ _ (lo + ((0 : Nat) : Int) * 1) ((((hi - lo).toNat : Nat) : Int) - ((0 : Nat) : Int)) 1
    rw [e1, e2]
    exact Heap.get?_push_size _ rfl
  · have e : b = (s.heap.push { cls := .type "range", data := .fields #[.int lo t, .int hi u, .int 1 v] }).objs.size := by simpa using hb
    subst e
    exact I1.fpOk (Nat.le_refl _) (I1.hok.fresh (Nat.le_refl _))
def iRng1 (ta : TA) : TI := fun σ H R => ta σ H fun vs H1 => ∃ j : Int, vs = [.int j] ∧ -(2 ^ 62) ≤ j ∧ j < 2 ^ 62 ∧ R (Itr 0 j.toNat) H1
theorem pi_range1 {a : Expr} {ta : TA} {p pos : Pos} (hg : Gl X "range") (hm : X.mg "range" = none) (ha : PA X [a] ta) (hs : starEach [a] X.env = [(false, eval a X.env)] := by rfl) : PI X tg (.Call (.Name "range" p) [a] [] pos) (iRng1 ta) := by
  intro pins s σ H R I h
  refine Call_ (ld_blt I hg hm boot_range (PyProof.Rows.callWith_type1 (thn (ha pos pins s σ H _ I h) fun us s1 ⟨vs, H1, I1, r1, q1⟩ => ?_) hs rfl))
  obtain ⟨j, e, q1, q2, q⟩ := q1
  subst e
  cases r1 with
  | cons r rr =>
    cases rr
    obtain ⟨t, rfl⟩ := r
    exact call_range_1 (range_it I1 (by omega) (by omega) q1 q2 (by simpa using q))
/-! ### for -/
/-- W: the invariant by the turn and a measure; N: what the body is to reach -/
def tFor (wi : TI) (g : TG) (tb : TS) : TS := fun D σ H => wi σ H fun J H1 => ∃ W : Nat → Nat → St → Hp → Prop, (∃ m, W 0 m σ H1) ∧ ∀ i m σ H, W i m σ H →
  (J.stop i H ∧ D.nx σ H) ∨ (J.go i H ∧ ∃ N : St → Hp → Prop, (∀ σ' H', N σ' H' → ∃ m', m' < m ∧ W (i + 1) m' σ' H') ∧ ∀ x H', J.yld i H x H' → g x σ H' fun σ2 H2 => tb { D with nx := N, ct := N, bk := D.nx } σ2 H2)
/-- the records at fp as they stand -/
def pinsAt (fp : List Addr) (h : Heap) : List (Addr × Obj) := fp.filterMap fun b => (h.get? b).map fun o => (b, o)
theorem mem_pinsAt {fp : List Addr} {h : Heap} {b : Addr} {o : Obj} (hb : b ∈ fp) (e : h.get? b = some o) : (b, o) ∈ pinsAt fp h := List.mem_filterMap.mpr ⟨b, hb, by rw [e]; rfl⟩
theorem of_pinsAt {fp : List Addr} {h : Heap} {p : Addr × Obj} (hp : p ∈ pinsAt fp h) : p.1 ∈ fp ∧ h.get? p.1 = some p.2 := by
  obtain ⟨b, hb, e⟩ := List.mem_filterMap.mp hp
  cases q : h.get? b with
  | none => rw [q] at e; cases e
  | some o =>
    rw [q] at e
    have e' : (b, o) = p := Option.some.inj e
    subst e'
    exact ⟨hb, q⟩
theorem Inv.pinned {pins : List (Addr × Obj)} {σ : St} {H : Hp} {s : Shared} {fp : List Addr} (I : Inv X pins σ H s) (hf : ∀ b ∈ fp, FpOk X pins H b) (ho : ∀ b ∈ fp, ∃ o, s.heap.get? b = some o ∧ ∀ v, o.data ≠ .cell v) : Inv X (pins ++ pinsAt fp s.heap) σ H s :=
  I.pins_of fun p hp => (List.mem_append.mp hp).elim (fun z => I.pin p (List.mem_append_right _ z)) fun z => by
    obtain ⟨hb, e⟩ := of_pinsAt z
    obtain ⟨f0, f1, f2, _⟩ := hf p.1 hb
    obtain ⟨o, e', d⟩ := ho p.1 hb
    rw [e] at e'; cases e'
    exact ⟨e, f0, f1, f2, d⟩
theorem Inv.unpinned {pins pl : List (Addr × Obj)} {σ : St} {H : Hp} {s : Shared} (I : Inv X (pins ++ pl) σ H s) : Inv X pins σ H s := I.pins_of fun p hp => I.pin p (List.mem_append_right _ (List.mem_append_left _ hp))
theorem ps_for {iter : Expr} {body : List Stmt} {wi : TI} {g : TG} {tb : TS} {pos : Pos} (hp : PassesOwn (model X.prog X.w) X.A X.env X.xe) (hc : X.calm = true) (hi : PI X tg iter wi) (hg : PG X tg g) (hb : PSs X body tb)
    (hs : ∀ x, foldedSetIterable iter X.env x = pure x := by intro _; rfl) : PS X (.For tg iter body [] pos) (tFor wi g tb) := by
  intro pins s σ H D I h
  refine wpAny_For (thn (hi pins s σ H _ I h) fun v s1 h1 => thn h1 fun itv s2 h2 => ?_) hs
  obtain ⟨it, fp, tn, J, H2, e, I2, T, st2, f2, W, ⟨m0, w0⟩, turn⟩ := h2
  subst e
  -- what stays true of the iterator's objects through the loop
  have stat : ∀ {H' : Hp}, (∀ b ∈ fp, H' b = none) → ∀ b ∈ fp, FpOk X pins H' b := fun hn b hb => ⟨hn b hb, (f2 b hb).2⟩
  refine codeAny_forLoop_any (fun n s' => ∃ i σ' H', Inv X pins σ' H' s' ∧ tn i s'.heap ∧ (∀ b ∈ fp, H' b = none) ∧ W i n σ' H') ?_ m0 ⟨0, σ, H2, I2, st2, fun b hb => (f2 b hb).1, w0⟩
  rintro n s3 ⟨i, σ3, H3, I3, st3, fr3, w3⟩
  rcases turn i n σ3 H3 w3 with ⟨stop, qn⟩ | ⟨go, N, hN, step⟩
  · refine wpAny_passesOwn hp (thn (T.done X rfl rfl rfl hc i pins s3 σ3 H3 X.xe I3 (stat fr3) st3 stop) fun r s4 ⟨hr, I4⟩ => ?_)
    subst hr
    exact wpAny_execs_nil ⟨σ3, H3, I4, qn⟩
  · refine wpAny_passesOwn hp (thn (T.item X rfl rfl rfl hc i pins s3 σ3 H3 X.xe I3 (stat fr3) st3 go) fun r s4 ⟨u, hr, h4⟩ => ?_)
    subst hr
    refine wpAny_passesOwn hp (thn h4 fun _ s5 ⟨x, H5, I5, r5, y5, st5, fr5⟩ => ?_)
    have I5' := I5.pinned (stat fr5) (T.obj _ _ st5)
    refine wpAny_passesOwn hp (thn (hg _ s5 σ3 H5 x u _ I5' r5 (step x H5 y5)) fun _ s6 ⟨σ6, H6, I6, q6⟩ => ?_)
    refine wpAny_passesOwn hp (thn (hb _ s6 σ6 H6 _ I6 q6) fun f s7 q7 => ?_)
    have again : ∀ {σ7 : St} {H7 : Hp}, Inv X (pins ++ pinsAt fp s5.heap) σ7 H7 s7 → N σ7 H7 → ∃ m, m < n ∧ ∃ i σ' H', Inv X pins σ' H' s7 ∧ tn i s7.heap ∧ (∀ b ∈ fp, H' b = none) ∧ W i m σ' H' := fun {σ7 H7} I7 n7 => by
      obtain ⟨m', hm, w7⟩ := hN σ7 H7 n7
      refine ⟨m', hm, i + 1, σ7, H7, I7.unpinned, T.keep _ _ _ st5 fun b hb o e => (I7.pin (b, o) (List.mem_append_right _ (List.mem_append_right _ (mem_pinsAt hb e)))).1, fun b hb => ?_, w7⟩
      obtain ⟨o, e, d⟩ := T.obj _ _ st5 b hb
      exact (I7.pin (b, o) (List.mem_append_right _ (List.mem_append_right _ (mem_pinsAt hb e)))).2.1
    cases f with
    | next => obtain ⟨σ7, H7, I7, n7⟩ := q7; exact again I7 n7
    | cont => obtain ⟨σ7, H7, I7, n7⟩ := q7; exact again I7 n7
    | brk => obtain ⟨σ7, H7, I7, q7⟩ := q7; exact ⟨σ7, H7, I7.unpinned, q7⟩
    | ret v => obtain ⟨x7, σ7, H7, I7, r7, q7⟩ := q7; exact ⟨x7, σ7, H7, I7.unpinned, r7, q7⟩
end

/-! ### the forms one uses -/
/-- over a list that the body leaves as it is -/
theorem for_list {K : PySem.W.Frag} {a : Addr} {xs : List V} {g : TG} {tb : TS} {D : Ends} {σ : St} {H : Hp} (Pv : Nat → St → Hp → Prop) (h0 : Pv 0 σ H) (hl : ∀ i σ H, i ≤ xs.length → Pv i σ H → SqL K H a xs)
    (hs : ∀ i x σ H, xs[i]? = some x → Pv i σ H → g x σ H fun σ2 H2 => tb { D with nx := Pv (i + 1), ct := Pv (i + 1), bk := D.nx } σ2 H2) (hd : ∀ σ H, Pv xs.length σ H → D.nx σ H) :
    ∃ W : Nat → Nat → St → Hp → Prop, (∃ m, W 0 m σ H) ∧ ∀ i m σ H, W i m σ H →
      ((Itl K a).stop i H ∧ D.nx σ H) ∨ ((Itl K a).go i H ∧ ∃ N : St → Hp → Prop, (∀ σ' H', N σ' H' → ∃ m', m' < m ∧ W (i + 1) m' σ' H') ∧ ∀ x H', (Itl K a).yld i H x H' → g x σ H' fun σ2 H2 => tb { D with nx := N, ct := N, bk := D.nx } σ2 H2) := by
  refine ⟨fun i m σ H => m = xs.length - i ∧ i ≤ xs.length ∧ Pv i σ H, ⟨xs.length, by simp, Nat.zero_le _, h0⟩, ?_⟩
  rintro i m σ H ⟨rfl, hi, p⟩
  have q := hl i σ H hi p
  by_cases hlt : i < xs.length
  · refine .inr ⟨⟨xs, xs[i], q, by simp [hlt]⟩, Pv (i + 1), fun σ' H' p' => ⟨xs.length - (i + 1), by omega, rfl, hlt, p'⟩, fun x H' y => ?_⟩
    obtain ⟨e, y⟩ := y
    subst e
    exact hs i x σ _ (y xs q) p
  · have e : i = xs.length := by omega
    subst e
    exact .inl ⟨⟨xs, q, Nat.le_refl _⟩, hd σ H p⟩
theorem for_tup {K : PySem.W.Frag} {a : Addr} {xs : List V} {g : TG} {tb : TS} {D : Ends} {σ : St} {H : Hp} (Pv : Nat → St → Hp → Prop) (h0 : Pv 0 σ H) (hl : ∀ i σ H, i ≤ xs.length → Pv i σ H → SqT K H a xs)
    (hs : ∀ i x σ H, xs[i]? = some x → Pv i σ H → g x σ H fun σ2 H2 => tb { D with nx := Pv (i + 1), ct := Pv (i + 1), bk := D.nx } σ2 H2) (hd : ∀ σ H, Pv xs.length σ H → D.nx σ H) :
    ∃ W : Nat → Nat → St → Hp → Prop, (∃ m, W 0 m σ H) ∧ ∀ i m σ H, W i m σ H →
      ((Itt K a).stop i H ∧ D.nx σ H) ∨ ((Itt K a).go i H ∧ ∃ N : St → Hp → Prop, (∀ σ' H', N σ' H' → ∃ m', m' < m ∧ W (i + 1) m' σ' H') ∧ ∀ x H', (Itt K a).yld i H x H' → g x σ H' fun σ2 H2 => tb { D with nx := N, ct := N, bk := D.nx } σ2 H2) := by
  refine ⟨fun i m σ H => m = xs.length - i ∧ i ≤ xs.length ∧ Pv i σ H, ⟨xs.length, by simp, Nat.zero_le _, h0⟩, ?_⟩
  rintro i m σ H ⟨rfl, hi, p⟩
  have q := hl i σ H hi p
  by_cases hlt : i < xs.length
  · refine .inr ⟨⟨xs, xs[i], q, by simp [hlt]⟩, Pv (i + 1), fun σ' H' p' => ⟨xs.length - (i + 1), by omega, rfl, hlt, p'⟩, fun x H' y => ?_⟩
    obtain ⟨e, y⟩ := y
    subst e
    exact hs i x σ _ (y xs q) p
  · have e : i = xs.length := by omega
    subst e
    exact .inl ⟨⟨xs, q, Nat.le_refl _⟩, hd σ H p⟩
theorem for_range {lo : Int} {n : Nat} {g : TG} {tb : TS} {D : Ends} {σ : St} {H : Hp} (Pv : Nat → St → Hp → Prop) (h0 : Pv 0 σ H)
    (hs : ∀ i σ H, i < n → Pv i σ H → g (.int (lo + i)) σ H fun σ2 H2 => tb { D with nx := Pv (i + 1), ct := Pv (i + 1), bk := D.nx } σ2 H2) (hd : ∀ σ H, Pv n σ H → D.nx σ H) :
    ∃ W : Nat → Nat → St → Hp → Prop, (∃ m, W 0 m σ H) ∧ ∀ i m σ H, W i m σ H →
      ((Itr lo n).stop i H ∧ D.nx σ H) ∨ ((Itr lo n).go i H ∧ ∃ N : St → Hp → Prop, (∀ σ' H', N σ' H' → ∃ m', m' < m ∧ W (i + 1) m' σ' H') ∧ ∀ x H', (Itr lo n).yld i H x H' → g x σ H' fun σ2 H2 => tb { D with nx := N, ct := N, bk := D.nx } σ2 H2) := by
  refine ⟨fun i m σ H => m = n - i ∧ i ≤ n ∧ Pv i σ H, ⟨n, by simp, Nat.zero_le _, h0⟩, ?_⟩
  rintro i m σ H ⟨rfl, hi, p⟩
  by_cases hlt : i < n
  · refine .inr ⟨hlt, Pv (i + 1), fun σ' H' p' => ⟨n - (i + 1), by omega, rfl, hlt, p'⟩, fun x H' y => ?_⟩
    obtain ⟨e, y⟩ := y
    subst e y
    exact hs i σ _ hlt p
  · have e : i = n := by omega
    subst e
    exact .inl ⟨Nat.le_refl _, hd σ H p⟩
end L2

namespace L2
open PySem PySem.Spec PyProof.Rows

abbrev R2 := V → V → Hp → VK → Prop
/-- a two-place operation on values: f is binaryOp op, inplaceOp op or compareOp op -/
def OpR (X : Cx) (f : Value → Value → Sem Value) (r : R2) : Prop :=
  ∀ (pins : List (Addr × Obj)) (s : Shared) (σ : St) (H : Hp) (x y : V) (v u : Value) (Q : VK), Inv X pins σ H s → RelV x v → RelV y u → r x y H Q →
    wpAny (model X.prog X.w) X.A (f v u) (EP X pins σ Q) X.xe s
/-- a call of a value that is known (a builtin, a type) with values -/
def CallR (X : Cx) (f : Value) (r : List V → Hp → VK → Prop) : Prop :=
  ∀ (pins : List (Addr × Obj)) (s : Shared) (σ : St) (H : Hp) (xs : List V) (us : List Value) (Q : VK), Inv X pins σ H s → Vals xs us → r xs H Q →
    wpAny (model X.prog X.w) X.A (call f us) (EP X pins σ Q) X.xe s
def tOp (r : R2) (ta tb : TE) : TE := fun σ H Q => ta σ H fun x H1 => tb σ H1 fun y H2 => r x y H2 Q
/-- ints in, under C, and a value out -/
def rI (C : Int → Int → Prop) (g : Int → Int → V) : R2 := fun x y H Q => ∃ i j, x = .int i ∧ y = .int j ∧ C i j ∧ Q (g i j) H
def rI0 (g : Int → Int → V) : R2 := fun x y H Q => ∃ i j, x = .int i ∧ y = .int j ∧ Q (g i j) H
section
variable {X : Cx} {a b c : Expr} {ta tb tc : TE} {pos : Pos}

theorem binT (ha : PE X a ta) (hb : PE X b tb) {pins : List (Addr × Obj)} {s : Shared} {σ : St} {H : Hp} {R : V → V → Hp → Prop} (I : Inv X pins σ H s)
    (h : ta σ H fun x H1 => tb σ H1 fun y H2 => R x y H2) {Q : Value → Shared → Prop} {f : Value → Value → Sem Value}
    (hf : ∀ v u s2 x y H2, Inv X pins σ H2 s2 → RelV x v → RelV y u → R x y H2 → wpAny (model X.prog X.w) X.A (f v u) Q X.xe s2) :
    wpAny (model X.prog X.w) X.A (eval a X.env) (fun v s₁ => wpAny (model X.prog X.w) X.A (eval b X.env) (fun u s₂ => wpAny (model X.prog X.w) X.A (f v u) Q X.xe s₂) X.xe s₁) X.xe s := by
  refine thn (ha pins s σ H _ I h) fun v s1 ⟨x, H1, I1, r1, q1⟩ => ?_
  refine thn (hb pins s1 σ H1 _ I1 q1) fun u s2 ⟨y, H2, I2, r2, q2⟩ => ?_
  exact hf v u s2 x y H2 I2 r1 r2 q2

theorem pe_op {op : Operator} {r : R2} (ho : OpR X (binaryOp op) r) (ha : PE X a ta) (hb : PE X b tb) : PE X (.BinOp a op b pos) (tOp r ta tb) := by
  intro pins s σ H Q I h
  exact wpAny_BinOp (binT ha hb I h fun v u s2 x y H2 I2 rx ry q => ho pins s2 σ H2 x y v u Q I2 rx ry q)
/-! ### ints -/
theorem opI {f : Value → Value → Sem Value} {C : Int → Int → Prop} {g : Int → Int → Int}
    (rule : ∀ (i j : Int) (t u : Tok) (s : Shared) (Q : Value → Shared → Prop) (E : Value → Shared → Prop), C i j → Q (.int (g i j) s.toks) { s with toks := s.toks + 1 } → wpAny (model X.prog X.w) X.A (f (.int i t) (.int j u)) Q E s) :
    OpR X f (rI C fun i j => .int (g i j)) := by
  intro pins s σ H x y v u Q I rx ry h
  obtain ⟨i, j, rfl, rfl, hc, q⟩ := h
  obtain ⟨t, rfl⟩ := rx
  obtain ⟨t', rfl⟩ := ry
  exact rule i j t t' s _ _ hc ⟨.int (g i j), H, I.tok _, ⟨_, rfl⟩, q⟩
theorem opI0 {f : Value → Value → Sem Value} {g : Int → Int → Int}
    (rule : ∀ (i j : Int) (t u : Tok) (s : Shared) (Q : Value → Shared → Prop) (E : Value → Shared → Prop), Q (.int (g i j) s.toks) { s with toks := s.toks + 1 } → wpAny (model X.prog X.w) X.A (f (.int i t) (.int j u)) Q E s) :
    OpR X f (rI0 fun i j => .int (g i j)) := by
  intro pins s σ H x y v u Q I rx ry h
  obtain ⟨i, j, rfl, rfl, q⟩ := h
  obtain ⟨t, rfl⟩ := rx
  obtain ⟨t', rfl⟩ := ry
  exact rule i j t t' s _ _ ⟨.int (g i j), H, I.tok _, ⟨_, rfl⟩, q⟩
theorem opB0 {f : Value → Value → Sem Value} {g : Int → Int → Bool}
    (rule : ∀ (i j : Int) (t u : Tok) (s : Shared) (Q : Value → Shared → Prop) (E : Value → Shared → Prop), Q (.bool (g i j)) s → wpAny (model X.prog X.w) X.A (f (.int i t) (.int j u)) Q E s) :
    OpR X f (rI0 fun i j => .bl (g i j)) := by
  intro pins s σ H x y v u Q I rx ry h
  obtain ⟨i, j, rfl, rfl, q⟩ := h
  obtain ⟨t, rfl⟩ := rx
  obtain ⟨t', rfl⟩ := ry
  exact rule i j t t' s _ _ ⟨.bl (g i j), H, I, rfl, q⟩

def CDiv (i j : Int) : Prop := 0 < j ∧ j < 1073741824
def CMul (i j : Int) : Prop := (-(2 ^ 64) < i ∧ i < 2 ^ 64) ∨ (-(2 ^ 64) < j ∧ j < 2 ^ 64)
theorem CMul.ok {i j : Int} (h : CMul i j) : IntMulOk i j := by
  rcases h with ⟨h1, h2⟩ | ⟨h1, h2⟩
  · exact .of_left (intBits_le_64 h1 h2)
  · exact .of_right (intBits_le_64 h1 h2)
theorem op_add : OpR X (binaryOp .Add) (rI0 fun i j => .int (i + j)) := opI0 fun _ _ _ _ _ _ _ q => add_int q
theorem op_sub : OpR X (binaryOp .Sub) (rI0 fun i j => .int (i - j)) := opI0 fun _ _ _ _ _ _ _ q => sub_int q
theorem op_mul : OpR X (binaryOp .Mult) (rI CMul fun i j => .int (i * j)) := opI fun _ _ _ _ _ _ _ hc q => mul_int q hc.ok
/-- // by a positive divisor -/
theorem op_fdiv : OpR X (binaryOp .FloorDiv) (rI CDiv fun i j => .int (i / j)) := opI fun i j _ _ _ _ _ hc q => by
  have h1 : (0 : Int) < j := hc.1
  have h2 : j < 1073741824 := hc.2
  exact floordiv_int (by omega) (by rw [Int.fdiv_eq_ediv_of_nonneg i (by omega)]; exact q) (.inl (PyProof.noPylong_small (by omega)))
/-- % by a positive divisor of any size -/
theorem op_mod : OpR X (binaryOp .Mod) (rI (fun _ j => 0 < j) fun i j => .int (i % j)) := opI fun i j _ _ _ _ _ hc q => by
  have h1 : (0 : Int) < j := hc
  exact mod_int' (by omega) (by rw [Int.fmod_eq_emod_of_nonneg i (by omega)]; exact q)
/-! ### bools among ints: n += (a < b) -/
end

/-! ### comparisons -/
/-- the scalars that == tells apart as data does -/
def scal : V → V → Bool
  | .non, .non => true | .non, .int _ => true | .int _, .non => true | .non, .bl _ => true | .bl _, .non => true | .non, .str _ => true | .str _, .non => true
  | .int _, .int _ => true | .bl _, .bl _ => true | .str _, .str _ => true | .byt _, .byt _ => true
  | .int _, .str _ => true | .str _, .int _ => true | .bl _, .str _ => true | .str _, .bl _ => true
  | _, _ => false
def rEq : R2 := fun x y H Q => scal x y = true ∧ Q (.bl (decide (x = y))) H
def rNe : R2 := fun x y H Q => scal x y = true ∧ Q (.bl (!decide (x = y))) H

theorem dec_int {i j : Int} : decide (V.int i = V.int j) = (i == j) := by
  rw [Bool.eq_iff_iff]
  simp
theorem dec_bl {i j : Bool} : decide (V.bl i = V.bl j) = (i == j) := by
  rw [Bool.eq_iff_iff]
  simp
theorem dec_str {i j : Str} : decide (V.str i = V.str j) = (i == j) := by
  rw [Bool.eq_iff_iff]
  simp
theorem dec_byt {i j : Array UInt8} : decide (V.byt i = V.byt j) = (i.toList == j.toList) := by
  rw [Bool.eq_iff_iff]
  cases i
  cases j
  simp

section
variable {X : Cx} {a b c : Expr} {ta tb tc : TE} {pos : Pos}
theorem fin_bl {pins : List (Addr × Obj)} {σ : St} {H : Hp} {s : Shared} {Q : VK} {k k' : Bool} (I : Inv X pins σ H s) (q : Q (.bl k) H) (e : k = k') : EP X pins σ Q (.bool k') s := by
  subst e
  exact ⟨.bl k, H, I, rfl, q⟩
theorem op_eq : OpR X (compareOp .Eq) rEq := by
  intro pins s σ H x y v u Q I rx ry h
  obtain ⟨hs, q⟩ := h
  cases x with
  | non =>
    cases rx
    cases y with
    | non => cases ry; exact PySem.EqNone.eq_none_none (fin_bl I q (by simp))
    | bl j => cases ry; exact PySem.EqNone.eq_none_bool (fin_bl I q (by simp))
    | int j => obtain ⟨t', rfl⟩ := ry; exact PySem.EqNone.eq_none_int (fin_bl I q (by simp))
    | str j => obtain ⟨t', rfl⟩ := ry; exact PySem.EqNone.eq_none_str (fin_bl I q (by simp))
    | _ => exact absurd (show false = true from hs) Bool.false_ne_true
  | bl i =>
    cases rx
    cases y with
    | non => cases ry; exact PySem.EqNone.eq_bool_none (fin_bl I q (by simp))
    | bl j => cases ry; exact eq_bool (fin_bl I q dec_bl)
    | str j => obtain ⟨t', rfl⟩ := ry; exact PySem.EqMixed.eq_bool_str (fin_bl I q (by simp))
    | _ => exact absurd (show false = true from hs) Bool.false_ne_true
  | int i =>
    obtain ⟨t, rfl⟩ := rx
    cases y with
    | non => cases ry; exact PySem.EqNone.eq_int_none (fin_bl I q (by simp))
    | int j => obtain ⟨t', rfl⟩ := ry; exact eq_int (fin_bl I q dec_int)
    | str j => obtain ⟨t', rfl⟩ := ry; exact PySem.EqMixed.eq_int_str (fin_bl I q (by simp))
    | _ => exact absurd (show false = true from hs) Bool.false_ne_true
  | str i =>
    obtain ⟨t, rfl⟩ := rx
    cases y with
    | non => cases ry; exact PySem.EqNone.eq_str_none (fin_bl I q (by simp))
    | bl j => cases ry; exact PySem.EqMixed.eq_str_bool (fin_bl I q (by simp))
    | int j => obtain ⟨t', rfl⟩ := ry; exact PySem.EqMixed.eq_str_int (fin_bl I q (by simp))
    | str j => obtain ⟨t', rfl⟩ := ry; exact eq_str (fin_bl I q dec_str)
    | _ => exact absurd (show false = true from hs) Bool.false_ne_true
  | byt i =>
    obtain ⟨t, rfl⟩ := rx
    cases y with
    | byt j => obtain ⟨t', rfl⟩ := ry; exact PySem.W.eq_bytes (fin_bl I q dec_byt)
    | _ => exact absurd (show false = true from hs) Bool.false_ne_true
  | _ => cases y <;> exact absurd (show false = true from hs) Bool.false_ne_true
theorem op_ne : OpR X (compareOp .NotEq) rNe := by
  intro pins s σ H x y v u Q I rx ry h
  obtain ⟨hs, q⟩ := h
  cases x with
  | non =>
    cases rx
    cases y with
    | non => cases ry; exact PySem.EqNone.ne_none_none (fin_bl I q (by simp))
    | bl j => cases ry; exact PySem.EqNone.ne_none_bool (fin_bl I q (by simp))
    | int j => obtain ⟨t', rfl⟩ := ry; exact PySem.EqNone.ne_none_int (fin_bl I q (by simp))
    | str j => obtain ⟨t', rfl⟩ := ry; exact PySem.EqNone.ne_none_str (fin_bl I q (by simp))
    | _ => exact absurd (show false = true from hs) Bool.false_ne_true
  | bl i =>
    cases rx
    cases y with
    | non => cases ry; exact PySem.EqNone.ne_bool_none (fin_bl I q (by simp))
    | bl j => cases ry; exact ne_bool (fin_bl I q (congrArg not dec_bl))
    | str j => obtain ⟨t', rfl⟩ := ry; exact PySem.EqMixed.ne_bool_str (fin_bl I q (by simp))
    | _ => exact absurd (show false = true from hs) Bool.false_ne_true
  | int i =>
    obtain ⟨t, rfl⟩ := rx
    cases y with
    | non => cases ry; exact PySem.EqNone.ne_int_none (fin_bl I q (by simp))
    | int j => obtain ⟨t', rfl⟩ := ry; exact ne_int (fin_bl I q (congrArg not dec_int))
    | str j => obtain ⟨t', rfl⟩ := ry; exact PySem.EqMixed.ne_int_str (fin_bl I q (by simp))
    | _ => exact absurd (show false = true from hs) Bool.false_ne_true
  | str i =>
    obtain ⟨t, rfl⟩ := rx
    cases y with
    | non => cases ry; exact PySem.EqNone.ne_str_none (fin_bl I q (by simp))
    | bl j => cases ry; exact PySem.EqMixed.ne_str_bool (fin_bl I q (by simp))
    | int j => obtain ⟨t', rfl⟩ := ry; exact PySem.EqMixed.ne_str_int (fin_bl I q (by simp))
    | str j => obtain ⟨t', rfl⟩ := ry; exact ne_str (fin_bl I q (congrArg not dec_str))
    | _ => exact absurd (show false = true from hs) Bool.false_ne_true
  | byt i =>
    obtain ⟨t, rfl⟩ := rx
    cases y with
    | byt j => obtain ⟨t', rfl⟩ := ry; exact PySem.W.ne_bytes (fin_bl I q (congrArg not dec_byt))
    | _ => exact absurd (show false = true from hs) Bool.false_ne_true
  | _ => cases y <;> exact absurd (show false = true from hs) Bool.false_ne_true

theorem op_lt : OpR X (compareOp .Lt) (rI0 fun i j => .bl (decide (i < j))) := opB0 fun _ _ _ _ _ _ _ q => lt_int q
theorem nomark (b : Expr) {op : CmpOp} (h : op ≠ .In := by decide) (h2 : op ≠ .NotIn := by decide) : behindInMarks op b = false := by
  have e1 : (op == CmpOp.In) = false := by cases op <;> first | rfl | exact absurd rfl h
  have e2 : (op == CmpOp.NotIn) = false := by cases op <;> first | rfl | exact absurd rfl h2
  cases b <;> simp [behindInMarks, e1, e2]
/-- a comparison as a value; hm: nomark b, or (for in, not in) by with_unfolding_all rfl -/
theorem pe_cmpR {op : CmpOp} {r : R2} (ho : OpR X (compareOp op) r) (ha : PE X a ta) (hb : PE X b tb) (hm : behindInMarks op b = false) : PE X (.Compare a [op] [b] pos) (tOp r ta tb) := by
  intro pins s σ H Q I h
  exact wpAny_Compare1 (binT ha hb I h fun v u s2 x y H2 I2 rx ry q => ho pins s2 σ H2 x y v u Q I2 rx ry q) hm
/-- a reading of a value as a test -/
def tTest (t : TE) : TT := fun σ H Q => t σ H fun x H' => ∃ k, x = .bl k ∧ Q k H'
theorem pt_cmpR {op : CmpOp} {r : R2} (ho : OpR X (compareOp op) r) (ha : PE X a ta) (hb : PE X b tb) (hm : behindInMarks op b = false) : PT X (.Compare a [op] [b] pos) (tTest (tOp r ta tb)) := by
  intro pins s σ H Q I h
  refine wpAny_isTrue_Compare1 (thn (ha pins s σ H _ I h) fun v s1 ⟨x, H1, I1, r1, q1⟩ => thn (hb pins s1 σ H1 _ I1 q1) fun u s2 ⟨y, H2, I2, r2, q2⟩ =>
    thn (ho pins s2 σ H2 x y v u _ I2 r1 r2 q2) fun c s3 ⟨z, H3, I3, r3, k, e, q3⟩ => ?_) hm
  subst e
  cases r3
  exact wpAny_truthy_bool ⟨H3, I3, q3⟩
/-! ### truth -/
theorem line63 : (sizeLine : Nat) < 2 ^ 63 := by rw [sizeLine_eq]; decide
/-! ### strs and bytes -/
theorem op_add_str : OpR X (binaryOp .Add) (fun x y H Q => ∃ i j, x = .str i ∧ y = .str j ∧ i.length + j.length ≤ sizeLine ∧ Q (.str (i ++ j)) H) := by
  intro pins s σ H x y v u Q I rx ry h
  obtain ⟨i, j, rfl, rfl, hz, q⟩ := h
  obtain ⟨t, rfl⟩ := rx
  obtain ⟨t', rfl⟩ := ry
  exact add_str (fun t' tk => ⟨.str (i ++ j), H, I.tok _, ⟨_, rfl⟩, q⟩) hz
/-! ### scalar builtins, by CallR -/
theorem vals1 {x : V} {us : List Value} (r : Vals [x] us) : ∃ u, us = [u] ∧ RelV x u := by
  cases r with
  | cons r1 r2 => cases r2; exact ⟨_, rfl, r1⟩
theorem vals2 {x y : V} {us : List Value} (r : Vals [x, y] us) : ∃ u w', us = [u, w'] ∧ RelV x u ∧ RelV y w' := by
  cases r with
  | cons r1 r2 =>
    cases r2 with
    | cons r3 r4 => cases r4; exact ⟨_, _, rfl, r1, r3⟩
theorem call_str_int : CallR X (.type "str") (fun xs H Q => ∃ i, xs = [.int i] ∧ i.natAbs.log2 < 1920 ∧ Q (.str (toString i)) H) := by
  intro pins s σ H xs us Q I r h
  obtain ⟨i, rfl, hz, q⟩ := h
  obtain ⟨u, rfl, t, rfl⟩ := vals1 r
  exact PySem.P.str_of_int hz ⟨.str _, H, I.tok _, ⟨_, rfl⟩, q⟩
end
end L2

namespace L2
open PySem PySem.Spec PyProof.Rows

/-! ### an instance, its attributes a map -/
structure ObjM (h : Heap) (x dx C : Addr) (mA : Str → Option Value) : Prop where
  obj : h.get? x = some (PySem.W.instObj C dx)
  ns : h.Ns1 dx mA
  ne : dx ≠ x

theorem lookIn_ns {h : Heap} {dx : Addr} {mA : Str → Option Value} (n : h.Ns1 dx mA) : ∃ od, h.get? dx = some od ∧ ∀ name, PySem.W.lookIn name od = some (mA name) := by
  obtain ⟨o, es, ep, ho, hd, hk, _, hm⟩ := n
  refine ⟨o, ho, fun name => ?_⟩
  have e := hm name
  unfold nsFind findBy at e
  rw [← Array.find?_toList] at e
  unfold PySem.W.lookIn
  rw [hd]
  dsimp only
  split
  · rename_i y q
    rw [q] at e
    exact congrArg some e
  · rename_i q
    rw [q] at e
    have a : es.toList.any (·.refKey) = false := by
      rw [List.any_eq_false]
      intro y hy
      obtain ⟨z, t, hkey⟩ := hk y (Array.mem_toList_iff.mp hy)
      simp [DictEntry.refKey, hkey]
    have a' : ¬ es.toList.any (·.refKey) = true := by rw [a]; exact Bool.false_ne_true
    rw [if_neg a']
    exact congrArg some e

theorem ObjM.look {h : Heap} {x dx C : Addr} {mA : Str → Option Value} (I : ObjM h x dx C mA) : ∃ od, PySem.W.InstAt h x (PySem.W.instObj C dx) C (some od) ∧ ∀ name, PySem.W.lookIn name od = some (mA name) :=
  let ⟨od, ho, hl⟩ := lookIn_ns I.ns
  ⟨od, ⟨I.obj, rfl, rfl, ho⟩, hl⟩

section
variable {prog : Program} {w : World} {A : Around} {E : Value → Shared → Prop} {s : Shared} {K : PySem.W.Frag} {x dx C f : Addr} {mA : Str → Option Value} {name : Str} {v : Value}

theorem get_map {expr : Bool} {Q : Value → Shared → Prop} (X : K.In s.heap) (I : ObjM s.heap x dx C mA) (hg : PySem.W.plainGet K C name = true) (hh : PySem.W.hasDictIn K C = true)
    (ha : PySem.W.findIn K (.ref C) name = some none) (hv : mA name = some v) (hv' : PySem.W.handedIn v = true) (h : Q v { s with toks := s.toks + 1 }) :
    wpAny (model prog w) A (getAttr (.ref x) name expr) Q E s := by
  obtain ⟨od, J, hl⟩ := I.look
  exact PySem.W.get_value X J (PySem.W.plainGet_of hg).1 (PySem.W.findObj_own hh ha rfl (by rw [hl, hv])) hv' h

theorem get_meth {pl : Sem Bool} {Q : Value × List Value → Shared → Prop} (X : K.In s.heap) (I : ObjM s.heap x dx C mA) (hg : PySem.W.plainGet K C name = true)
    (hf : PySem.W.findIn K (.ref C) name = some (some (.ref f))) (ht : PySem.W.isFn K (.ref f) = true) (hv : mA name = none) (h : Q (.ref f, [.ref x]) s) :
    wpAny (model prog w) A (getMethod (.ref x) name pl) Q E s := by
  obtain ⟨od, J, hl⟩ := I.look
  exact PySem.W.method_fn X J (PySem.W.plainGet_of hg).1 (PySem.W.plainGet_of hg).2 hf (beq_iff_eq.mp ht) (by show (PySem.W.lookIn name od).map (·.isSome) = some false; rw [hl, hv]; rfl) h

theorem set_map {ns : List Str} {Q : Unit → Shared → Prop} (X : K.In s.heap) (I : ObjM s.heap x dx C mA)
    (hs : PySem.W.findIn K (.ref C) "__setattr__" = some (some (.builtin "object.__setattr__"))) (hp : PySem.W.plainOver K C = true) (ht : PySem.W.takerIn K C name = some none) (hh : PySem.W.hasDictIn K C = true)
    (hw : PySem.Within mA ns) (hsz : ns.length ≤ sizeLine)
    (h : ∀ h', ObjM h' x dx C (fun y => if y = name then some v else mA y) → Heap.SameBut dx s.heap h' → Q () { s with heap := h', toks := s.toks + 2 }) :
    wpAny (model prog w) A (setAttr (.ref x) name v) Q E s := by
  obtain ⟨od, J, hl⟩ := I.look
  refine PySem.W.set_plain X J hs (PySem.W.osa_open (s := { s with toks := s.toks + 1 }) (r := none) X J hp ht fun b => ?_)
  obtain ⟨cd, hc, hd'⟩ := PySem.W.any_some hh
  have hx : s.heap.get? x = some ⟨.ref C, some dx, .plain, #[]⟩ := I.obj
  refine wpAny_bind (wpAny_pure (wpAny_bind (wpAny_bind (wpAny_loadPart hx (wpAny_bind (PySem.W.Looks.here (s := { s with toks := s.toks + 1 }) (PySem.W.looks_clsIn X hc) ?_))))))
  rw [hd']
  refine wpAny_pure (a := some dx) (wpAny_bind (wpAny_pure (wpAny_bind ?_)))
  refine wpAny_nsSet1 (s := { s with toks := s.toks + 1 }) I.ns fun h' hn2 hs2 => ?_
  obtain ⟨oD, esD, epD, hoD, hdD, hcD⟩ := hn2.count (PySem.Within.cons name v hw)
  refine wpAny_bind (wpAny_lookBehind hoD (by rw [hdD]; exact pastItsLine_dict (Nat.le_trans hcD (by rw [List.length_cons]; omega))) ?_)
  exact wpAny_pure (h _ ⟨(hs2.2 _ (Ne.symm I.ne)).trans I.obj, hn2, I.ne⟩ hs2)

/-- C(..): the dict at the heap's end, the instance behind it; then its __init__ -/
theorem make_map {R : Result → Shared → Prop} {vs : List Value} {kw : List (Str × Value)} (X : K.In s.heap) (hm : PySem.W.makesIn K C = true)
    (hi : PySem.W.findIn K (.ref C) "__init__" = some (some (.ref f))) (hf : PySem.W.typeIn K (.ref f) = some (.type "function"))
    (h : codeAny (model prog w) (A.under (.builtin "type.__call__" ⟨.ref C :: vs, kw⟩)) (.call (.ref f) ⟨.ref (s.heap.objs.size + 1) :: vs, kw⟩) (PySem.W.InitBack (s.heap.objs.size + 1) R)
      { s with heap := (s.heap.push PySem.W.emptyDict).push (PySem.W.instObj C s.heap.objs.size) }) :
    codeAny (model prog w) A (.call (.ref C) ⟨vs, kw⟩) R s := by
  obtain ⟨hh, g, d, t, os⟩ := s
  exact PySem.W.make_core (PySem.W.makes_of X hm) (PySem.W.looks_findIn X hi) (fun self => PySem.W.bind_fn X self hf) (.inl rfl) h
/-- C() where there is no __init__ but object's -/
theorem make_map0 {R : Result → Shared → Prop} (X : K.In s.heap) (hm : PySem.W.makesIn K C = true)
    (hi : PySem.W.findIn K (.ref C) "__init__" = some (some (.builtin "object.__init__")))
    (hb : ∀ self, PySem.W.Looks (model prog w) s.heap (bindSpecial (.builtin "object.__init__") self) (.builtin "object.__init__", [self]))
    (h : codeAny (model prog w) (A.under (.builtin "type.__call__" ⟨[.ref C], []⟩)) (.call (.builtin "object.__init__") ⟨[.ref (s.heap.objs.size + 1)], []⟩) (PySem.W.InitBack (s.heap.objs.size + 1) R)
      { s with heap := (s.heap.push PySem.W.emptyDict).push (PySem.W.instObj C s.heap.objs.size) }) :
    codeAny (model prog w) A (.call (.ref C) ⟨[], []⟩) R s := by
  obtain ⟨hh, g, d, t, os⟩ := s
  exact PySem.W.make_core (PySem.W.makes_of X hm) (PySem.W.looks_findIn X hi) hb (.inr ⟨rfl, rfl⟩) h
end

/-! ### the attributes as a list of pairs -/
def putF (f : Str) (v : V) : List (Str × V) → List (Str × V)
  | [] => [(f, v)]
  | (g, x) :: r => if g = f then (g, v) :: r else (g, x) :: putF f v r
theorem lookup_putF (f g : Str) (v : V) : ∀ fs : List (Str × V), (putF f v fs).lookup g = if g = f then some v else fs.lookup g
  | [] => by
    show List.lookup g [(f, v)] = _
    by_cases h : g = f
    · have hb : (g == f) = true := beq_iff_eq.mpr h
      simp only [List.lookup, hb, if_pos h]
    · have hb : (g == f) = false := beq_eq_false_iff_ne.mpr h
      simp only [List.lookup, hb, if_neg h]
  | (k, x) :: r => by
    have ih := lookup_putF f g v r
    rw [show putF f v ((k, x) :: r) = (if k = f then (k, v) :: r else (k, x) :: putF f v r) from rfl]
    by_cases hk : k = f
    · rw [if_pos hk]
      by_cases h : g = k
      · have hb : (g == k) = true := beq_iff_eq.mpr h
        simp only [List.lookup, hb, if_pos (h.trans hk)]
      · have hb : (g == k) = false := beq_eq_false_iff_ne.mpr h
        simp only [List.lookup, hb, if_neg (fun e : g = f => h (e.trans hk.symm))]
    · rw [if_neg hk]
      by_cases h : g = k
      · have hb : (g == k) = true := beq_iff_eq.mpr h
        simp only [List.lookup, hb, if_neg (fun e : g = f => hk (h.symm.trans e))]
      · have hb : (g == k) = false := beq_eq_false_iff_ne.mpr h
        simp only [List.lookup, hb]
        exact ih
theorem keys_putF (f : Str) (v : V) : ∀ fs : List (Str × V), f ∈ (putF f v fs).map (·.1) ∧ ∀ g, g ∈ fs.map (·.1) → g ∈ (putF f v fs).map (·.1)
  | [] => ⟨by simp [putF], fun g h => by simp at h⟩
  | (k, x) :: r => by
    obtain ⟨i1, i2⟩ := keys_putF f v r
    rw [show putF f v ((k, x) :: r) = (if k = f then (k, v) :: r else (k, x) :: putF f v r) from rfl]
    by_cases hk : k = f
    · rw [if_pos hk]
      subst hk
      exact ⟨by simp, fun g h => by simpa using h⟩
    · rw [if_neg hk]
      refine ⟨?_, fun g h => ?_⟩
      · rw [List.map_cons]
        exact List.mem_cons_of_mem _ i1
      · rw [List.map_cons] at h ⊢
        rcases List.mem_cons.mp h with e | e
        · exact List.mem_cons.mpr (.inl e)
        · exact List.mem_cons_of_mem _ (i2 g e)
theorem length_putF (f : Str) (v : V) : ∀ fs : List (Str × V), (putF f v fs).length ≤ fs.length + 1
  | [] => by simp [putF]
  | (k, x) :: r => by
    have ih := length_putF f v r
    rw [show putF f v ((k, x) :: r) = (if k = f then (k, v) :: r else (k, x) :: putF f v r) from rfl]
    by_cases hk : k = f
    · rw [if_pos hk, List.length_cons, List.length_cons]; omega
    · rw [if_neg hk, List.length_cons, List.length_cons]; omega

theorem RelO.some_of {v : V} {o : Option Value} (r : RelO (some v) o) : ∃ u, o = some u ∧ RelV v u := by
  cases o with
  | none => exact (show False from r).elim
  | some u => exact ⟨u, rfl, r⟩
theorem RelO.none_of {o : Option Value} (r : RelO none o) : o = none := by
  cases o with
  | none => rfl
  | some u => exact (show False from r).elim
theorem handed_of {v : V} {u : Value} (r : RelV v u) : PySem.W.handedIn u = true := by
  cases v with
  | non => cases (show u = Value.none from r); rfl
  | bl b => cases (show u = Value.bool b from r); rfl
  | int i => obtain ⟨t, e⟩ := (show ∃ t, u = Value.int i t from r); cases e; rfl
  | str x => obtain ⟨t, e⟩ := (show ∃ t, u = Value.str x t from r); cases e; rfl
  | byt b => obtain ⟨t, e⟩ := (show ∃ t, u = Value.bytes b t from r); cases e; rfl
  | flt b => obtain ⟨t, e⟩ := (show ∃ t, u = Value.float b t from r); cases e; rfl
  | ref a => cases (show u = Value.ref a from r); rfl
  | ty n => cases (show u = Value.type n from r); rfl

section
variable {P : Program} {w : World} {H H' : Hp} {h h' : Heap} {a C dx : Addr} {fs fs' : List (Str × V)}
theorem ins_get (hok : HOk P w H h) (e : H a = some (.ins C dx fs)) : ∃ mA, ObjM h a dx C mA ∧ (∀ f, RelO (fs.lookup f) (mA f)) ∧ PySem.Within mA (fs.map (·.1)) ∧ fs.length ≤ 1000 ∧ H dx = some (.own a) := by
  obtain ⟨d, z, ne, ob, mA, n, r, q⟩ := (show ObjOk P w H h a (.ins C dx fs) from hok a _ e)
  exact ⟨mA, ⟨ob, n, ne⟩, r, q, z, d⟩
end

/-! ### what of the text a class must have -/
structure Cls (K : PySem.W.Frag) (C : Addr) : Prop where
  pg : PySem.W.plainGet K C Str.empty = true
  hd : PySem.W.hasDictIn K C = true
  po : PySem.W.plainOver K C = true
  sa : PySem.W.findIn K (.ref C) "__setattr__" = some (some (.builtin "object.__setattr__"))
theorem Cls.get {K : PySem.W.Frag} {C : Addr} (c : Cls K C) (f : Str) : PySem.W.plainGet K C f = true := c.pg
/-- no class of it has the name -/
def NoAttr (K : PySem.W.Frag) (C : Addr) (f : Str) : Prop := PySem.W.findIn K (.ref C) f = some none
theorem NoAttr.taker {K : PySem.W.Frag} {C : Addr} {f : Str} (n : NoAttr K C f) : PySem.W.takerIn K C f = some none := by
  unfold PySem.W.takerIn
  rw [show PySem.W.findIn K (.ref C) f = some none from n]
  rfl
/-- a method: a plain def of the class or of one above it -/
structure Meth (K : PySem.W.Frag) (C : Addr) (m : Str) (f : Addr) : Prop where
  at_ : PySem.W.findIn K (.ref C) m = some (some (.ref f))
  fn : PySem.W.isFn K (.ref f) = true
  kp : PySem.W.keepIn K (.ref f) = true

section
variable {X : Cx} {pins : List (Addr × Obj)} {σ : St} {H : Hp} {s : Shared} {a C dx : Addr} {fs : List (Str × V)} {f : Str} {v : V} {A : Around} {E : Value → Shared → Prop}

theorem getattr_ok {b : Bool} {Q : Value → Shared → Prop} (I : Inv X pins σ H s) (e : H a = some (.ins C dx fs)) (c : Cls X.K C) (n : NoAttr X.K C f) (l : fs.lookup f = some v)
    (h : ∀ u s', Inv X pins σ H s' → RelV v u → Q u s') : wpAny (model X.prog X.w) A (getAttr (.ref a) f b) Q E s := by
  obtain ⟨mA, O, r, _, _, _⟩ := ins_get I.hok e
  obtain ⟨u, hu, ru⟩ := RelO.some_of (v := v) (o := mA f) (by rw [← l]; exact r f)
  exact get_map I.kIn O (c.get f) c.hd n hu (handed_of ru) (h u _ (I.tok _) ru)

theorem getmeth_ok {m : Str} {g : Addr} {pl : Sem Bool} {Q : Value × List Value → Shared → Prop} (I : Inv X pins σ H s) (e : H a = some (.ins C dx fs)) (c : Cls X.K C) (k : Meth X.K C m g) (l : fs.lookup m = none)
    (h : Q (.ref g, [.ref a]) s) : wpAny (model X.prog X.w) A (getMethod (.ref a) m pl) Q E s := by
  obtain ⟨mA, O, r, _, _, _⟩ := ins_get I.hok e
  have hn : mA m = none := RelO.none_of (by rw [← l]; exact r m)
  exact get_meth I.kIn O (c.get m) k.at_ k.fn hn h

theorem setattr_ok {y : V} {u : Value} {Q : Unit → Shared → Prop} (I : Inv X pins σ H s) (e : H a = some (.ins C dx fs)) (c : Cls X.K C) (n : NoAttr X.K C f) (hl : fs.length < 1000) (ry : RelV y u)
    (h : ∀ s', Inv X pins σ (upd H a (.ins C dx (putF f y fs))) s' → Q () s') : wpAny (model X.prog X.w) A (setAttr (.ref a) f u) Q E s := by
  obtain ⟨mA, O, r, wi, _, ho⟩ := ins_get I.hok e
  have hz : (fs.map (·.1)).length ≤ sizeLine := by rw [List.length_map, sizeLine_eq]; omega
  refine set_map I.kIn O c.sa c.po n.taker c.hd wi hz fun h' O' sb => h _ ?_
  have hd : ∃ o, h'.get? dx = some o := let ⟨o, _, _, e', _⟩ := O'.ns; ⟨o, e'⟩
  refine I.write (x := a) (e := dx) (by rw [e]; exact True.intro) (.inr ho) (fun b q hb z => (sb.2 b hb).trans z) hd ?_
  refine ⟨by rw [upd_ne O.ne]; exact ho, ?_, O.ne, O'.obj, _, O'.ns, fun g => ?_, fun g hg => ?_⟩
  · have := length_putF f y fs; omega
  · show RelO ((putF f y fs).lookup g) (if g = f then some u else mA g)
    rw [lookup_putF]
    by_cases q : g = f
    · rw [if_pos q, if_pos q]; exact ry
    · rw [if_neg q, if_neg q]; exact r g
  · by_cases q : g = f
    · rw [q]; exact (keys_putF f y fs).1
    · refine (keys_putF f y fs).2 g (wi g fun z => hg ?_)
      show (if g = f then some u else mA g) = none
      rw [if_neg q]; exact z

/-- a new instance, tracked, without attributes -/
theorem Inv.made (I : Inv X pins σ H s) : Inv X pins σ (upd (upd H s.heap.objs.size (.own (s.heap.objs.size + 1))) (s.heap.objs.size + 1) (.ins C s.heap.objs.size []))
    { s with heap := (s.heap.push PySem.W.emptyDict).push (PySem.W.instObj C s.heap.objs.size) } := by
  have e1 : (s.heap.push PySem.W.emptyDict).get? s.heap.objs.size = some PySem.W.emptyDict := Heap.get?_push_size s.heap rfl
  have e2 : ((s.heap.push PySem.W.emptyDict).push (PySem.W.instObj C s.heap.objs.size)).get? (s.heap.objs.size + 1) = some (PySem.W.instObj C s.heap.objs.size) := by
    have := Heap.get?_push_size (s.heap.push PySem.W.emptyDict) (o := PySem.W.instObj C s.heap.objs.size) rfl
    rwa [Heap.size_push] at this
  have e3 : (s.heap.push PySem.W.emptyDict).Ns s.heap.objs.size (fun _ => none) := ⟨PySem.W.emptyDict, #[], _, e1, rfl, (fun e he => absurd he (by simp)), fun _ => rfl⟩
  have I1 := I.laid (a := s.heap.objs.size) (o := .own (s.heap.objs.size + 1)) (h' := s.heap.push PySem.W.emptyDict) (t' := s.toks) (fun b u q => Heap.get?_push_of_some _ q) (Nat.le_refl _) ⟨_, e1⟩
  refine I1.laid (a := s.heap.objs.size + 1) (o := .ins C s.heap.objs.size []) (t' := s.toks) (fun b u q => Heap.get?_push_of_some _ q) (Nat.le_of_eq (Heap.size_push _ _)) ?_
  have ne : s.heap.objs.size ≠ s.heap.objs.size + 1 := Nat.ne_of_lt (Nat.lt_succ_self _)
  refine ⟨by rw [upd_ne ne, upd_same], Nat.zero_le _, ne, e2, fun _ => none, (Heap.Ns1.of_empty e3).at fun o q => Heap.get?_push_of_some _ q, fun _ => True.intro, fun y hy => absurd rfl hy⟩

/-- e.f where nothing but the object is asked: through attributeBase (super) and the last hold -/
theorem attr_of {prog : Program} {w : World} {env : Env} {e : Expr} {f : Str} {pos : Pos} {s : Shared} {Q : Value → Shared → Prop} (hb : attributeBase e f env (eval e env) = eval e env)
    (h : wpAny (model prog w) A (eval e env) (fun o s₁ => wpAny (model prog w) A (getAttr o f true) Q E s₁) E s) : wpAny (model prog w) A (eval (.Attribute e f pos) env) Q E s :=
  Attribute_any_ h (by rw [arm_eval_Attribute, hb])
end

/-! ### readings and rules -/
/-- e.f, an attribute of the instance -/
def tFld (K : PySem.W.Frag) (ta : TE) (f : Str) : TE := fun σ H Q => ta σ H fun x H1 => ∃ a C dx fs v, x = .ref a ∧ H1 a = some (.ins C dx fs) ∧ Cls K C ∧ NoAttr K C f ∧ fs.lookup f = some v ∧ Q v H1
/-- e.f = value -/
def sFld (K : PySem.W.Frag) (ta tv : TE) (f : Str) : TS := fun D σ H => tv σ H fun y H1 => ta σ H1 fun x H2 => ∃ a C dx fs, x = .ref a ∧ H2 a = some (.ins C dx fs) ∧ Cls K C ∧ NoAttr K C f ∧ fs.length < 1000 ∧
  D.nx σ (upd H2 a (.ins C dx (putF f y fs)))
section
variable {X : Cx} {o e value : Expr} {f : Str} {pos pos' tpos : Pos} {ta tv : TE}
theorem pe_fld (he : PE X e ta) (hb : attributeBase e f X.env (eval e X.env) = eval e X.env) : PE X (.Attribute e f pos) (tFld X.K ta f) := by
  intro pins s σ H Q I h
  refine attr_of hb (thn (he pins s σ H _ I h) fun u s1 ⟨x, H1, I1, rx, a, C, dx, fs, v, ex, ea, c, n, l, q⟩ => ?_)
  subst ex
  obtain rfl : u = Value.ref a := rx
  exact getattr_ok I1 ea c n l fun u' s2 I2 ru => ⟨v, H1, I2, ru, q⟩
theorem ps_fld (ha : PE X o ta) (hv : PE X value tv) (hs : swapsWith value (some (.Attribute o f pos')) pos.line X.env = pure false) : PS X (.Assign [.Attribute o f pos'] value pos) (sFld X.K ta tv f) := by
  intro pins s σ H D I h
  refine plainObj_wpAny_Assign_Attribute (thn (hv pins s σ H _ I h) fun u s1 ⟨y, H1, I1, ry, q⟩ => thn (ha pins s1 σ H1 _ I1 q) fun ov s2 ⟨x, H2, I2, rx, a, C, dx, fs, ex, ea, c, n, l, q2⟩ => ?_) hs
  subst ex
  obtain rfl : ov = Value.ref a := rx
  exact setattr_ok I2 ea c n l ry fun s3 I3 => ⟨σ, _, I3, q2⟩
end

/-! ### isinstance -/
section
variable {X : Cx} {pins : List (Addr × Obj)} {σ : St} {H : Hp} {s : Shared} {A : Around} {E : Value → Shared → Prop} {Q : Value → Shared → Prop} {c : Value} {b : Bool}
/-- the type of a value, as the fragment's deciders take it; for an instance its class -/
inductive TyOf (K : PySem.W.Frag) (H : Hp) : V → Value → Prop where
  | non : TyOf K H .non (.type "NoneType")
  | bl (x : Bool) : TyOf K H (.bl x) (.type "bool")
  | int (i : Int) : TyOf K H (.int i) (.type "int")
  | str (x : Str) : TyOf K H (.str x) (.type "str")
  | flt (x : UInt64) : TyOf K H (.flt x) (.type "float")
  | lst {a : Addr} {xs : List V} (e : H a = some (.lst xs)) : TyOf K H (.ref a) (.type "list")
  | frz {a : Addr} {o : Obj} {xs : List V} (e : H a = some (.frz o (.lst xs))) : TyOf K H (.ref a) (.type "list")
  | tup {a : Addr} {xs : List V} (e : H a = some (.tup xs)) : TyOf K H (.ref a) (.type "tuple")
  | dK {a : Addr} {kvs : List (Key × V)} (e : H a = some (.dK kvs)) : TyOf K H (.ref a) (.type "dict")
  | dT {a : Addr} {kvs : List (List Key × V)} (e : H a = some (.dT kvs)) : TyOf K H (.ref a) (.type "dict")
  | ins {a C dx : Addr} {fs : List (Str × V)} (e : H a = some (.ins C dx fs)) (cl : Cls K C) (ha : PySem.W.findIn K (.ref C) "__class__" = some (some (.builtin "object.__class__")))
      (hn : PySem.W.specialIn K (.builtin "object.__class__") "__get__" = some (some (.builtin "getset_descriptor.__get__"))) (htk : PySem.W.takesIn K (.builtin "object.__class__") = some true)
      (hm : PySem.W.mroIn K C (.type "object") = some true) : TyOf K H (.ref a) (.ref C)
/-- isinstance(x, c) for one class c, a built-in or an own one: kitOne's answer -/
theorem isinst_ok {x : V} {u t : Value} (I : Inv X pins σ H s) (rx : RelV x u) (ty : TyOf X.K H x t) (e : PySem.W.kitOne X.K t c = some b) (h : ∀ tk, Q (.bool b) { s with toks := tk }) :
    wpAny (model X.prog X.w) A (call (.builtin "isinstance") [u, c]) Q E s := by
  cases ty with
  | non => cases (show u = Value.none from rx); exact PySem.W.kia_one PySem.W.kitx_none I.kIn True.intro e (fun z => nomatch z) h
  | bl y => cases (show u = Value.bool y from rx); exact PySem.W.kia_one PySem.W.kitx_bool I.kIn True.intro e (fun z => nomatch z) h
  | int i => obtain ⟨t, q⟩ := (show ∃ t, u = Value.int i t from rx); cases q; exact PySem.W.kia_one PySem.W.kitx_int I.kIn True.intro e (fun z => nomatch z) h
  | str y => obtain ⟨t, q⟩ := (show ∃ t, u = Value.str y t from rx); cases q; exact PySem.W.kia_one PySem.W.kitx_str I.kIn True.intro e (fun z => nomatch z) h
  | flt y => obtain ⟨t, q⟩ := (show ∃ t, u = Value.float y t from rx); cases q; exact PySem.W.kia_one PySem.W.kitx_float I.kIn True.intro e (fun z => nomatch z) h
  | @lst a xs ea =>
    cases (show u = Value.ref a from rx)
    obtain ⟨_, _, n, _, h1⟩ := (show ObjOk X.prog X.w H s.heap a (.lst xs) from I.hok a _ ea)
    exact PySem.W.kia_one PySem.W.kitx_list I.kIn ⟨_, h1, rfl⟩ e (fun z => nomatch z) h
  | @frz a ob xs ea =>
    cases (show u = Value.ref a from rx)
    obtain ⟨_, _, _, n, _, h1⟩ := (show ObjOk X.prog X.w H s.heap a (.frz ob (.lst xs)) from I.hok a _ ea)
    exact PySem.W.kia_one PySem.W.kitx_list I.kIn ⟨_, h1, rfl⟩ e (fun z => nomatch z) h
  | @tup a xs ea =>
    cases (show u = Value.ref a from rx)
    obtain ⟨_, _, _, p⟩ := (show ObjOk X.prog X.w H s.heap a (.tup xs) from I.hok a _ ea)
    obtain ⟨o, h1, h2, _⟩ := p
    exact PySem.W.kia_one PySem.W.kitx_tuple I.kIn ⟨o, h1, h2⟩ e (fun z => nomatch z) h
  | @dK a kvs ea =>
    cases (show u = Value.ref a from rx)
    obtain ⟨_, _, vs, _, p⟩ := (show ObjOk X.prog X.w H s.heap a (.dK kvs) from I.hok a _ ea)
    obtain ⟨o, es, ep, h1, h2, _⟩ := p
    exact PySem.W.kia_one PySem.W.kitx_dict I.kIn ⟨o, h1, h2.1⟩ e (fun z => nomatch z) h
  | @dT a kvs ea =>
    cases (show u = Value.ref a from rx)
    obtain ⟨_, _, xs, _, o, es, ep, h1, h2, _⟩ := (show ObjOk X.prog X.w H s.heap a (.dT kvs) from I.hok a _ ea)
    exact PySem.W.kia_one PySem.W.kitx_dict I.kIn ⟨o, h1, h2.1⟩ e (fun z => nomatch z) h
  | @ins a C dx fs ea cl ha hn htk hm =>
    cases (show u = Value.ref a from rx)
    obtain ⟨mA, O, _⟩ := ins_get I.hok ea
    obtain ⟨od, J, _⟩ := O.look
    exact PySem.W.kia_one (PySem.W.kitx_own (cl.get _) cl.hd ha hn htk hm) I.kIn J e (fun z => nomatch z) h
end
end L2

namespace L2
open PySem PySem.Spec PyProof.Rows

/-! ### room -/
structure Room (k : Nat) (A : Around) : Prop where
  hd : A.handled = none
  dp : A.depth + 3 * k + 5 < recursionLimit
  un : A.units + 16 * k + 200 < cLine
theorem Room.mono {j k : Nat} {A : Around} (r : Room k A) (h : j ≤ k) : Room j A := ⟨r.hd, by have := r.dp; omega, by have := r.un; omega⟩
theorem Room.deeper {k : Nat} {A : Around} (r : Room (k + 1) A) (env : Env) : Room k (A.deeper env) :=
  ⟨r.hd, by have := r.dp; show A.depth + 1 + 3 * k + 5 < _; omega, by have := r.un; show A.units + 3 + 16 * k + 200 < _; omega⟩
theorem make_depth {A : Around} {C : Addr} {us : List Value} {kw : List (Str × Value)} : (A.under (.builtin "type.__call__" ⟨.ref C :: us, kw⟩)).depth = A.depth + 1 := by
  first | rfl | simp [Around.under, Code.weight, Code.isCreation, Code.isGuard, Code.isCaller, Code.frames, Code.isFrame, guardIds]
theorem make_units {A : Around} {C : Addr} {us : List Value} {kw : List (Str × Value)} : (A.under (.builtin "type.__call__" ⟨.ref C :: us, kw⟩)).units = A.units + 1 := by
  first | rfl | simp [Around.under, Code.cUnits, Code.frames, Code.isFrame]
theorem Room.make {k : Nat} {A : Around} (r : Room (k + 1) A) (C : Addr) (us : List Value) (kw : List (Str × Value)) : Room k (A.under (.builtin "type.__call__" ⟨.ref C :: us, kw⟩)) :=
  ⟨r.hd, by have := r.dp; rw [make_depth]; omega, by have := r.un; rw [make_units]; omega⟩
theorem Room.depth {k : Nat} {A : Around} (r : Room k A) : A.depth < recursionLimit := by have := r.dp; omega
/-! ### argument lists and displays -/
def tNil : TA := fun _ H Q => Q [] H
def tCons (ta : TE) (tr : TA) : TA := fun σ H Q => ta σ H fun x H1 => tr σ H1 fun xs H2 => Q (x :: xs) H2
section
variable {X : Cx} {e : Expr} {es : List Expr} {te : TE} {t : TA} {pos : Pos}
theorem pa_nil : PA X [] tNil := fun _ _ _ _ H Q I h => Calls.spliced_nil ⟨[], H, I, .nil, h⟩
theorem pa_cons (ha : PE X e te) (hr : PA X es t) (hs : starEach (e :: es) X.env = (false, eval e X.env) :: starEach es X.env := by rfl) : PA X (e :: es) (tCons te t) := by
  intro pos pins s σ H Q I h
  rw [hs]
  show wpAny _ _ (spliced ((false, eval e X.env) :: backTo pos (starEach es X.env))) _ _ s
  refine Calls.spliced_cons (thn (ha pins s σ H _ I h) fun u s1 ⟨x, H1, I1, r1, q1⟩ => ?_)
  exact thn (hr pos pins s1 σ H1 _ I1 q1) fun us s2 ⟨xs, H2, I2, r2, q2⟩ => ⟨x :: xs, H2, I2, .cons r1 r2, q2⟩

/-- a tuple, a list of written items -/
def tTup (t : TA) : TE := fun σ H Q => t σ H fun xs H1 => xs.length ≤ sizeLine ∧ ∀ p, H1 p = none → Q (.ref p) (upd H1 p (.tup xs))
def tLst (t : TA) : TE := fun σ H Q => t σ H fun xs H1 => xs.length ≤ sizeLine ∧ ∀ p, H1 p = none → Q (.ref p) (upd H1 p (.lst xs))
theorem pe_tup {x1} (h : PA X es t) : PE X (.Tuple es x1 pos) (tTup t) := by
  intro pins s σ H Q I hq
  refine wpAny_Tuple_spliced (thn (h pos pins s σ H _ I hq) fun us s1 ⟨xs, H1, I1, r, z, q⟩ => ⟨by rw [← r.length]; exact z, ?_⟩)
  have hf : H1 s1.heap.objs.size = none := I1.hok.fresh (Nat.le_refl _)
  refine ⟨.ref s1.heap.objs.size, upd H1 s1.heap.objs.size (.tup xs), I1.laid (t' := s1.toks) (fun b u e => Heap.get?_push_of_some _ e) (Nat.le_refl _) ?_, rfl, q _ hf⟩
  exact ⟨z, us, r, ⟨_, Heap.get?_push_size _ rfl, rfl, _, rfl⟩⟩
theorem pe_lst (h : PA X es t) : PE X (.List es pos) (tLst t) := by
  intro pins s σ H Q I hq
  refine wpAny_List_spliced (thn (h pos pins s σ H _ I hq) fun us s1 ⟨xs, H1, I1, r, z, q⟩ => ⟨by rw [← r.length]; exact z, ?_⟩)
  have hf : H1 s1.heap.objs.size = none := I1.hok.fresh (Nat.le_refl _)
  refine ⟨.ref s1.heap.objs.size, upd H1 s1.heap.objs.size (.lst xs), I1.laid (t' := s1.toks) (fun b u e => Heap.get?_push_of_some _ e) (Nat.le_refl _) ?_, rfl, q _ hf⟩
  exact ⟨z, us, 0, r, Heap.get?_push_size _ rfl⟩
end

/-! ### what a def promises -/
/-- a def's promise: the bound arguments in the parameters' order, the heap, the wanted end, the wanted exception -/
abbrev Sp := List V → Hp → VK → XK → Prop
/-- how an exception lies behind a call (file 08 gives it): the callers' frames, abstract heap and state ahead of the call, the wish, the exception, the state -/
abbrev CXT := List Env → Hp → Shared → XK → Value → Shared → Prop

/-- the state at a call -/
structure Env0 (P : Program) (w : World) (K : PySem.W.Frag) (mg : Str → Option Value) (base : Heap) (A : Around) (outer : List Env) (s : Shared) (H : Hp) : Prop where
  frames : A.frames = some outer
  mod : Mod K mg base
  bs : ∀ b o, base.get? b = some o → s.heap.get? b = some o ∧ H b = none
  bsz : base.objs.size ≤ s.heap.objs.size
  funs : s.heap.FunFrames base outer
  frf : ∀ b ∈ frs outer, H b = none
  hok : HOk P w H s.heap
  bare : AllBare s.gens
/-- a call's end -/
def CE (outer : List Env) (P : Program) (w : World) (H : Hp) (s : Shared) (Q : VK) (u : Value) (s' : Shared) : Prop :=
  ∃ v H', s'.os = s.os ∧ AllBare s'.gens ∧ Un (frs outer) [] H H' s.heap s'.heap ∧ HOk P w H' s'.heap ∧ RelV v u ∧ Q v H'
def CR (CX : CXT) (outer : List Env) (P : Program) (w : World) (H : Hp) (s : Shared) (Q : VK) (E : XK) (r : Result) (s' : Shared) : Prop :=
  match r with
  | .ok (.ret u) => CE outer P w H s Q u s'
  | .ok _ => False
  | .error e => CX outer H s E e s'
structure FnOk (P : Program) (w : World) (K : PySem.W.Frag) (mg : Str → Option Value) (base : Heap) (CX : CXT) (k : Nat) (f : Addr) (fd : FuncData) (ps : List Str) (sp : Sp) : Prop where
  len : ∀ vs H Q E, sp vs H Q E → vs.length = ps.length
  run : ∀ (A : Around) (outer : List Env) (s : Shared) (H : Hp) (args : Args) (us : List Value) (vs : List V) (Q : VK) (E : XK), Room k A → Env0 P w K mg base A outer s H → BindsTo s fd args (ps.zip us) → Vals vs us → sp vs H Q E →
    codeAny (model P w) A (.call (.ref f) args) (CR CX outer P w H s Q E) s
theorem FnOk.mono {P : Program} {w : World} {K : PySem.W.Frag} {mg : Str → Option Value} {base : Heap} {CX : CXT} {j k : Nat} {f : Addr} {fd : FuncData} {ps : List Str} {sp : Sp} (F : FnOk P w K mg base CX j f fd ps sp) (h : j ≤ k) :
    FnOk P w K mg base CX k f fd ps sp := ⟨F.len, fun A outer s H args us vs Q E hr => F.run A outer s H args us vs Q E (hr.mono h)⟩
theorem Env0.make {P : Program} {w : World} {K : PySem.W.Frag} {mg : Str → Option Value} {base : Heap} {A : Around} {outer : List Env} {s : Shared} {H : Hp} (e : Env0 P w K mg base A outer s H) (C : Addr) (us : List Value) (kw : List (Str × Value)) :
    Env0 P w K mg base (A.under (.builtin "type.__call__" ⟨.ref C :: us, kw⟩)) outer s H := ⟨by first | exact e.frames | (simpa [Around.under, Code.envs, Code.isFrame, pushEnvs] using e.frames), e.mod, e.bs, e.bsz, e.funs, e.frf, e.hok, e.bare⟩
section
variable {X : Cx} {pins : List (Addr × Obj)} {σ : St} {H : Hp} {s s' : Shared}
/-- from a body: what a callee wants -/
theorem Inv.env0 (I : Inv X pins σ H s) : Env0 X.prog X.w X.K X.mg X.base X.A X.stack s H :=
  ⟨I.ok.frames, I.ok.mod, I.bs, Nat.le_trans I.ok.bsz I.sz, I.stack, I.stkFree, I.hok, I.bare⟩
/-- behind a call -/
theorem Inv.after {Q : VK} {u : Value} (I : Inv X pins σ H s) (h : CE X.stack X.prog X.w H s Q u s') : EP X pins σ Q u s' := by
  obtain ⟨v, H', os, bare, un, hok, r, q⟩ := h
  obtain ⟨hh, g, d, t, os'⟩ := s'
  obtain rfl : os' = s.os := os
  exact ⟨v, H', I.call (h' := hh) (g' := g) (d' := d) (t' := t) (ch := []) un hok bare (fun b z => absurd z (by simp)), r, q⟩
end

/-! ### calls -/
/-- f(..): the written arguments, then the defaults dvs; E: what is wanted of an exception -/
def tCall (sp : Sp) (dvs : List V) (E : XK) (t : TA) : TE := fun σ H Q => t σ H fun vs H1 => sp (vs ++ dvs) H1 Q E
/-- C(..): a new instance and its dict, then __init__ -/
def tMake (C : Addr) (sp : Sp) (dvs : List V) (E : XK) (t : TA) : TE := fun σ H Q => t σ H fun vs H1 => ∀ x dx, H1 x = none → H1 dx = none → dx ≠ x →
  sp (.ref x :: (vs ++ dvs)) (upd (upd H1 dx (.own x)) x (.ins C dx [])) (fun v H2 => v = .non ∧ Q (.ref x) H2) E

/-- how the parameters are bound: us the positional arguments, kw the keywords' values by name, ds the defaults that fill up -/
def Binds (K : PySem.W.Frag) (fd : FuncData) (ps : List Str) (ds : List Value) : Prop :=
  ∀ (s : Shared) (us : List Value), K.In s.heap → (us ++ ds).length = ps.length → BindsTo s fd ⟨us, []⟩ (ps.zip (us ++ ds))
/-- every parameter is given -/
theorem Binds.all {K : PySem.W.Frag} {fd : FuncData} {ps : List Str} (h : ∀ us : List Value, us.length = ps.length → bindArgs fd ⟨us, []⟩ = pure (ps.zip us)) : Binds K fd ps [] := fun s us _ hl => by
  rw [List.append_nil] at hl ⊢
  exact .of_eq (h us hl)

/-- an exception of a callee reaches what this body wants of exceptions -/
def Passes (CX : CXT) (X : Cx) (E : XK) : Prop := ∀ (pins : List (Addr × Obj)) (σ : St) (H : Hp) (s : Shared) (e : Value) (s' : Shared), Inv X pins σ H s → CX X.stack H s E e s' → X.xe e s'

section
variable {X : Cx} {CX : CXT} {k : Nat} {f C : Addr} {fd : FuncData} {ps : List Str} {sp : Sp} {dvs : List V} {ds : List Value} {E : XK} {x m : Str} {p pos apos : Pos} {e o : Expr} {es : List Expr} {ta : TE} {t : TA}

/-- the callee runs -/
theorem run_fn {pins : List (Addr × Obj)} {σ : St} {H : Hp} {s : Shared} {Q : VK} {us : List Value} {vs : List V} (F : FnOk X.prog X.w X.K X.mg X.base CX k f fd ps sp) (hr : Room k X.A) (hb : Binds X.K fd ps ds) (hd : Vals dvs ds) (hx : Passes CX X E)
    (I : Inv X pins σ H s) (r : Vals vs us) (h : sp (vs ++ dvs) H Q E) : wpAny (model X.prog X.w) X.A (call (.ref f) us) (EP X pins σ Q) X.xe s := by
  have r2 : Vals (vs ++ dvs) (us ++ ds) := r.append hd
  have hl : (us ++ ds).length = ps.length := by rw [← r2.length]; exact F.len _ _ _ _ h
  refine wpAny_call (codeAny_mono (F.run X.A X.stack s H ⟨us, []⟩ (us ++ ds) (vs ++ dvs) Q E hr I.env0 (hb s us I.kIn hl) r2 h) fun r s' hq => ?_)
  cases r with
  | error e => exact hx pins σ H s e s' I hq
  | ok fl =>
    cases fl with
    | ret u => exact I.after hq
    | next => exact False.elim hq
    | brk => exact False.elim hq
    | cont => exact False.elim hq

theorem pe_call (F : FnOk X.prog X.w X.K X.mg X.base CX k f fd ps sp) (hr : Room k X.A) (hg : Gl X x) (hm : X.mg x = some (.ref f)) (hk : PySem.W.keepIn X.K (.ref f) = true) (hb : Binds X.K fd ps ds) (hd : Vals dvs ds) (hx : Passes CX X E)
    (ha : PA X (e :: es) t) (hdb : (x == ("__debug__" : Str)) = false := by decide) (he : starEach (e :: es) X.env = (false, eval e X.env) :: starEach es X.env := by rfl) (hpl : (backTo pos (starEach es X.env)).any (·.1) = false := by rfl) :
    PE X (.Call (.Name x p) (e :: es) [] pos) (tCall sp dvs E t) := by
  intro pins s σ H Q I h
  refine wpAny_Call_Name_kw (ld_glob I hg hm ?_ hdb)
  refine PySem.W.callWith_K (h₀ := X.base) I.ok.mod.kin hk (thn (ha pos pins s σ H _ I h) fun us s1 ⟨vs, H1, I1, r, q⟩ => ⟨I1.kIn, ?_⟩) he hpl
  exact run_fn F hr hb hd hx I1 r q
theorem pe_call0 (F : FnOk X.prog X.w X.K X.mg X.base CX k f fd ps sp) (hr : Room k X.A) (hg : Gl X x) (hm : X.mg x = some (.ref f)) (hk : PySem.W.keepIn X.K (.ref f) = true) (hb : Binds X.K fd ps ds) (hd : Vals dvs ds) (hx : Passes CX X E)
    (hdb : (x == ("__debug__" : Str)) = false := by decide) : PE X (.Call (.Name x p) [] [] pos) (tCall sp dvs E tNil) := by
  intro pins s σ H Q I h
  refine wpAny_Call_Name_kw (ld_glob I hg hm ?_ hdb)
  exact PySem.W.callWith_K0 I.kIn hk (run_fn (us := []) F hr hb hd hx I .nil h)

/-- what a class must have to be made -/
structure Mk (K : PySem.W.Frag) (C f : Addr) : Prop where
  makes : PySem.W.makesIn K C = true
  init : PySem.W.findIn K (.ref C) "__init__" = some (some (.ref f))
  fn : PySem.W.isFn K (.ref f) = true
  kp : PySem.W.keepIn K (.ref C) = true

theorem run_make {pins : List (Addr × Obj)} {σ : St} {H : Hp} {s : Shared} {Q : VK} {us : List Value} {vs : List V} (M : Mk X.K C f) (F : FnOk X.prog X.w X.K X.mg X.base CX k f fd ps sp) (hr : Room (k + 1) X.A) (hb : Binds X.K fd ps ds) (hd : Vals dvs ds)
    (hx : Passes CX X E) (I : Inv X pins σ H s) (r : Vals vs us)
    (h : ∀ x dx, H x = none → H dx = none → dx ≠ x → sp (.ref x :: (vs ++ dvs)) (upd (upd H dx (.own x)) x (.ins C dx [])) (fun v H2 => v = .non ∧ Q (.ref x) H2) E) :
    wpAny (model X.prog X.w) X.A (call (.ref C) us) (EP X pins σ Q) X.xe s := by
  have hq := h (s.heap.objs.size + 1) s.heap.objs.size (I.hok.fresh (Nat.le_succ _)) (I.hok.fresh (Nat.le_refl _)) (Nat.ne_of_lt (Nat.lt_succ_self _))
  have I2 := Inv.made (C := C) I
  have r2 : Vals (V.ref (s.heap.objs.size + 1) :: (vs ++ dvs)) (Value.ref (s.heap.objs.size + 1) :: (us ++ ds)) := .cons rfl (r.append hd)
  have hl : (Value.ref (s.heap.objs.size + 1) :: us ++ ds).length = ps.length := by
    have e := r2.length
    rw [F.len _ _ _ _ hq] at e
    exact e.symm
  refine wpAny_call (make_map (f := f) I.kIn M.makes M.init (beq_iff_eq.mp M.fn) (codeAny_mono (F.run _ X.stack _ _ ⟨Value.ref (s.heap.objs.size + 1) :: us, []⟩ (Value.ref (s.heap.objs.size + 1) :: (us ++ ds)) _ _ E (hr.make C us [])
    (I2.env0.make C us []) (hb _ (Value.ref (s.heap.objs.size + 1) :: us) I2.kIn hl) r2 hq) fun r s' hq' => ?_))
  cases r with
  | error e => exact hx pins σ _ _ e s' I2 hq'
  | ok fl =>
    cases fl with
    | ret u =>
      obtain ⟨v, H', I3, rv, ev, q3⟩ := I2.after hq'
      subst ev
      exact ⟨rv, ⟨V.ref (s.heap.objs.size + 1), H', I3, rfl, q3⟩⟩
    | next => exact False.elim hq'
    | brk => exact False.elim hq'
    | cont => exact False.elim hq'
theorem pe_make (M : Mk X.K C f) (F : FnOk X.prog X.w X.K X.mg X.base CX k f fd ps sp) (hr : Room (k + 1) X.A) (hg : Gl X x) (hm : X.mg x = some (.ref C)) (hb : Binds X.K fd ps ds) (hd : Vals dvs ds) (hx : Passes CX X E)
    (ha : PA X (e :: es) t) (hdb : (x == ("__debug__" : Str)) = false := by decide) (he : starEach (e :: es) X.env = (false, eval e X.env) :: starEach es X.env := by rfl) (hpl : (backTo pos (starEach es X.env)).any (·.1) = false := by rfl) :
    PE X (.Call (.Name x p) (e :: es) [] pos) (tMake C sp dvs E t) := by
  intro pins s σ H Q I h
  refine wpAny_Call_Name_kw (ld_glob I hg hm ?_ hdb)
  refine PySem.W.callWith_K (h₀ := X.base) I.ok.mod.kin M.kp (thn (ha pos pins s σ H _ I h) fun us s1 ⟨vs, H1, I1, r, q⟩ => ⟨I1.kIn, ?_⟩) he hpl
  exact run_make M F hr hb hd hx I1 r q
end

/-! ### keywords -/
section
variable {X : Cx} {CX : CXT} {k : Nat} {f C : Addr} {fd : FuncData} {ps ks : List Str} {sp : Sp} {E : XK} {x m : Str} {p pos apos kpos : Pos} {e o : Expr} {es : List Expr} {kws : List Keyword} {te ta : TE} {t tk : TA} {nm : Option Str}
variable {g : List Value → List Value → List Value} {gV : List V → List V → List V}
end

/-! ### a def's body keeps its promise -/
/-- names: the parameters first -/
structure FnScope (N P : List Str) (sc : Scope) : Prop where
  kind : sc.kind = .function
  co : sc.isCoroutine = false
  gen : sc.isGenerator = false
  nd : N.Nodup
  pre : N.take P.length = P
  par : ∀ x ∈ P, sc.names.lookup x = some .local ∨ sc.names.lookup x = some .cell
  nofree : ∀ y ∈ sc.names, y.2 ≠ .free

theorem bindL_out {kindOf : Str → Option NameKind} {x : Str} : ∀ {binds : List (Str × Value)} {m : Str → Option Value}, (∀ v, (x, v) ∉ binds) → bindL kindOf binds m x = m x
  | [], _, _ => rfl
  | (n, v) :: r, m, h => by
    unfold bindL
    rw [bindL_out fun w hw => h w (List.mem_cons_of_mem _ hw)]
    split
    · have : x ≠ n := by rintro rfl; exact h v List.mem_cons_self
      simp [this]
    · rfl
theorem bindC_out {kindOf : Str → Option NameKind} {x : Str} : ∀ {binds : List (Str × Value)} {m : Str → Option Value}, (∀ v, (x, v) ∉ binds) → bindC kindOf binds m x = m x
  | [], _, _ => rfl
  | (n, v) :: r, m, h => by
    unfold bindC
    rw [bindC_out fun w hw => h w (List.mem_cons_of_mem _ hw)]
    split
    · rfl
    · have : x ≠ n := by rintro rfl; exact h v List.mem_cons_self
      simp [this]
theorem bindL_get {kindOf : Str → Option NameKind} {x : Str} {v : Value} : ∀ {P : List Str} {vs : List Value} {i : Nat} {m : Str → Option Value}, P.Nodup → P[i]? = some x → vs[i]? = some v → kindOf x = some .local →
    bindL kindOf (P.zip vs) m x = some v
  | [], _, _, _, _, h, _, _ => by simp at h
  | _ :: _, [], _, _, _, _, h, _ => by simp at h
  | p :: P, w :: vs, 0, m, nd, h1, h2, hk => by
    simp at h1 h2; subst h1; subst h2
    show bindL kindOf ((p, w) :: P.zip vs) m p = _
    unfold bindL
    rw [bindL_out fun v hv => (List.nodup_cons.mp nd).1 (List.of_mem_zip hv).1, if_pos hk]
    simp
  | p :: P, w :: vs, i + 1, m, nd, h1, h2, hk => by
    show bindL kindOf ((p, w) :: P.zip vs) m x = _
    unfold bindL
    exact bindL_get (i := i) (List.nodup_cons.mp nd).2 (by simpa using h1) (by simpa using h2) hk
theorem bindC_get {kindOf : Str → Option NameKind} {x : Str} {v : Value} : ∀ {P : List Str} {vs : List Value} {i : Nat} {m : Str → Option Value}, P.Nodup → P[i]? = some x → vs[i]? = some v → kindOf x ≠ some .local →
    bindC kindOf (P.zip vs) m x = some v
  | [], _, _, _, _, h, _, _ => by simp at h
  | _ :: _, [], _, _, _, _, h, _ => by simp at h
  | p :: P, w :: vs, 0, m, nd, h1, h2, hk => by
    simp at h1 h2; subst h1; subst h2
    show bindC kindOf ((p, w) :: P.zip vs) m p = _
    unfold bindC
    rw [bindC_out fun v hv => (List.nodup_cons.mp nd).1 (List.of_mem_zip hv).1, if_neg hk]
    simp
  | p :: P, w :: vs, i + 1, m, nd, h1, h2, hk => by
    show bindC kindOf ((p, w) :: P.zip vs) m x = _
    unfold bindC
    exact bindC_get (i := i) (List.nodup_cons.mp nd).2 (by simpa using h1) (by simpa using h2) hk

/-- the names' values at the entry -/
def start (N : List Str) (vs : List V) : St := vs.map some ++ List.replicate (N.length - vs.length) none

/-- the context of a def's body, at its entry; an exception leaves the frame, then lies as CX says -/
def cxOf (CX : CXT) (P : Program) (w : World) (K : PySem.W.Frag) (mg : Str → Option Value) (base : Heap) (N : List Str) (qual : Str) (scope : Scope) (f : Addr) (cd : Value) (A : Around) (outer : List Env) (s : Shared) (H : Hp) (E : XK) : Cx where
  prog := P
  w := w
  K := K
  mg := mg
  base := base
  A := A.deeper (envOfC qual scope s.heap.objs.size f cd)
  N := N
  s₀ := s
  H₀ := H
  env := envOfC qual scope s.heap.objs.size f cd
  outer := outer
  stack := envOfC qual scope s.heap.objs.size f cd :: outer
  ex := []
  calm := true
  fn := fun _ => true
  pn := []
  xe := fun e s' => wpAny (model P w) (A.deeper (envOfC qual scope s.heap.objs.size f cd)) (leaving (envOfC qual scope s.heap.objs.size f cd) e) (fun _ s'' => CX outer H s E e s'') (fun e' s'' => CX outer H s E e' s'') s'

theorem cell_has {sc : Scope} {n : Nat} {x : Str} (h : sc.names.lookup x = some .cell) : ∃ c, (cellsFrom n sc.names []).lookup x = some c := by
  have q := PySem.W.cellsFrom_some sc.names n [] (.inl h)
  exact Option.isSome_iff_exists.mp q

theorem inv_start {CX : CXT} {P : Program} {w : World} {K : PySem.W.Frag} {mg : Str → Option Value} {base : Heap} {N ps : List Str} {qual : Str} {scope : Scope} {f : Addr} {cd : Value} {A : Around} {outer : List Env} {s s1 : Shared} {H : Hp} {E : XK} {us : List Value} {vs : List V}
    (S : FnScope N ps scope) (hd : A.handled = none) (e0 : Env0 P w K mg base A outer s H) (hl : vs.length = ps.length) (r : Vals vs us)
    (x : InCallC s s.heap.objs.size (bindL (envOfC qual scope s.heap.objs.size f cd).kindOf (ps.zip us) fun _ => none) (cellsFrom (s.heap.objs.size + 1) scope.names []) (bindC (envOfC qual scope s.heap.objs.size f cd).kindOf (ps.zip us) fun _ => none) s1) :
    Inv (cxOf CX P w K mg base N qual scope f cd A outer s H E) [] (start N vs) H s1 := by
  have hpl : ps.length ≤ N.length := by have := congrArg List.length S.pre; rw [List.length_take] at this; omega
  obtain ⟨h1, tk, rfl, hk⟩ := x.done
  have noA : ∀ b : Addr, b ∉ (cxOf CX P w K mg base N qual scope f cd A outer s H E).ex := fun b z => absurd (show b ∈ ([] : List Addr) from z) (by simp)
  refine ⟨⟨e0.mod, S.kind, rfl, rfl, Nat.le_refl _, fun y z c h1 h2 => ?_, fun y hy => ?_, fun y c _ h => ?_, fun _ => hd, Around.frames_deeper e0.frames, .inr ⟨rfl, rfl⟩, fun b z => absurd z (noA b), e0.bs, e0.bsz, fun b _ _ => noA b, fun b z => absurd z (noA b), e0.funs, e0.frf⟩,
    rfl, e0.bare, Un.kept hk, ⟨_, x.toInCall.ns, fun i y v h1 h2 h3 => ?_⟩, fun y c h => ⟨_, x.cell y c h⟩, e0.hok.fresh (Nat.le_refl _), fun y c h => ?_, fun p hp => absurd (show p ∈ ([] : List (Addr × Obj)) from hp) (by simp), e0.hok.kept hk, ?_⟩
  · exact name_of_addr x.apart (PySem.mem_of_lookup h1) (PySem.mem_of_lookup h2)
  · have hy : scope.names.lookup y = some .cell ∨ scope.names.lookup y = some .free := hy
    rcases hy with hy | hy
    · exact cell_has hy
    · exact absurd rfl (S.nofree _ (PySem.mem_of_lookup hy))
  · exact Nat.le_of_lt (x.above y c (PySem.mem_of_lookup h))
  · have hi : i < vs.length := by
      unfold start at h2
      by_cases hi : i < vs.length
      · exact hi
      · rw [List.getElem?_append_right (by simpa using hi)] at h2
        rw [List.getElem?_replicate] at h2
        split at h2 <;> cases h2
    have ha : vs[i]? = some v := by
      unfold start at h2
      rw [List.getElem?_append_left (by simpa using hi), List.getElem?_map] at h2
      cases e : vs[i]? with
      | none => rw [e] at h2; cases h2
      | some a => rw [e] at h2; cases h2; rfl
    obtain ⟨u, hu, rv⟩ := r.get ha
    have hp : ps[i]? = some y := by
      rw [← S.pre, List.getElem?_take_of_lt (by omega)]; exact h1
    have ndP : ps.Nodup := by rw [← S.pre]; exact S.nd.sublist (List.take_sublist _ _)
    refine ⟨u, rv, ?_⟩
    rcases S.par y (List.mem_of_getElem? hp) with k | k
    · exact .inl ⟨k, bindL_get ndP hp hu k⟩
    · obtain ⟨c, e⟩ := cell_has (n := s.heap.objs.size + 1) k
      refine .inr ⟨.inl k, c, e, ?_⟩
      have q := x.cell y c e
      rw [bindC_get ndP hp hu (by show scope.names.lookup y ≠ _; rw [k]; decide)] at q
      exact q
  · exact e0.hok.fresh (Nat.le_of_lt (x.above y c (PySem.mem_of_lookup h)))
  · unfold start
    show _ = N.length
    rw [List.length_append, List.length_map, List.length_replicate]
    omega

/-- THE RULE: a def (or a method) of the text, by its body. The body's reading t is chosen for each entry; it is run at the parameters' values -/
theorem fn_of {CX : CXT} {P : Program} {w : World} {K : PySem.W.Frag} {mg : Str → Option Value} {base : Heap} {k : Nat} {f : Addr} {name qual : Str} {params : Arguments} {body : List Stmt} {scope : Scope} {dV kV doc pm cdv ct oc : Value} {an od : Option Addr}
    {osl : Array (Option Value)} {N ps : List Str} {sp : Sp} (lk : K.lookup f = some ⟨oc, od, .func (PySem.W.fnOf name qual params body scope dV kV doc pm an cdv ct), osl⟩) (hcd : PySem.W.codeIn K cdv qual = true) (S : FnScope N ps scope)
    (len : ∀ vs H Q E, sp vs H Q E → vs.length = ps.length)
    (hbody : ∀ (A : Around) (outer : List Env) (s : Shared) (H : Hp) (vs : List V) (Q : VK) (E : XK), Room k (A.deeper (envOfC qual scope s.heap.objs.size f cdv)) → sp vs H Q E →
      ∃ t, PSs (cxOf CX P w K mg base N qual scope f cdv A outer s H E) body t ∧ t { nx := fun _ H' => Q .non H', rt := Q } (start N vs) H) :
    FnOk P w K mg base CX (k + 1) f (PySem.W.fnOf name qual params body scope dV kV doc pm an cdv ct) ps sp := by
  refine ⟨len, fun A outer s H args us vs Q E hr e0 hb r hsp => ?_⟩
  have hl := len _ _ _ _ hsp
  have KX : K.In s.heap := e0.mod.kin.keeps fun b o e => (e0.bs b o e).1
  have lim : s.heap.NoLimit := e0.mod.nolimit.keeps fun b o e => (e0.bs b o e).1
  have hkind : ∀ y ∈ ps.zip us, scope.names.lookup y.1 = some .local ∨ (scope.names.lookup y.1 = some .cell ∧ ((cellsFrom (s.heap.objs.size + 1) scope.names []).lookup y.1).isSome = true) := fun ⟨n, v⟩ hy => by
    rcases S.par n (List.of_mem_zip hy).1 with q | q
    · exact .inl q
    · exact .inr ⟨q, PySem.W.cellsFrom_some _ _ _ (.inl q)⟩
  refine codeAny_call_function hr.depth (KX _ _ lk) rfl S.co S.gen rfl (PySem.W.codeRec_of KX hcd) (hb _ _ _ _ ?_)
  refine wpAny_newFunctionEnv_cells S.kind hkind fun env he s1 x => ?_
  subst he
  refine ⟨lim.keeps x.toInCall.keep, codeAny_func ?_⟩
  obtain ⟨t, ht, hq⟩ := hbody A outer s H vs Q E (hr.deeper _) hsp
  have I : Inv (cxOf CX P w K mg base N qual scope f cdv A outer s H E) [] (start N vs) H s1 := inv_start S hr.hd e0 hl r x
  refine wpAny_mono (ht [] s1 (start N vs) H _ I hq) (fun fl s' hs => ?_) fun e s' hs => hs
  have fin : ∀ {σ' : St} {H' : Hp} {v : V} {u : Value}, Inv (cxOf CX P w K mg base N qual scope f cdv A outer s H E) [] σ' H' s' → RelV v u → Q v H' → CE outer P w H s Q u s' :=
    fun {σ' H' v u} J rv q => ⟨v, H', J.os, J.bare, J.base, J.hok, rv, q⟩
  cases fl with
  | ret u =>
    obtain ⟨v, σ', H', J, rv, q⟩ := hs
    exact fin J rv q
  | next =>
    obtain ⟨σ', H', J, q⟩ := hs
    exact fin (v := V.non) (u := Value.none) J rfl q
  | brk =>
    obtain ⟨_, _, _, q⟩ := hs
    exact False.elim q
  | cont =>
    obtain ⟨_, _, _, q⟩ := hs
    exact False.elim q
end L2

namespace L2
open PySem PySem.Spec PyProof.Rows
section
variable {X : Cx} {x : Str} {p pos : Pos} {e : Expr} {es : List Expr} {t : TA} {id T : String} {r : List V → Hp → VK → Prop}

def tCB (r : List V → Hp → VK → Prop) (t : TA) : TE := fun σ H Q => t σ H fun vs H1 => r vs H1 Q
/-- f(e, ..), f a built-in function -/
theorem pe_callB (hc : CallR X (.builtin id) r) (hg : Gl X x) (hm : X.mg x = none) (hv : bootBuiltins x = some (.builtin id)) (ha : PA X (e :: es) t) (hn : x ≠ "__name__" := by decide) (hdb : (x == ("__debug__" : Str)) = false := by decide)
    (he : starEach (e :: es) X.env = (false, eval e X.env) :: starEach es X.env := by rfl) (hpl : (backTo pos (starEach es X.env)).any (·.1) = false := by rfl) : PE X (.Call (.Name x p) (e :: es) [] pos) (tCB r t) := by
  intro pins s σ H Q I h
  refine wpAny_Call_Name_kw (ld_blt I hg hm hv ?_ hn hdb)
  exact PyProof.Rows.callWith_builtin1 (thn (ha pos pins s σ H _ I h) fun us s1 ⟨vs, H1, I1, r1, q1⟩ => hc pins s1 σ H1 vs us Q I1 r1 q1) he hpl
/-- T(e, ..), T a built-in type -/
theorem pe_callTy (hc : CallR X (.type T) r) (hg : Gl X x) (hm : X.mg x = none) (hv : bootBuiltins x = some (.type T)) (ha : PA X (e :: es) t) (hn : x ≠ "__name__" := by decide) (hdb : (x == ("__debug__" : Str)) = false := by decide)
    (he : starEach (e :: es) X.env = (false, eval e X.env) :: starEach es X.env := by rfl) (hpl : (backTo pos (starEach es X.env)).any (·.1) = false := by rfl) : PE X (.Call (.Name x p) (e :: es) [] pos) (tCB r t) := by
  intro pins s σ H Q I h
  refine wpAny_Call_Name_kw (ld_blt I hg hm hv ?_ hn hdb)
  exact PyProof.Rows.callWith_type1 (thn (ha pos pins s σ H _ I h) fun us s1 ⟨vs, H1, I1, r1, q1⟩ => hc pins s1 σ H1 vs us Q I1 r1 q1) he hpl
end
end L2

namespace HT
open PySem PyProof.Rows

section
open PySem.SeqAt
open PySem.AutoSeq1 (wpAny_loadPart')
open PySem.MeetsSeq PySem.MeetsSeq2 PySem.MeetsSeq3

end

section
variable {prog : Program} {w : World} {A : Around} {E : Value → Shared → Prop} {s : Shared}

/-! ### t[a:b], not the whole -/
/-- a slice's bound as a place among n (d where it is left out) -/
def sIx (n d : Nat) : Option Int → Nat
  | none => d
  | some v => if v < 0 then (v + (n : Int)).toNat else min v.toNat n
theorem sIx_none (n d : Nat) : sIx n d none = d := rfl
theorem sIx_nat (n d k : Nat) : sIx n d (some (k : Int)) = min k n := by
  show (if (k : Int) < 0 then ((k : Int) + (n : Int)).toNat else min (k : Int).toNat n) = min k n
  rw [if_neg (by omega), Int.toNat_natCast]
theorem sIx_le (n d : Nat) (hd : d ≤ n) (o : Option Int) : sIx n d o ≤ n := by
  cases o with
  | none => exact hd
  | some v =>
    show (if v < 0 then (v + (n : Int)).toNat else min v.toNat n) ≤ n
    by_cases hv : v < 0
    · rw [if_pos hv]; omega
    · rw [if_neg hv]; exact Nat.min_le_right _ _
theorem clip_eq (v : Int) (n d : Nat) : (if v < 0 then max (v + (n : Int)) 0 else min v (n : Int)) = ((sIx n d (some v) : Nat) : Int) := by
  show (if v < 0 then max (v + (n : Int)) 0 else min v (n : Int)) = (((if v < 0 then (v + (n : Int)).toNat else min v.toNat n) : Nat) : Int)
  by_cases hv : v < 0
  · simp only [if_pos hv]; omega
  · simp only [if_neg hv]; omega
theorem adjust_gen (lo hi : Option Int) (n : Nat) : Builtin.Slice.sliceAdjust lo hi 1 (n : Int) = (((sIx n 0 lo : Nat) : Int), ((sIx n n hi : Nat) : Int)) := by
  have h1 : ¬ ((1 : Int) < 0) := by omega
  unfold Builtin.Slice.sliceAdjust
  simp only [h1, if_false]
  refine Prod.ext ?_ ?_
  · cases lo with
    | none => rfl
    | some v => exact clip_eq v n 0
  · cases hi with
    | none => rfl
    | some v => exact clip_eq v n n
theorem places_gen (i j : Nat) : Builtin.Slice.slicePlaces (i : Int) (j : Int) 1 = j - i := by
  unfold Builtin.Slice.slicePlaces
  have h1 : (1 : Int) > 0 := by omega
  simp only [h1, if_true, Int.ediv_one]
  split <;> omega
theorem slicePart_ {v : Value} {o : Option Int} {Q : Option Int → Shared → Prop} (p : IsPart v o) (h : Q o s) : wpAny (model prog w) A (Builtin.Slice.slicePartIndex v) Q E s := by
  cases p with
  | none => exact slicePart_none h
  | int i t => exact slicePart_int h
theorem sliceApplied_gen {sl : Addr} {vl vu : Value} {lo hi : Option Int} {n : Nat} {Q : Int × Int × Nat → Shared → Prop} (hs : s.heap.IsSliceOf sl vl vu .none) (pl : IsPart vl lo) (pu : IsPart vu hi)
    (h : Q (((sIx n 0 lo : Nat) : Int), 1, sIx n n hi - sIx n 0 lo) s) : wpAny (model prog w) A (Builtin.Slice.sliceApplied (.ref sl) (pure (n : Int))) Q E s := by
  obtain ⟨os, hos, hcs, hds⟩ := id hs
  unfold Builtin.Slice.sliceApplied Builtin.Slice.sliceFields
  refine wpAny_bind (wpAny_bind (wpAny_field hos hds (x := vl) rfl (wpAny_bind (wpAny_field hos hds (x := vu) rfl (wpAny_bind (wpAny_field hos hds (x := .none) rfl (wpAny_pure ?_)))))))
  refine wpAny_bind (slicePart_none ?_)
  show wpAny _ _ (if ((1 : Int) == 0) = true then _ else _) _ _ s
  rw [if_neg (by decide)]
  refine wpAny_bind (slicePart_ pl (wpAny_bind (slicePart_ pu (wpAny_bind (wpAny_pure ?_)))))
  show wpAny _ _ (match Builtin.Slice.sliceAdjust lo hi 1 (n : Int) with | (lo, hi) => pure (lo, (1 : Int), Builtin.Slice.slicePlaces lo hi 1)) _ _ s
  rw [adjust_gen lo hi n]
  show wpAny _ _ (pure (((sIx n 0 lo : Nat) : Int), (1 : Int), Builtin.Slice.slicePlaces ((sIx n 0 lo : Nat) : Int) ((sIx n n hi : Nat) : Int) 1)) _ _ s
  rw [places_gen]
  exact wpAny_pure h
theorem pick_gen (xs : Array Value) (i k : Nat) : ((List.range k).filterMap fun (m : Nat) => xs[((i : Int) + (m : Int) * 1).toNat]?).toArray = ((xs.toList.drop i).take k).toArray := by
  have e : (fun (m : Nat) => xs[((i : Int) + (m : Int) * 1).toNat]?) = fun m => xs[i + m]? := by
    funext m
    have : ((i : Int) + (m : Int) * 1).toNat = i + m := by omega
    rw [this]
  rw [e]
  have := pick_run xs i k
  rw [List.filterMap_map] at this
  have e2 : ((fun x => xs[x]?) ∘ fun x => i + x) = fun m => xs[i + m]? := rfl
  rw [e2] at this
  rw [this]

theorem getItem_tuple_cut {t sl : Addr} {items : Array Value} {vl vu : Value} {lo hi : Option Int} {Q : Value → Shared → Prop} (ht : IsTup s.heap t items) (hs : s.heap.IsSliceOf sl vl vu .none) (pl : IsPart vl lo) (pu : IsPart vu hi)
    (hw : ¬ (sIx items.size 0 lo = 0 ∧ sIx items.size items.size hi = items.size))
    (h : Q (.ref s.heap.objs.size) { s with heap := s.heap.push { cls := .type "tuple", data := .seq ((items.toList.drop (sIx items.size 0 lo)).take (sIx items.size items.size hi - sIx items.size 0 lo)).toArray } })
    (hsz : items.size ≤ sizeLine) : wpAny (model prog w) A (getItem (.ref t) (.ref sl)) Q E s := by
  have htake : sizeOk (.seq ((items.toList.drop (sIx items.size 0 lo)).take (sIx items.size items.size hi - sIx items.size 0 lo)).toArray) := by
    show ((items.toList.drop (sIx items.size 0 lo)).take (sIx items.size items.size hi - sIx items.size 0 lo)).toArray.size ≤ sizeLine
    rw [List.size_toArray, List.length_take, List.length_drop, Array.length_toList]
    omega
  have hj : sIx items.size items.size hi ≤ items.size := sIx_le _ _ (Nat.le_refl _) hi
  obtain ⟨os, hos, hcs, hds⟩ := id hs
  have hTs : s.TypeIs (.ref sl) "slice" := ⟨os, hos, hcs⟩
  unfold getItem
  try with_reducible refine wpAny_holding ?_
  first | refine wpAny_bind (wpAny_pure ?_) | skip
  refine wpAny_bind (wpAny_sequenceKey ht.typeIs (by decide) ?_)
  refine wpAny_bind (wpAny_callSpecial?_slot (name := Str.ofString "__getitem__") ht.typeIs PyProof.Rows.slot_tuple_getitem
    (wpAny_call_entry PyProof.Rows.slot_tuple_getitem ht.typeIs entry_tuple_getitem ?_ (args_tuple_getitem _ _)))
  show wpAny _ _ (Builtin.Tuple.tupleItemsOf (.ref t) >>= _) _ _ s
  refine wpAny_bind (tupleItemsOf_ ht ?_)
  refine wpAny_bind (wpAny_typeOf hTs ?_)
  rw [if_pos (by decide)]
  refine wpAny_bind (sliceApplied_gen hs pl pu ?_)
  have hno : ¬ ((((sIx items.size 0 lo : Nat) : Int) == 0 && (1 : Int) == 1 && (sIx items.size items.size hi - sIx items.size 0 lo) == items.size) = true) := by
    intro q
    rw [Bool.and_eq_true, Bool.and_eq_true] at q
    have q1 : ((sIx items.size 0 lo : Nat) : Int) = 0 := eq_of_beq q.1.1
    have q2 : sIx items.size items.size hi - sIx items.size 0 lo = items.size := eq_of_beq q.2
    exact hw ⟨by omega, by omega⟩
  show wpAny _ _ (if (((sIx items.size 0 lo : Nat) : Int) == 0 && (1 : Int) == 1 && (sIx items.size items.size hi - sIx items.size 0 lo) == items.size) = true then _ else _) _ _ s
  rw [if_neg hno, pick_gen]
  first
    | exact wpAny_bind (m := Builtin.Tuple.tupleExact _) (wpAny_newObj_type (wpAny_pure ⟨_, rfl, wpAny_pure h⟩) htake)
    | exact wpAny_bind (m := Builtin.Tuple.tupleExact _) (wpAny_newObj_type (wpAny_bind (wpAny_pure (wpAny_pure ⟨_, rfl, wpAny_pure h⟩))) htake)
    | exact wpAny_bind (wpAny_bind (m := Builtin.Tuple.tupleExact _) (wpAny_newObj_type (wpAny_pure (wpAny_pure ⟨_, rfl, wpAny_pure h⟩)) htake))
    | exact wpAny_bind (wpAny_bind (m := Builtin.Tuple.tupleExact _) (wpAny_newObj_type (wpAny_pure ⟨_, rfl, wpAny_pure h⟩) htake))
end
end HT

namespace L2
open PySem PySem.Spec PyProof.Rows

/-! ### the parts of a slice -/
abbrev TO := St → Hp → (Option Int → Hp → Prop) → Prop
/-- a slice's part (left out, or an int) -/
def PO (X : Cx) (e : Option Expr) (t : TO) : Prop :=
  ∀ (pins : List (Addr × Obj)) (s : Shared) (σ : St) (H : Hp) (Q : Option Int → Hp → Prop), Inv X pins σ H s → t σ H Q →
    wpAny (model X.prog X.w) X.A (evalPart e X.env) (fun u s' => ∃ o H', Inv X pins σ H' s' ∧ IsPart u o ∧ Q o H') X.xe s
def tNoPart : TO := fun _ H Q => Q none H
def tPart (t : TE) : TO := fun σ H Q => t σ H fun x H1 => ∃ i, x = .int i ∧ Q (some i) H1

section
variable {X : Cx} {e : Expr} {te : TE} {lo hi : Option Expr} {tl th : TO} {pos p2 : Pos}

theorem po_none : PO X none tNoPart := by
  intro pins s σ H Q I h
  rw [evalPart_none]
  exact wpAny_pure ⟨none, H, I, .none, h⟩
theorem po_some (h : PE X e te) : PO X (some e) (tPart te) := by
  intro pins s σ H Q I hw
  rw [evalPart_some]
  refine thn (h pins s σ H _ I hw) fun u s1 ⟨x, H1, I1, r1, q1⟩ => ?_
  obtain ⟨i, rfl, q⟩ := q1
  obtain ⟨t, rfl⟩ := r1
  exact ⟨some i, H1, I1, .int i t, q⟩

/-- what a slice of a value is, by values: the slice object stands at sl -/
def SlR (X : Cx) (r : V → Option Int → Option Int → Hp → VK → Prop) : Prop :=
  ∀ (pins : List (Addr × Obj)) (s : Shared) (σ : St) (H : Hp) (x : V) (v vl vu : Value) (lo hi : Option Int) (sl : Addr) (Q : VK), Inv X pins σ H s → RelV x v → s.heap.IsSliceOf sl vl vu .none → IsPart vl lo → IsPart vu hi → r x lo hi H Q →
    ∃ T id, typeLookup (.type T) "__getitem__" = pure (some (.builtin id)) ∧ s.TypeIs v T ∧ wpAny (model X.prog X.w) X.A (getItem v (.ref sl)) (EP X pins σ Q) X.xe s
def tSl (r : V → Option Int → Option Int → Hp → VK → Prop) (te : TE) (tl th : TO) : TE := fun σ H Q => te σ H fun x H1 => tl σ H1 fun l H2 => th σ H2 fun u H3 => r x l u H3 Q
/-- a[lo:hi], any a -/
theorem pe_slice {r : V → Option Int → Option Int → Hp → VK → Prop} (hr : SlR X r) (he : PE X e te) (hl : PO X lo tl) (hu : PO X hi th) : PE X (.Subscript e (.Slice lo hi none p2) pos) (tSl r te tl th) := by
  intro pins s σ H Q I h
  refine Subscript_ (thn (he pins s σ H _ I h) fun v s1 ⟨x, H1, I1, r1, q1⟩ => ?_)
  refine wpAny_Slice (thn (hl pins s1 σ H1 _ I1 q1) fun vl s2 ⟨l, H2, I2, pl, q2⟩ => thn (hu pins s2 σ H2 _ I2 q2) fun vu s3 ⟨u, H3, I3, pu, q3⟩ => ?_)
  rw [evalPart_none]
  refine wpAny_pure ?_
  have I4 : Inv X pins σ H3 { s3 with heap := s3.heap.push { cls := .type "slice", data := .fields #[vl, vu, .none] } } := I3.kept (t' := s3.toks) fun b ob q => Heap.get?_push_of_some _ q
  obtain ⟨T, id, hT, ht, hg⟩ := hr pins { s3 with heap := s3.heap.push { cls := .type "slice", data := .fields #[vl, vu, .none] } } σ H3 x v vl vu l u s3.heap.objs.size Q I4 r1 (Heap.IsSliceOf.new ..) pl pu q3
  show wpAny (model X.prog X.w) X.A (subscriptTail e (.Slice lo hi none p2) v (.ref s3.heap.objs.size)) (EP X pins σ Q) X.xe { s3 with heap := s3.heap.push { cls := .type "slice", data := .fields #[vl, vu, .none] } }
  exact tail_any (ops := [.ref s3.heap.objs.size, v]) ht hT hg (by with_unfolding_all rfl)

/-- the items of xs[lo:hi] -/
def cutV (xs : List V) (lo hi : Option Int) : List V := (xs.drop (HT.sIx xs.length 0 lo)).take (HT.sIx xs.length xs.length hi - HT.sIx xs.length 0 lo)
theorem cutV_length (xs : List V) (lo hi : Option Int) : (cutV xs lo hi).length ≤ xs.length := by
  unfold cutV
  rw [List.length_take, List.length_drop]
  omega
/-- t[lo:hi], not the whole of it (the whole would be t itself) -/
def rSlT (K : PySem.W.Frag) : V → Option Int → Option Int → Hp → VK → Prop := fun x lo hi H Q => ∃ a xs, x = .ref a ∧ SqT K H a xs ∧
  ¬ (HT.sIx xs.length 0 lo = 0 ∧ HT.sIx xs.length xs.length hi = xs.length) ∧ ∀ p, H p = none → Q (.ref p) (upd H p (.tup (cutV xs lo hi)))
theorem sl_tup : SlR X (rSlT X.K) := by
  intro pins s σ H x v vl vu lo hi sl Q I rx hs pl pu h
  obtain ⟨a, xs, rfl, hx, hw, q⟩ := h
  cases rx
  obtain ⟨its, r, ht, hz⟩ := I.tuple hx
  have hlen : its.toArray.size = xs.length := by rw [List.size_toArray]; exact r.length.symm
  refine ⟨"tuple", _, PyProof.Rows.slot_tuple_getitem.lookup, ht.typeIs, ?_⟩
  refine HT.getItem_tuple_cut ht hs pl pu (by rw [hlen]; exact hw) ?_ (by rw [hlen]; exact hz)
  rw [hlen]
  refine ⟨.ref s.heap.objs.size, _, I.laid (t' := s.toks) (o := .tup (cutV xs lo hi)) (fun b ob q => Heap.get?_push_of_some _ q) (Nat.le_refl _) ?_, rfl, q _ (I.hok.fresh (Nat.le_refl _))⟩
  exact ⟨Nat.le_trans (cutV_length xs lo hi) hz, _, (r.drop (HT.sIx xs.length 0 lo)).take (HT.sIx xs.length xs.length hi - HT.sIx xs.length 0 lo), IsTup.new _ _⟩

/-! ### t < u, t + u -/
theorem Vals.nil_iff {xs : List V} {us : List Value} (r : Vals xs us) : us = [] ↔ xs = [] := by
  cases r with
  | nil => simp
  | cons _ _ => simp
end
end L2

namespace L2
open PySem PySem.Spec PyProof.Rows

/-! ### places -/
/-- the place that an index of any sign means -/
def ixN (n : Nat) (i : Int) : Option Nat := if 0 ≤ i then (if i < n then some i.toNat else none) else if -(n : Int) ≤ i then some (i + n).toNat else none
def atI {α : Type} (xs : List α) (i : Int) : Option α := (ixN xs.length i).bind fun j => xs[j]?
theorem ixN_seq {n : Nat} {i : Int} {j : Nat} (h : ixN n i = some j) : seqIndex? i n = some j ∧ j < n ∧ -(n : Int) ≤ i ∧ i < n := by
  unfold ixN at h
  by_cases h0 : 0 ≤ i
  · rw [if_pos h0] at h
    by_cases h1 : i < n
    · rw [if_pos h1] at h
      have e : i.toNat = j := Option.some.inj h
      exact ⟨by rw [seqIndex_of h0 h1, e], by omega, by omega, h1⟩
    · rw [if_neg h1] at h; cases h
  · rw [if_neg h0] at h
    by_cases h1 : -(n : Int) ≤ i
    · rw [if_pos h1] at h
      have e : (i + n).toNat = j := Option.some.inj h
      exact ⟨by rw [seqIndex_neg (by omega) h1, e], by omega, h1, by omega⟩
    · rw [if_neg h1] at h; cases h
theorem atI_get {α : Type} {xs : List α} {i : Int} {v : α} (h : atI xs i = some v) : ∃ j, seqIndex? i xs.length = some j ∧ xs[j]? = some v ∧ j < xs.length ∧ -(xs.length : Int) ≤ i ∧ i < xs.length := by
  unfold atI at h
  cases e : ixN xs.length i with
  | none => rw [e] at h; cases h
  | some j =>
    rw [e] at h
    obtain ⟨h1, h2, h3, h4⟩ := ixN_seq e
    exact ⟨j, h1, h, h2, h3, h4⟩
theorem atI_nat {α : Type} {xs : List α} {j : Nat} {v : α} (h : xs[j]? = some v) : atI xs (j : Int) = some v := by
  have hj : j < xs.length := (List.getElem?_eq_some_iff.mp h).1
  have e : ixN xs.length (j : Int) = some j := by
    unfold ixN
    rw [if_pos (by omega), if_pos (by omega)]; simp
  unfold atI; rw [e]; exact h
/-! ### what may be subscripted -/
/-- what stands as an index of a plain subscript -/
def PlainIx (b : Expr) : Prop := ∀ o i, subscripted b false o i = operate [o, i] (getItem o i)
/-- a subscript by values -/
def IxR (X : Cx) (r : R2) : Prop :=
  ∀ (value slice : Expr) (pins : List (Addr × Obj)) (s : Shared) (σ : St) (H : Hp) (x y : V) (v u : Value) (Q : VK), Inv X pins σ H s → RelV x v → RelV y u → r x y H Q →
    subscripted slice false v u = operate [v, u] (getItem v u) → wpAny (model X.prog X.w) X.A (subscriptTail value slice v u) (EP X pins σ Q) X.xe s
/-- a call of a builtin's method by values: the receiver, the arguments -/
def MtR (X : Cx) (id : String) (r : V → List V → Hp → VK → Prop) : Prop :=
  ∀ (pins : List (Addr × Obj)) (s : Shared) (σ : St) (H : Hp) (x : V) (xs : List V) (v : Value) (us : List Value) (Q : VK), Inv X pins σ H s → RelV x v → Vals xs us → r x xs H Q →
    wpAny (model X.prog X.w) X.A (call (.builtin id) (v :: us)) (EP X pins σ Q) X.xe s
section
variable {X : Cx} {a b : Expr} {ta tb : TE} {pos : Pos}
/-- a[b] -/
theorem pe_ix {r : R2} (hr : IxR X r) (ha : PE X a ta) (hb : PE X b tb) (hs : PlainIx b) : PE X (.Subscript a b pos) (tOp r ta tb) := by
  intro pins s σ H Q I h
  exact Subscript_ (binT ha hb I h fun v u s2 x y H2 I2 rx ry q => hr a b pins s2 σ H2 x y v u Q I2 rx ry q (hs _ _))

def rIxL (K : PySem.W.Frag) : R2 := fun x y H Q => ∃ p xs i v, x = .ref p ∧ y = .int i ∧ SqL K H p xs ∧ atI xs i = some v ∧ Q v H
def rIxT (K : PySem.W.Frag) : R2 := fun x y H Q => ∃ p xs i v, x = .ref p ∧ y = .int i ∧ SqT K H p xs ∧ atI xs i = some v ∧ Q v H
def rIxS : R2 := fun x y H Q => ∃ z i c, x = .str z ∧ y = .int i ∧ z.length ≤ sizeLine ∧ atI z.cps.toList i = some c ∧ Q (.str ⟨#[c]⟩) H
theorem ix_list : IxR X (rIxL X.K) := by
  intro value slice pins s σ H x y v u Q I rx ry h hs
  obtain ⟨p, xs, i, z, rfl, rfl, hq, he, q⟩ := h
  cases rx
  obtain ⟨t, rfl⟩ := ry
  obtain ⟨its, r, pl, hz⟩ := I.list hq
  obtain ⟨j, h1, h2, h3, h4, h5⟩ := atI_get he
  obtain ⟨w, ew, rw'⟩ := r.get h2
  have hl := r.length
  have hn := line63
  have fin : EP X pins σ Q w s := ⟨z, H, I, rw', q⟩
  by_cases h0 : 0 ≤ i
  · have hj : i.toNat = j := by
      rw [seqIndex_of h0 h5] at h1
      exact Option.some.inj h1
    exact item_listR pl.isList h0 (by omega) (by rw [hj]; simpa using ew) fin hs
  · have hj : (i + (its.toArray.size : Int)).toNat = j := by
      rw [seqIndex_neg (by omega) h4] at h1
      rw [List.size_toArray, ← hl]
      exact Option.some.inj h1
    exact subscriptTail_builtinR (x := w) pl.isList.typeIs slot_list_getitem.lookup
      (wpAny_getItem_list_neg (Q := fun r s' => r = w ∧ EP X pins σ Q r s') pl.isList (by omega) (by rw [List.size_toArray] <;> omega) (by omega) (by rw [hj]; simpa using ew) ⟨rfl, fin⟩) hs
theorem ix_tup : IxR X (rIxT X.K) := by
  intro value slice pins s σ H x y v u Q I rx ry h hs
  obtain ⟨p, xs, i, z, rfl, rfl, hq, he, q⟩ := h
  cases rx
  obtain ⟨t, rfl⟩ := ry
  obtain ⟨its, r, pl, hz⟩ := I.tuple hq
  obtain ⟨j, h1, h2, h3, h4, h5⟩ := atI_get he
  obtain ⟨w, ew, rw'⟩ := r.get h2
  have hl := r.length
  have hn := line63
  have fin : EP X pins σ Q w s := ⟨z, H, I, rw', q⟩
  exact subscriptTail_builtinR (x := w) pl.typeIs slot_tuple_getitem.lookup
    (getItem_tuple (j := j) (Q := fun r s' => r = w ∧ EP X pins σ Q r s') pl (by omega) (by omega) (by rw [List.size_toArray, ← hl]; exact h1) (by simpa using ew) ⟨rfl, fin⟩) hs
theorem ix_str : IxR X rIxS := by
  intro value slice pins s σ H x y v u Q I rx ry h hs
  obtain ⟨z, i, c, rfl, rfl, hz, he, q⟩ := h
  obtain ⟨t, rfl⟩ := rx
  obtain ⟨t', rfl⟩ := ry
  obtain ⟨j, h1, h2, h3, h4, h5⟩ := atI_get he
  have hl : z.cps.toList.length = z.length := by simp [Str.length]
  rw [hl] at h1 h4 h5
  have hn := line63
  exact tail_any (typeIs_str s z t) slot_str_getitem.lookup (getItem_str (c := c) (by
    have e1 : decide (i < -(2 ^ 63 : Int)) = false := decide_eq_false (by omega)
    have e2 : decide (i ≥ 2 ^ 63) = false := decide_eq_false (by omega)
    rw [e1, e2, Bool.or_false]) (by rw [h1]; simpa using h2) ⟨.str ⟨#[c]⟩, H, I.tok _, ⟨_, rfl⟩, q⟩) hs
/-! ### xs[i] = v, any sign -/
/-! ### slices -/
/-! ### in, not in: flat items -/
def flatV : V → Bool
  | .non => true
  | .bl _ => true
  | .int _ => true
  | .str _ => true
  | _ => false
/-- == of flat values -/
def eqV : V → V → Bool
  | .non, .non => true
  | .bl a, .bl b => a == b
  | .bl a, .int b => (if a then 1 else 0) == b
  | .int a, .bl b => a == (if b then 1 else 0)
  | .int a, .int b => a == b
  | .str a, .str b => a == b
  | _, _ => false
theorem eqAt_V {A : Around} {s : Shared} {y x : V} {u v : Value} (ry : RelV y u) (rx : RelV x v) (fy : flatV y = true) (fx : flatV x = true) : SeqAt.EqAt A s u v (eqV y x) := by
  cases y with
  | non =>
    cases ry
    cases x with
    | non => cases rx; exact SeqAt.EqAt.same _
    | bl b => cases rx; exact SeqAt.EqAt.none_bool b
    | int b => obtain ⟨t, rfl⟩ := rx; exact SeqAt.EqAt.none_int b t
    | str b => obtain ⟨t, rfl⟩ := rx; exact SeqAt.EqAt.none_str b t
    | _ => exact absurd (show false = true from fx) Bool.false_ne_true
  | bl a =>
    cases ry
    cases x with
    | non => cases rx; exact SeqAt.EqAt.bool_none a
    | bl b => cases rx; exact SeqAt.EqAt.bool_bool a b
    | int b => obtain ⟨t, rfl⟩ := rx; exact SeqAt.EqAt.bool_int a b t
    | str b => obtain ⟨t, rfl⟩ := rx; exact SeqAt.EqAt.bool_str a b t
    | _ => exact absurd (show false = true from fx) Bool.false_ne_true
  | int a =>
    obtain ⟨t', rfl⟩ := ry
    cases x with
    | non => cases rx; exact SeqAt.EqAt.int_none a t'
    | bl b => cases rx; exact SeqAt.EqAt.int_bool a t' b
    | int b => obtain ⟨t, rfl⟩ := rx; exact SeqAt.EqAt.int_int a t' b t
    | str b => obtain ⟨t, rfl⟩ := rx; exact SeqAt.EqAt.int_str a t' b t
    | _ => exact absurd (show false = true from fx) Bool.false_ne_true
  | str a =>
    obtain ⟨t', rfl⟩ := ry
    cases x with
    | non => cases rx; exact SeqAt.EqAt.str_none a t'
    | bl b => cases rx; exact SeqAt.EqAt.str_bool a t' b
    | int b => obtain ⟨t, rfl⟩ := rx; exact SeqAt.EqAt.str_int a t' b t
    | str b => obtain ⟨t, rfl⟩ := rx; exact SeqAt.EqAt.str_str a t' b t
    | _ => exact absurd (show false = true from fx) Bool.false_ne_true
  | _ => exact absurd (show false = true from fy) Bool.false_ne_true
/-- the items' answers, read off the values (a value's own answer does not lean on its token) -/
def eqU (x : V) (u : Value) : Bool := match u with
  | .none => eqV .non x
  | .bool b => eqV (.bl b) x
  | .int i _ => eqV (.int i) x
  | .str z _ => eqV (.str z) x
  | _ => false
theorem eqU_of {x y : V} {u : Value} (r : RelV y u) (f : flatV y = true) : eqU x u = eqV y x := by
  cases y with
  | non => cases r; rfl
  | bl b => cases r; rfl
  | int i => obtain ⟨t, rfl⟩ := r; rfl
  | str z => obtain ⟨t, rfl⟩ := r; rfl
  | _ => exact absurd (show false = true from f) Bool.false_ne_true
theorem any_eqU {x : V} : ∀ {xs : List V} {us : List Value}, Vals xs us → xs.all flatV = true → us.any (eqU x) = xs.any fun y => eqV y x
  | _, _, .nil, _ => rfl
  | y :: xs, u :: us, .cons r t, f => by
    rw [List.all_cons, Bool.and_eq_true] at f
    rw [List.any_cons, List.any_cons, eqU_of r f.1, any_eqU t f.2]
theorem mem_eqAt {A : Around} {s : Shared} {x : V} {v : Value} (rx : RelV x v) (fx : flatV x = true) : ∀ {xs : List V} {us : List Value}, Vals xs us → xs.all flatV = true → ∀ u ∈ us, SeqAt.EqAt A s u v (eqU x u)
  | _, _, .nil, _ => fun u hu => by cases hu
  | y :: xs, u :: us, .cons r t, f => fun u' hu => by
    rw [List.all_cons, Bool.and_eq_true] at f
    rcases List.mem_cons.mp hu with rfl | hu
    · rw [eqU_of r f.1]; exact eqAt_V r rx f.1 fx
    · exact mem_eqAt rx fx t f.2 u' hu
def inV (x : V) (xs : List V) : Bool := xs.any fun y => eqV y x
/-- x in a list or tuple of flat items -/
def rIn (K : PySem.W.Frag) (neg : Bool) : R2 := fun x y H Q => ∃ p xs, y = .ref p ∧ (SqL K H p xs ∨ SqT K H p xs) ∧ flatV x = true ∧ xs.all flatV = true ∧ Q (.bl (if neg then !inV x xs else inV x xs)) H
theorem op_in_seq : OpR X (compareOp .In) (rIn X.K false) := by
  intro pins s σ H x y v u Q I rx ry h
  obtain ⟨p, xs, rfl, hq, fx, fs, q⟩ := h
  cases ry
  rcases hq with hq | hq
  · obtain ⟨its, r, pl, hz⟩ := I.list hq
    refine SeqAt.in_listAt (eqU x) pl.isList (fun w hw => mem_eqAt rx fx r fs w (by simpa using hw)) ⟨.bl _, H, I, rfl, ?_⟩
    rw [show its.toArray.any (eqU x) = its.any (eqU x) by simp, any_eqU r fs]
    exact q
  · obtain ⟨its, r, pl, hz⟩ := I.tuple hq
    refine SeqAt.in_tupleAt (eqU x) pl (fun w hw => mem_eqAt rx fx r fs w (by simpa using hw)) ⟨.bl _, H, I, rfl, ?_⟩
    rw [show its.toArray.any (eqU x) = its.any (eqU x) by simp, any_eqU r fs]
    exact q
/-! ### len, list(x), tuple(x) of any list or tuple that is read -/
theorem call_len_seq : CallR X (.builtin "len") (fun xs H Q => ∃ p ys, xs = [.ref p] ∧ (SqL X.K H p ys ∨ SqT X.K H p ys) ∧ Q (.int ys.length) H) := by
  intro pins s σ H xs us Q I r h
  obtain ⟨p, ys, rfl, hq, q⟩ := h
  obtain ⟨u, rfl, rx⟩ := vals1 r
  cases rx
  have hn := line63
  rcases hq with hq | hq
  · obtain ⟨its, r', pl, hz⟩ := I.list hq
    have hlen := r'.length
    exact Calls.call_len_list pl.isList (by simp only [List.size_toArray] <;> omega) ⟨.int ys.length, H, I.tok _, ⟨s.toks + 1, by rw [List.size_toArray, hlen]⟩, q⟩
  · obtain ⟨its, r', pl, hz⟩ := I.tuple hq
    have hlen := r'.length
    exact len_tuple pl (by simp only [List.size_toArray] <;> omega) ⟨.int ys.length, H, I.tok _, ⟨s.toks + 1, by rw [List.size_toArray, hlen]⟩, q⟩
theorem CallR.or {f : Value} {r r' : List V → Hp → VK → Prop} (h : CallR X f r) (h' : CallR X f r') : CallR X f (fun xs H Q => r xs H Q ∨ r' xs H Q) := by
  intro pins s σ H xs us Q I rs q
  rcases q with q | q
  · exact h pins s σ H xs us Q I rs q
  · exact h' pins s σ H xs us Q I rs q
/-! ### the call of a builtin's method: o.m(..) -/
/-- the value is of that builtin type -/
def tyV (K : PySem.W.Frag) (T : String) (x : V) (H : Hp) : Prop := match x with
  | .str _ => T = "str"
  | .int _ => T = "int"
  | .ref p => (T = "list" ∧ ∃ xs, SqL K H p xs) ∨ (T = "tuple" ∧ ∃ o, K.lookup p = some o ∧ o.cls = .type "tuple" ∧ o.dict = none) ∨
      (T = "dict" ∧ ((∃ kvs, H p = some (.dK kvs)) ∨ ∃ kvs, H p = some (.dT kvs))) ∨ (T = "set" ∧ ∃ S n, H p = some (.set S n))
  | _ => False
theorem tyV_is {pins : List (Addr × Obj)} {σ : St} {H : Hp} {s : Shared} {T : String} {x : V} {v : Value} (I : Inv X pins σ H s) (r : RelV x v) (ty : tyV X.K T x H) :
    s.TypeIs v T ∧ ∀ a, v = .ref a → ∃ ob, s.heap.get? a = some ob ∧ ob.dict = none := by
  cases x with
  | str z =>
    obtain ⟨t, rfl⟩ := r
    cases (show T = "str" from ty)
    exact ⟨typeIs_str s z t, fun _ e => nomatch e⟩
  | int i =>
    obtain ⟨t, rfl⟩ := r
    cases (show T = "int" from ty)
    exact ⟨typeIs_int s i t, fun _ e => nomatch e⟩
  | ref p =>
    cases r
    rcases ty with ⟨rfl, xs, hq⟩ | ⟨rfl, o, hk, hc, hd⟩ | ⟨rfl, hk⟩ | ⟨rfl, S, n, hk⟩
    · obtain ⟨its, _, pl, _⟩ := I.list hq
      refine ⟨pl.isList.typeIs, fun a e => ?_⟩
      cases e
      obtain ⟨o, n, e, c, hd, _⟩ := pl
      exact ⟨o, e, hd⟩
    · refine ⟨⟨o, I.kIn p o hk, hc⟩, fun a e => ?_⟩
      cases e
      exact ⟨o, I.kIn _ o hk, hd⟩
    · have z : ∃ o, s.heap.get? p = some o ∧ o.ExactDict := by
        rcases hk with ⟨kvs, hk⟩ | ⟨kvs, hk⟩
        · obtain ⟨_, _, _, _, o, _, _, e, ex, _⟩ := I.hok p _ hk
          exact ⟨o, e, ex⟩
        · obtain ⟨_, _, _, _, o, _, _, e, ex, _⟩ := I.hok p _ hk
          exact ⟨o, e, ex⟩
      obtain ⟨o, e, ex⟩ := z
      refine ⟨⟨o, e, ex.1⟩, fun a e2 => ?_⟩
      cases e2
      exact ⟨o, e, ex.2.1⟩
    · obtain ⟨o, _, _, _, e, ex, _⟩ := I.hok p _ hk
      refine ⟨⟨o, e, ex.1⟩, fun a e2 => ?_⟩
      cases e2
      exact ⟨o, e, ex.2.1⟩
  | _ => exact False.elim ty
def tBM0 (K : PySem.W.Frag) (T : String) (r : V → List V → Hp → VK → Prop) (to : TE) : TE := fun σ H Q => to σ H fun x H1 => tyV K T x H1 ∧ r x [] H1 Q
def tBM (K : PySem.W.Frag) (T : String) (r : V → List V → Hp → VK → Prop) (to : TE) (t : TA) : TE := fun σ H Q => to σ H fun x H1 => tyV K T x H1 ∧ t σ H1 fun xs H2 => r x xs H2 Q
variable {o e : Expr} {es : List Expr} {to : TE} {t : TA} {name : Str} {apos cpos : Pos} {T id : String} {r : V → List V → Hp → VK → Prop}
theorem pe_bm0 (pa : PlainAttrs T) (slot : Slot T name id) (hty : typeOf (.builtin id) = pure (.type "method_descriptor")) (hm : MtR X id r) (ho : PE X o to)
    (hbase : attributeBase o name X.env (eval o X.env) = eval o X.env := by rfl) (hline : (apos.endLine == cpos.line) = true := by rfl) : PE X (.Call (.Attribute o name apos) [] [] cpos) (tBM0 X.K T r to) := by
  intro pins s σ H Q I h
  refine wpAny_Call_method0_late hbase hline (thn (ho pins s σ H _ I h) fun v s1 ⟨x, H1, I1, r1, ty, q1⟩ => ?_)
  obtain ⟨h1, h2⟩ := tyV_is I1 r1 ty
  exact ⟨T, id, pa, slot, hty, h1, h2, Calls.callWith_builtin rfl (PySem.evalArgs_none (hm pins s1 σ H1 x [] v [] Q I1 r1 .nil q1))⟩
theorem pe_bm (pa : PlainAttrs T) (slot : Slot T name id) (hty : typeOf (.builtin id) = pure (.type "method_descriptor")) (hm : MtR X id r) (ho : PE X o to) (ha : PA X (e :: es) t)
    (hbase : attributeBase o name X.env (eval o X.env) = eval o X.env := by rfl)
    (hfew : ((backTo cpos (starEach (e :: es) X.env)).all (fun x => !x.1) && (backToKw cpos (keywordEach [] X.env)).all (fun x => x.1.isSome)
      && decide ((e :: es).length + ([] : List Keyword).length + (if ([] : List Keyword).isEmpty then 0 else 1) < 30)) = true := by rfl)
    (hline : (apos.endLine == cpos.line) = true := by rfl) (hs : starEach (e :: es) X.env = (false, eval e X.env) :: starEach es X.env := by rfl) (hplain : (backTo cpos (starEach es X.env)).any (·.1) = false := by rfl) :
    PE X (.Call (.Attribute o name apos) (e :: es) [] cpos) (tBM X.K T r to t) := by
  intro pins s σ H Q I h
  refine wpAny_Call_method_late hbase hfew hline rfl (thn (ho pins s σ H _ I h) fun v s1 ⟨x, H1, I1, r1, ty, q1⟩ => ?_)
  obtain ⟨h1, h2⟩ := tyV_is I1 r1 ty
  refine ⟨T, id, pa, slot, hty, h1, h2, ?_⟩
  have hA := ha cpos pins s1 σ H1 _ I1 q1
  rw [hs] at hA ⊢
  refine Calls.callWith_builtin (by show (false || (backTo cpos (starEach es X.env)).any (·.1)) = false; rw [hplain] <;> rfl) (Calls.evalArgs_plain ?_)
  exact thn hA fun us s2 ⟨vs, H2, I2, r2, q2⟩ => hm pins s2 σ H2 x vs v us Q I2 r1 r2 q2
/- xs.append(e), list.index on a module's tuple .. are MtR facts of 06m -/
end
end L2

namespace L2
open PySem PySem.Spec PyProof.Rows

def MtM (X : Cx) (id : String) (r : V → List V → Hp → VK → Prop) : Prop :=
  ∀ (pins : List (Addr × Obj)) (s : Shared) (σ : St) (H : Hp) (x : V) (xs : List V) (v : Value) (us : List Value) (Q : VK), Inv X pins σ H s → RelV x v → Vals xs us → r x xs H Q →
    wpAny (model X.prog X.w) X.A (call (.builtin id) (v :: us)) (EP X pins σ Q) X.xe s

/-! ### lists of values -/
theorem Vals.one : ∀ {x : V} {us : List Value}, Vals [x] us → ∃ u, us = [u] ∧ RelV x u
  | _, _, .cons r .nil => ⟨_, rfl, r⟩
theorem Vals.zero : ∀ {us : List Value}, Vals [] us → us = []
  | _, .nil => rfl
theorem Vals.dropLast {xs : List V} {us : List Value} (h : Vals xs us) : Vals xs.dropLast us.dropLast := by
  induction h with
  | nil => exact .nil
  | cons r t ih =>
    cases t with
    | nil => exact .nil
    | cons q t' => exact .cons r ih
theorem Vals.eraseIdx : ∀ {xs : List V} {us : List Value} (i : Nat), Vals xs us → Vals (xs.eraseIdx i) (us.eraseIdx i)
  | _, _, _, .nil => .nil
  | _, _, 0, .cons _ t => t
  | _, _, i + 1, .cons r t => .cons r (Vals.eraseIdx i t)
theorem erase_last {α : Type} (l : List α) : l.eraseIdx (l.length - 1) = l.dropLast := by
  induction l with
  | nil => rfl
  | cons a r ih =>
    cases r with
    | nil => rfl
    | cons b r =>
      have e : (a :: b :: r).length - 1 = ((b :: r).length - 1) + 1 := by
        have h1 : (a :: b :: r).length = r.length + 2 := rfl
        have h2 : (b :: r).length = r.length + 1 := rfl
        omega
      rw [e, List.eraseIdx_cons_succ, ih]
      all_goals rfl
theorem len_erase {α : Type} : ∀ (l : List α) (i : Nat), (l.eraseIdx i).length ≤ l.length
  | [], _ => Nat.le_refl _
  | _ :: _, 0 => Nat.le_succ _
  | _ :: r, i + 1 => Nat.succ_le_succ (len_erase r i)
section
variable {X : Cx} {pins : List (Addr × Obj)} {σ : St} {H : Hp} {s : Shared} {l b : Addr} {xs ys zs : List V}

/-! ### the two steps: a tracked list is rewritten, a new list is laid -/
theorem Inv.lset {its its' : List Value} {n : Nat} {f : Array Value → Array Value} {t' : Nat} (I : Inv X pins σ H s) (hH : H l = some (.lst xs))
    (e : s.heap.get? l = some { cls := .type "list", data := .seq its.toArray n }) (hf : f its.toArray = its'.toArray) (hv : Vals ys its') (hz : ys.length ≤ sizeLine) :
    Inv X pins σ (upd H l (.lst ys)) { s with heap := s.heap.update l (Obj.mapSeq f), toks := t' } := by
  have q := PySem.IsL.update e f
  rw [hf] at q
  refine I.write (x := l) (e := l) (by rw [hH]; exact trivial) (.inl rfl) (fun b' u hb hu => (Heap.get?_update_other s.heap (Obj.mapSeq f) (Ne.symm hb)).trans hu) ⟨_, q⟩ ?_
  exact ⟨hz, its', _, hv, q⟩
theorem Inv.lnew {its : List Value} {t' : Nat} (I : Inv X pins σ H s) (hv : Vals ys its) (hz : ys.length ≤ sizeLine) :
    Inv X pins σ (upd H s.heap.objs.size (.lst ys)) { s with heap := s.heap.push { cls := .type "list", data := .seq its.toArray }, toks := t' } :=
  I.laid (fun _ _ q => Heap.get?_push_of_some _ q) (Nat.le_refl _) ⟨hz, its, 0, hv, Heap.get?_push_size _ rfl⟩
theorem Inv.fresh (I : Inv X pins σ H s) : H s.heap.objs.size = none := I.hok.fresh (Nat.le_refl _)
theorem Inv.lstM (I : Inv X pins σ H s) (hH : H l = some (.lst xs)) : xs.length ≤ sizeLine ∧ ∃ (its : List Value) (n : Nat), Vals xs its ∧ xs.length = its.length ∧ s.heap.get? l = some { cls := .type "list", data := .seq its.toArray n } := by
  obtain ⟨z, its, n, r, e⟩ := I.hok l _ hH
  exact ⟨z, its, n, r, r.length, e⟩

theorem notLongL {n : Nat} (h : n ≤ sizeLine) : Builtin.List.listTooLong n = false := by
  unfold Builtin.List.listTooLong
  exact decide_eq_false (by omega)
end

section
variable {X : Cx}

/-! ### methods -/
def rAppend : V → List V → Hp → VK → Prop := fun x vs H Q => ∃ l xs y, x = .ref l ∧ vs = [y] ∧ H l = some (.lst xs) ∧ xs.length < sizeLine ∧ Q .non (upd H l (.lst (xs ++ [y])))
theorem mt_append : MtM X "list.append" rAppend := by
  intro pins s σ H x vs v us Q I rx rv h
  obtain ⟨l, xs, y, rfl, rfl, hH, hz, q⟩ := h
  cases rx
  obtain ⟨u, rfl, ru⟩ := rv.one
  obtain ⟨z, its, n, r, hl, e⟩ := I.lstM hH
  refine call_meets F.slot_list_append ⟨_, e, rfl⟩ F.entry_list_append (F.args_list_append_2 _ _) (PySem.list_append l its.toArray n u (by rw [List.size_toArray]; omega)) ⟨e, ?_⟩
  refine ⟨.non, _, I.lset (its' := its ++ [u]) hH e (by simp) (r.append (.cons ru .nil)) ?_, rfl, q⟩
  rw [List.length_append, List.length_singleton]
  omega

def rExtend : V → List V → Hp → VK → Prop := fun x vs H Q => ∃ l b xs zs, x = .ref l ∧ vs = [.ref b] ∧ H l = some (.lst xs) ∧ H b = some (.lst zs) ∧ xs.length + zs.length ≤ sizeLine ∧ Q .non (upd H l (.lst (xs ++ zs)))
theorem mt_extend : MtM X "list.extend" rExtend := by
  intro pins s σ H x vs v us Q I rx rv h
  obtain ⟨l, b, xs, zs, rfl, rfl, hH, hB, hz, q⟩ := h
  cases rx
  obtain ⟨u, rfl, ru⟩ := rv.one
  cases ru
  obtain ⟨z, its, n, r, hl, e⟩ := I.lstM hH
  obtain ⟨z2, its2, n2, r2, hl2, e2⟩ := I.lstM hB
  have hsz : its.toArray.size + its2.toArray.size ≤ sizeLine := by rw [List.size_toArray, List.size_toArray]; omega
  have hlong : ¬ (!its.toArray.isEmpty && Builtin.List.listTooLong (its.toArray.size + its2.toArray.size)) = true := by
    rw [notLongL hsz, Bool.and_false]
    exact Bool.false_ne_true
  refine call_meets F.slot_list_extend ⟨_, e, rfl⟩ F.entry_list_extend (F.args_list_extend_2 _ _)
    (AutoSeq1.list_extend_list_list_0 l its.toArray n b its2.toArray n2 hlong (by rw [List.size_toArray]; omega) (by omega)) ⟨e, e2, ?_⟩
  refine ⟨.non, _, I.lset (its' := its ++ its2) hH e (by simp) (r.append r2) ?_, rfl, q⟩
  rw [List.length_append]
  omega

def rPop : V → List V → Hp → VK → Prop := fun x vs H Q => ∃ l xs y, x = .ref l ∧ vs = [] ∧ H l = some (.lst xs) ∧ xs[xs.length - 1]? = some y ∧ Q y (upd H l (.lst xs.dropLast))
theorem mt_pop : MtM X "list.pop" rPop := by
  intro pins s σ H x vs v us Q I rx rv h
  obtain ⟨l, xs, y, rfl, rfl, hH, hy, q⟩ := h
  cases rx
  have hus := rv.zero
  subst hus
  obtain ⟨z, its, n, r, hl, e⟩ := I.lstM hH
  obtain ⟨u, hu, ru⟩ := r.get hy
  have hy' : its.toArray[its.toArray.size - 1]? = some u := by
    show its.toArray[its.length - 1]? = some u
    rw [← Array.getElem?_toList, ← hl]
    exact hu
  refine call_meets F.slot_list_pop ⟨_, e, rfl⟩ F.entry_list_pop (F.args_list_pop_1 _) (MeetsSeq.list_pop_last l its.toArray n u hy' (by rw [List.size_toArray]; omega)) ⟨e, ?_⟩
  refine ⟨y, _, I.lset (its' := its.dropLast) hH e ?_ r.dropLast ?_, ru, q⟩
  · show its.toArray.eraseIdxIfInBounds (its.toArray.size - 1) = its.dropLast.toArray
    rw [List.size_toArray, List.eraseIdxIfInBounds_toArray, erase_last]
  · rw [List.length_dropLast]
    omega

def rPopAt : V → List V → Hp → VK → Prop := fun x vs H Q => ∃ l xs i k y, x = .ref l ∧ vs = [.int i] ∧ H l = some (.lst xs) ∧ -(2 ^ 63) ≤ i ∧ i < 2 ^ 63 ∧ seqIndex? i xs.length = some k ∧ xs[k]? = some y ∧ Q y (upd H l (.lst (xs.eraseIdx k)))
theorem mt_popAt : MtM X "list.pop" rPopAt := by
  intro pins s σ H x vs v us Q I rx rv h
  obtain ⟨l, xs, i, k, y, rfl, rfl, hH, h1, h2, hk, hy, q⟩ := h
  cases rx
  obtain ⟨u, rfl, ru⟩ := rv.one
  obtain ⟨t, rfl⟩ := ru
  obtain ⟨z, its, n, r, hl, e⟩ := I.lstM hH
  obtain ⟨w, hw, rw'⟩ := r.get hy
  refine call_meets F.slot_list_pop ⟨_, e, rfl⟩ F.entry_list_pop (F.args_list_pop_2 _ _)
    (MeetsSeq.list_pop_at l its.toArray n i t k w (fitsIndex_both h1 h2) (by rw [List.size_toArray, ← hl]; exact hk) (by rw [← Array.getElem?_toList]; exact hw) (by rw [List.size_toArray]; omega)) ⟨e, ?_⟩
  refine ⟨y, _, I.lset (its' := its.eraseIdx k) hH e ?_ (r.eraseIdx k) ?_, rw', q⟩
  · show its.toArray.eraseIdxIfInBounds k = (its.eraseIdx k).toArray
    rw [List.eraseIdxIfInBounds_toArray]
  · have := len_erase xs k
    omega

def rClear : V → List V → Hp → VK → Prop := fun x vs H Q => ∃ l xs, x = .ref l ∧ vs = [] ∧ H l = some (.lst xs) ∧ Q .non (upd H l (.lst []))
theorem mt_clear : MtM X "list.clear" rClear := by
  intro pins s σ H x vs v us Q I rx rv h
  obtain ⟨l, xs, rfl, rfl, hH, q⟩ := h
  cases rx
  have hus := rv.zero
  subst hus
  obtain ⟨z, its, n, r, hl, e⟩ := I.lstM hH
  refine call_meets F.slot_list_clear ⟨_, e, rfl⟩ F.entry_list_clear (F.args_list_clear_1 _) (AutoSeq1.list_clear_list_0 l its.toArray n (by rw [List.size_toArray]; omega)) ⟨e, ?_⟩
  exact ⟨.non, _, I.lset (its' := []) (ys := []) hH e rfl .nil (Nat.zero_le _), rfl, q⟩

/-! ### list + list, list += list, list * int -/
def rCat : R2 := fun x y H Q => ∃ l b xs zs, x = .ref l ∧ y = .ref b ∧ H l = some (.lst xs) ∧ H b = some (.lst zs) ∧ xs.length + zs.length ≤ sizeLine ∧ ∀ p, H p = none → Q (.ref p) (upd H p (.lst (xs ++ zs)))
theorem op_cat : OpR X (binaryOp .Add) rCat := by
  intro pins s σ H x y v u Q I rx ry h
  obtain ⟨l, b, xs, zs, rfl, rfl, hH, hB, hz, q⟩ := h
  cases rx
  cases ry
  obtain ⟨z, its, n, r, hl, e⟩ := I.lstM hH
  obtain ⟨z2, its2, n2, r2, hl2, e2⟩ := I.lstM hB
  refine PySem.P.add_list e e2 ?_ (by rw [List.size_toArray, List.size_toArray]; omega)
  have ea : its.toArray ++ its2.toArray = (its ++ its2).toArray := by simp
  rw [ea]
  exact ⟨.ref _, _, I.lnew (t' := s.toks) (r.append r2) (by rw [List.length_append]; omega), rfl, q _ I.fresh⟩
/-! ### del xs[i] -/
end

/-! ### xs[a:b] = ys -/
section
variable {prog : Program} {w : World} {A : Around} {E : Value → Shared → Prop} {s : Shared}
set_option maxRecDepth 100000 in
end

section
variable {X : Cx}
end
end L2

namespace L2
open PySem PySem.Spec PyProof.Rows

/-! ### lists of pairs as tables -/
section
variable {κ : Type} [DecidableEq κ]
end


/-! ### a tracked dict, its keys ints and texts or tuples of these -/
section
variable {P : Program} {w : World} {H : Hp} {h : Heap} {a : Addr}
end

section
variable {X : Cx} {pins : List (Addr × Obj)} {σ : St} {H : Hp} {s : Shared} {a : Addr} {y v : V} {u r : Value} {o : Option V} {A : Around} {E : Value → Shared → Prop}

end

section
variable {X : Cx} {pins : List (Addr × Obj)} {σ : St} {H : Hp} {s : Shared} {a : Addr} {kvs : List (Key × V)} {k : Key} {u : Value} {A : Around} {E : Value → Shared → Prop}
end


/-! ### readings and rules -/
section
variable {X : Cx} {o i e value : Expr} {pos pos' tpos : Pos} {td ty tv : TE}
end


/-! ### displays -/
section
variable {X : Cx} {pos : Pos}
end

/-! ### methods -/
section
variable {X : Cx} {pins : List (Addr × Obj)} {σ : St} {H : Hp} {s : Shared} {a : Addr} {y d : V} {u r : Value} {o : Option V} {A : Around} {E : Value → Shared → Prop}
end

section
variable {X : Cx} {o e f : Expr} {apos cpos : Pos} {td ty tx : TE}
end

/-! ### dict(d): a copy -/
section
variable {X : Cx} {pins : List (Addr × Obj)} {σ : St} {H : Hp} {s : Shared} {a : Addr} {kvs : List (Key × V)} {A : Around} {E : Value → Shared → Prop}
end


section
variable {X : Cx} {pins : List (Addr × Obj)} {σ : St} {H : Hp} {s : Shared} {a : Addr} {y : V} {u : Value} {A : Around} {E : Value → Shared → Prop}
end
end L2

namespace Att
open PySem PySem.W PySem.Calls PyProof.Rows

/-! ### the script -/
theorem ints_of_wellAll {P : Params} {h : Heap} : ∀ (ns : List Int) (vs : List Value), WellAll P h vs (ns.map WData.int) → IntsAre vs ns := by
  intro ns
  induction ns with
  | nil =>
    intro vs w
    rw [List.map_nil] at w
    cases w
    exact .nil
  | cons n ns ih =>
    intro vs w
    rw [List.map_cons] at w
    cases w with
    | cons a b =>
      cases a
      exact .cons _ _ (ih _ b)

theorem script_of {l : OpenLaw} {n : Nat} (hn : l.most = some n) {P : Params} {h : Heap} {args : List WData} {vals : List Value}
    (hpre : l.row.toRowW.claim.pre args = true) (hwl : WellAll P h vals args) :
    ∃ a vs ns, vals = [Value.ref a] ∧ args = [WData.list (ns.map WData.int)] ∧ h.get? a = some { cls := .type "list", data := .seq vs.toArray } ∧ IntsAre vs ns ∧ ns.length ≤ n := by
  have hsh : WShape.hasAll [] args [.list .int] = true := (pre_splitW hpre).1
  have hc : l.pre.holds [] { args := args } = true := (pre_splitW hpre).2
  obtain ⟨d, r, rfl, h1, h2⟩ := hasAllW_cons hsh
  obtain rfl := hasAllW_nil h2
  obtain ⟨xs, rfl, h3⟩ := hasW_list h1
  obtain ⟨ns, rfl⟩ := items_int h3
  have hlen : ns.length ≤ n := by
    unfold OpenLaw.pre at hc
    have h4 : (WTm.not (.lt (.lit (.int (n : Int))) (.len (.arg 0)))).holds [] { args := [.list (ns.map .int)] } = true := by
      have h4 := (holds_andW hc).1
      rw [hn] at h4
      exact h4
    have h5 := condW_of h4 (w_not (w_lt w_lit (w_len_list (w_arg rfl))))
    rw [List.length_map] at h5
    refine Nat.le_of_not_lt fun q => ?_
    have q' : (n : Int) < ((ns.length : Nat) : Int) := by omega
    first
      | (rw [decide_eq_true q'] at h5; exact absurd h5 (by decide))
      | (simp at h5; omega)
  cases hwl with
  | cons w1 w2 =>
    cases w2
    cases w1 with
    | list ho hall => exact ⟨_, _, ns, rfl, rfl, ho, ints_of_wellAll ns _ hall, hlen⟩

theorem post_true (l : OpenLaw) (args : List WData) : l.row.toRowW.claim.post args (.bool true) args = true :=
  postW_of (r := l.row.toRowW) (X := (true == true))
    (show WShape.has [] (.bool true) .bool = true by first | rfl | decide | simp [WShape.has, WShape.arms, WShape.armsAll])
    (show (WTm.eq .res (.lit (.bool true))).value [] { args := args, res := some (.bool true), after := args } = some (.bool (true == true)) from w_eq_bool (w_res rfl) w_lit) rfl

/-! ### the attachment: holds_open's last premise (the goal 'hc' behind k_head) from a wpAny of the law's body -/
/-- the same from a codeAny of the CALL (for a layer whose function contracts speak of calls) -/
theorem attach_call {l : OpenLaw} {n : Nat} {q : Program} {loose : List Str} {XP : (Str → Option Value) → Heap → Prop} {YP : World → Heap → Prop} {d : DefRec}
    (hn : l.most = some n) (hdf : d.params.defaults = [])
    (call : ∀ (w : World) (s₀ s₁ : Shared) (mg mb : Str → Option Value) (fa : Addr) (o : Obj) (pm cd doc : Value) (a : Addr) (vs : List Value) (ns : List Int),
      Ground q loose [] XP w s₀ mg mb s₁.heap → YP w s₁.heap →
      s₁.heap.get? fa = some o → o.data = .func (docDef d.name d.params d.body d.scope pm cd doc) → s₁.heap.CodeRec cd d.name → mg d.name = some (.ref fa) →
      s₁.heap.get? a = some { cls := .type "list", data := .seq vs.toArray } → IntsAre vs ns → ns.length ≤ n → s₁.gens = #[] →
      codeAny (model l.prog w) callerA (.call (.ref fa) ⟨[.ref a], []⟩) (fun r s' => r = .ok (.ret (.bool true)) ∧ OldK s₁.heap s'.heap ∧ s'.os = s₁.os ∧ AllBare s'.gens) s₁) :
    WalkO q loose XP YP l.row.toRowW d [] (fun f vs => PySem.call f vs) := by
  intro w s₀ s₁ mg mb G Y fa o pm cd doc dV kV ho hd hcd hD hmg hg args vals as hpre hlay hrd hwl hlo
  obtain rfl : dV = .none := Dflts.none hD hdf
  obtain rfl : kV = .none := Dflts.noKw hD
  obtain ⟨a, vs, ns, rfl, rfl, hobj, hints, hlen⟩ := script_of hn hpre hwl
  refine enter_call (codeAny_mono (call w s₀ s₁ mg mb fa o pm cd doc a vs ns G Y ho (fd_plain hd) hcd hmg hobj hints hlen hg) fun r s' hq => ?_)
  obtain ⟨rfl, h2, h3, h4⟩ := hq
  exact ⟨.inl ⟨.bool true, .bool true, [], rfl, fun _ => rfl, .bool true, post_true l _, fun _ => ⟨List.Pairwise.nil, fun _ hm => (nomatch hm)⟩⟩, h2, h3, h4⟩

/-! ### rules over ANY heap (no ledger) from facts about the written part K: the library's own take a ledger (News) for what they write -/
section
variable {prog : Program} {w : World} {A : Around} {E : Value → Shared → Prop} {s : Shared} {K : Frag}

/-! the whole heap as the ledger: makes every rule that writes through a ledger a rule over any heap -/
end
end Att

namespace L2
open PySem PySem.Spec PyProof.Rows

theorem vals_ints : ∀ {vs : List Value} {ns : List Int}, IntsAre vs ns → Vals (ns.map V.int) vs
  | _, _, .nil => .nil
  | _, _, .cons n t h => .cons ⟨t, rfl⟩ (vals_ints h)

/-- nothing is tracked but the script, known to the object (or it is an object of the module) -/
def Only (H : Hp) : Prop := ∀ b, H b = none ∨ ∃ o xs, H b = some (.frz o (.lst xs))

/-- THE HEAD: the law's promise, at the heap behind the top. F, the promise of the law's def, may use that base is part of the heap (so K.In base, base.Ns mainGlobals mg stand in Mod) -/
theorem law_call {P : Program} {w : World} {K : PySem.W.Frag} {mg mb : Str → Option Value} {CX : CXT} {k : Nat} {fa a : Addr} {fd : FuncData} {x : Str} {sp : Sp} {s₁ : Shared} {vs : List Value} {ns : List Int}
    (KX : K.In s₁.heap) (hns : s₁.heap.Ns mainGlobals mg) (hb : s₁.heap.Ns builtinsNs mb) (hbb : ∀ x : Str, x ≠ "__name__" → mb x = bootBuiltins x) (hlim : s₁.heap.NoLimit) (hg : s₁.gens = #[])
    (ha : s₁.heap.get? a = some { cls := .type "list", data := .seq vs.toArray }) (hi : IntsAre vs ns) (hl : ns.length ≤ sizeLine) (hr : Room k callerA)
    (F : ∀ base : Heap, K.In base → base.Ns mainGlobals mg → FnOk P w K mg base CX k fa fd [x] sp) (hbind : ∀ (s : Shared) (u : Value), BindsTo s fd ⟨[u], []⟩ [(x, u)])
    (hsp : ∀ H : Hp, Only H → SqL K H a (ns.map V.int) → sp [.ref a] H (fun v _ => v = .bl true) fun _ _ _ => False)
    (hCX : ∀ H e s', CX [] H s₁ (fun _ _ _ => False) e s' → False) :
    codeAny (model P w) callerA (.call (.ref fa) ⟨[.ref a], []⟩) (fun r s' => r = .ok (.ret (.bool true)) ∧ OldK s₁.heap s'.heap ∧ s'.os = s₁.os ∧ AllBare s'.gens) s₁ := by
  have rv := vals_ints hi
  have lenV := hi.length
  -- from an abstract heap in which nothing but the script may be tracked
  have core : ∀ H : Hp, Only H → SqL K H a (ns.map V.int) → HOk P w H s₁.heap → (∀ b, H b ≠ none → b = a) → (H a ≠ none → K.lookup a = none) →
      codeAny (model P w) callerA (.call (.ref fa) ⟨[.ref a], []⟩) (fun r s' => r = .ok (.ret (.bool true)) ∧ OldK s₁.heap s'.heap ∧ s'.os = s₁.os ∧ AllBare s'.gens) s₁ := by
    intro H hO hS hok hA hK
    have base_of : ∀ {b : Addr} {o : Obj}, s₁.heap.get? b = some o → H b = none → (hidT s₁.heap H).get? b = some o := fun e n => hidT_get e n
    have noA : ∀ {b : Addr} {o : Obj} {es : Array DictEntry} {ep : Nat}, s₁.heap.get? b = some o → o.data = .dict es ep → H b = none := fun {b o es ep} e d => by
      cases q : H b with
      | none => rfl
      | some u =>
        have e' : b = a := hA b (by rw [q]; simp)
        subst e'
        rw [ha] at e; cases e
        have d' : Data.seq vs.toArray _ = Data.dict es ep := d
        cases d'
    have nsK : ∀ {b : Addr} {m : Str → Option Value}, s₁.heap.Ns b m → (hidT s₁.heap H).Ns b m := fun {b m} ⟨o, es, ep, e, d, r⟩ => ⟨o, es, ep, base_of e (noA e d), d, r⟩
    have hKb : K.In (hidT s₁.heap H) := fun b o e => base_of (KX b o e) (by
      cases q : H b with
      | none => rfl
      | some u =>
        have e' : b = a := hA b (by rw [q]; simp)
        subst e'
        rw [hK (by rw [q]; simp)] at e; cases e)
    have hM : Mod K mg (hidT s₁.heap H) := ⟨hKb, nsK hns, ⟨mb, nsK hb, hbb⟩, let ⟨mc, h1, h2⟩ := hlim; ⟨mc, nsK h1, h2⟩⟩
    have e0 : Env0 P w K mg (hidT s₁.heap H) callerA [] s₁ H := ⟨rfl, hM, fun b o e => of_hidT e, Nat.le_of_eq (hidT_size _ _), trivial, fun b hb => absurd (show b ∈ ([] : List Addr) from hb) (by simp), hok, .of_eq hg⟩
    refine codeAny_mono ((F _ hKb (nsK hns)).run callerA [] s₁ H ⟨[.ref a], []⟩ [.ref a] [.ref a] _ _ hr e0 (hbind s₁ (.ref a)) (.cons rfl .nil) (hsp H hO hS)) fun r s' h => ?_
    cases r with
    | error e => exact (hCX H e s' h).elim
    | ok fl =>
      cases fl with
      | next => exact False.elim h
      | brk => exact False.elim h
      | cont => exact False.elim h
      | ret u =>
        obtain ⟨v, H', os, bare, un, hok', r', q⟩ := h
        have q' : v = .bl true := q
        subst q'
        obtain rfl : u = Value.bool true := r'
        refine ⟨rfl, OldK.of_keep fun b o e => ?_, os, bare⟩
        cases q : H b with
        | none => exact un.keep b o e q (by intro z; exact absurd (show b ∈ ([] : List Addr) from z) (by simp)) (by simp)
        | some u =>
          rcases hO b with z | ⟨ob, xs, z⟩
          · rw [q] at z; cases z
          · have z2 := un.frzs b ob _ z
            obtain ⟨e1, _⟩ := hok b _ z
            obtain ⟨e2, _⟩ := hok' b _ z2
            rw [e] at e1; cases e1
            exact e2
  cases hk : K.lookup a with
  | some o =>
    -- the script is one of the module's own objects
    have e := KX a o hk
    rw [ha] at e
    cases e
    refine core (fun _ => none) (fun _ => .inl rfl) (.inr ⟨_, vs.toArray, _, hk, rfl, rfl, rfl, by rw [List.size_toArray, lenV]; exact hl, by simpa using rv⟩) (fun b u z => by have z' : (none : Option HO) = some u := z; cases z') (fun b z => absurd rfl z) fun z => absurd rfl z
  | none =>
    refine core (fun b => if b = a then some (.frz { cls := .type "list", data := .seq vs.toArray } (.lst (ns.map V.int))) else none) (fun b => ?_) (.inl (.inr ⟨{ cls := .type "list", data := .seq vs.toArray }, if_pos rfl⟩)) (fun b u z => ?_) (fun b z => ?_) fun _ => hk
    · by_cases hb : b = a
      · exact .inr ⟨_, _, if_pos hb⟩
      · exact .inl (if_neg hb)
    · by_cases hb : b = a
      · have z' := (if_pos hb).symm.trans z
        cases z'
        subst hb
        exact ⟨ha, by rw [List.length_map]; exact hl, vs, _, rv, ha⟩
      · have z' := (if_neg hb).symm.trans z
        cases z'
    · by_cases hb : b = a
      · exact hb
      · exact absurd (if_neg hb) z
end L2

namespace L2
open PySem PySem.Spec PyProof.Rows

/-- the goal that k_head leaves (case hc), from the law's promise. F gives the function object fd (K's own) once, then the promise over every base -/
theorem walk_of {l : PySem.W.OpenLaw} {n k : Nat} {q : Program} {loose : List Str} {XP : (Str → Option Value) → Heap → Prop} {YP : World → Heap → Prop} {d : DefRec} {K : Params → PySem.W.Frag} {CX : World → CXT} {sp : World → Sp} {x : Str}
    (hn : l.most = some n) (hn2 : n ≤ sizeLine) (hdf : d.params.defaults = []) (hr : Room k callerA)
    (hY : ∀ (w : World) (h : Heap), YP w h → (K w.params).In h)
    (F : ∀ (w : World) (mg : Str → Option Value) (fa : Addr) (h : Heap), (K w.params).In h → h.Ns mainGlobals mg → mg d.name = some (.ref fa) →
      ∃ fd : FuncData, (∀ (s : Shared) (u : Value), BindsTo s fd ⟨[u], []⟩ [(x, u)]) ∧
        ∀ base : Heap, (K w.params).In base → base.Ns mainGlobals mg → FnOk l.prog w (K w.params) mg base (CX w) k fa fd [x] (sp w))
    (hsp : ∀ (w : World) (H : Hp) (a : Addr) (ns : List Int), ns.length ≤ n → Only H → SqL (K w.params) H a (ns.map V.int) → sp w [.ref a] H (fun v _ => v = .bl true) fun _ _ _ => False)
    (hCX : ∀ (w : World) (H : Hp) (s : Shared) (e : Value) (s' : Shared), CX w [] H s (fun _ _ _ => False) e s' → False) :
    PySem.W.WalkO q loose XP YP l.row.toRowW d [] (fun f vs => PySem.call f vs) := by
  refine Att.attach_call hn hdf fun w s₀ s₁ mg mb fa o pm cd doc a vs ns G Y ho hd hcd hmg hobj hints hlen hg => ?_
  have KX := hY w _ Y
  obtain ⟨fd, hb, hF⟩ := F w mg fa _ KX G.T.g hmg
  exact law_call KX G.T.g G.T.b G.T.builtins G.T.nolimit hg hobj hints (Nat.le_trans hlen hn2) hr hF hb (fun H hO hS => hsp w H a ns hlen hO hS) fun H e s' => hCX w H s₁ e s'
end L2

/- THE LAST THEOREM (shape; LID, My.* are yours):
   My.Adr: a structure of the addresses that your layer names (classes, functions); My.Txt K t: a structure (Prop) of the equations over K;
   My.txt_mk : {K} {implicit addresses ..} (e1 : nsIn K mainGlobals "law" = some (some (.ref f))) (e2 : K.lookup f = some ⟨oc, od, .func (fnOf "law" "law" params body scope dV kV doc pm an cdv ct), sl⟩) (e3 : codeIn K cdv "law" = true) .. : ∃ t, My.Txt K t

set_option maxRecDepth 100000 in
set_option maxHeartbeats 0 in
theorem PySem.Challenge.cw_LID_holds : PySem.Challenge.rw_LID.Holds := by
  w_on; o_law; k_head; (case hw => w_witness2)
  k_fill
  refine L2.walk_of (l := PySem.Challenge.rw_LID) (n := 63) (k := 40) (x := "script") (CX := fun w => ..) (sp := fun _ => My.sp_law) rfl (by decide) rfl ⟨rfl, by decide, by decide⟩ (fun w h Y => PySem.W.kIn_of Y) ?F ?S ?C
  case F =>
    intro w mg fa h KX G hmg
    have T : ∃ t, My.Txt (L2.KOf KX) t := by
      dsimp only [L2.KOf]                          -- K must stand as «<heap const> w.params» for k_is
      refine' My.txt_mk ?e1 ?e2 ?e3 ..
      (case e1 => PySem.W.k_is)                    -- in the order: a name -> its address -> its object -> its parts
      (case e2 => PySem.W.k_is)
      ..
    obtain ⟨t, T⟩ := T
    have e0 := hmg.symm.trans (PySem.W.mg_of KX G T.law)
    cases e0                                       -- fa is the law's own address
    exact ⟨_, fun s u => .of_eq rfl, fun base kb nb => My.law_fn T kb nb⟩     -- if «.of_eq rfl» comes too early: refine' ⟨_, ?b, fun base kb nb => My.law_fn T kb nb⟩; exact fun s u => .of_eq rfl
  case S => exact fun w H a ns hl hO hS => ..
  case C => exact ..
(the tactic k_is has no namespace: write k_is) -/

/-! SHORT WORDS over the layer: a def of the text, its body, what a loop and a test want. -/
namespace L2
open PySem PySem.Spec PyProof.Rows

/-! ### the text by places -/
/-- the j-th statement of a class's body -/
def inClass (s : Stmt) (j : Nat) : Stmt := match s with
  | .ClassDef _ _ _ body _ _ _ _ _ _ _ => body.getD j (.Pass ⟨0, 0, 0, 0⟩)
  | _ => .Pass ⟨0, 0, 0, 0⟩
def defArgs (s : Stmt) : Arguments := match s with
  | .FunctionDef _ a _ _ _ _ _ _ _ _ => a
  | _ => { posonlyargs := [], args := [], vararg := none, kwonlyargs := [], kw_defaults := [], kwarg := none, defaults := [] }
def defBody (s : Stmt) : List Stmt := match s with
  | .FunctionDef _ _ b _ _ _ _ _ _ _ => b
  | _ => []
def defScope (s : Stmt) : Scope := match s with
  | .FunctionDef _ _ _ _ _ _ sc _ _ _ => sc
  | _ => { kind := .function, names := [], isGenerator := false, isCoroutine := false }

/-! ### no exception leaves a def -/
abbrev CX0 : CXT := fun _ _ _ _ _ _ => False
abbrev E0 : XK := fun _ _ _ => False
theorem pass0 {X : Cx} : Passes CX0 X E0 := fun _ _ _ _ _ _ _ h => h.elim

/-! ### a def (or method) of the text as it stands behind the top -/
structure Fun (K : PySem.W.Frag) (x qual : Str) (st : Stmt) (f : Addr) (fd : FuncData) : Prop where
  ex : ∃ (oc : Value) (od : Option Addr) (kV doc pm : Value) (an : Option Addr) (cdv ct : Value) (osl : Array (Option Value)),
    fd = PySem.W.fnOf x qual (defArgs st) (defBody st) (defScope st) .none kV doc pm an cdv ct ∧ K.lookup f = some ⟨oc, od, .func fd, osl⟩ ∧ PySem.W.codeIn K cdv qual = true
  kp : PySem.W.keepIn K (.ref f) = true
section
variable {P : Program} {w : World} {K : PySem.W.Frag} {mg : Str → Option Value} {base : Heap}
/-- THE RULE for a def: its body as a term of rules, and the reading of that term -/
theorem Fun.ok {x qual : Str} {st : Stmt} {f : Addr} {fd : FuncData} {N ps : List Str} {k : Nat} {sp : Sp} (F : Fun K x qual st f fd) (S : FnScope N ps (defScope st)) (len : ∀ vs H Q E, sp vs H Q E → vs.length = ps.length)
    (hbody : ∀ (cdv : Value) (A : Around) (outer : List Env) (s : Shared) (H : Hp) (vs : List V) (Q : VK) (E : XK), Room k (A.deeper (envOfC qual (defScope st) s.heap.objs.size f cdv)) → sp vs H Q E →
      ∃ t, PSs (cxOf CX0 P w K mg base N qual (defScope st) f cdv A outer s H E).nox (defBody st) t ∧ t { nx := fun _ H' => Q .non H', rt := Q } (start N vs) H) : FnOk P w K mg base CX0 (k + 1) f fd ps sp := by
  obtain ⟨oc, od, kV, doc, pm, an, cdv, ct, osl, rfl, lk, hcd⟩ := F.ex
  refine fn_of lk hcd S len fun A outer s H vs Q E hr hsp => ?_
  obtain ⟨t, h, q⟩ := hbody cdv A outer s H vs Q E hr hsp
  exact ⟨t, h.nox, q⟩
/-- how its arguments bind (no defaults): h is «fun _ _ _ _ _ _ us hl => match us, hl with | [_, _], _ => rfl», one _ a parameter -/
theorem Fun.binds {x qual : Str} {st : Stmt} {f : Addr} {fd : FuncData} {ps : List Str} (F : Fun K x qual st f fd)
    (h : ∀ (kV doc pm : Value) (an : Option Addr) (cdv ct : Value) (us : List Value), us.length = ps.length → bindArgs (PySem.W.fnOf x qual (defArgs st) (defBody st) (defScope st) .none kV doc pm an cdv ct) ⟨us, []⟩ = pure (ps.zip us)) : Binds K fd ps [] := by
  obtain ⟨oc, od, kV, doc, pm, an, cdv, ct, osl, rfl, lk, hcd⟩ := F.ex
  exact .all (h kV doc pm an cdv ct)
theorem fun_mk {x qual : Str} {st : Stmt} {f : Addr} {oc : Value} {od an : Option Addr} {osl : Array (Option Value)} {kV doc pm cdv ct : Value} (l : K.lookup f = some ⟨oc, od, .func (PySem.W.fnOf x qual (defArgs st) (defBody st) (defScope st) .none kV doc pm an cdv ct), osl⟩)
    (c : PySem.W.codeIn K cdv qual = true) (k : PySem.W.keepIn K (.ref f) = true) : Fun K x qual st f (PySem.W.fnOf x qual (defArgs st) (defBody st) (defScope st) .none kV doc pm an cdv ct) := ⟨⟨oc, od, kV, doc, pm, an, cdv, ct, osl, rfl, l, c⟩, k⟩
end
theorem small1000 {n : Nat} (h : n ≤ 1000) : n < sizeLine := Nat.lt_of_le_of_lt h (by decide)

/-! ### expressions in short: the name that stands in the i-th slot -/
section
variable {X : Cx}
theorem pv (i : Nat) {x : Str} {pos : Pos} (hN : X.N[i]? = some x := by rfl) (hv : Vis X.env.scope x := by first | exact Or.inl rfl | exact Or.inr (Or.inl rfl) | exact Or.inr (Or.inr rfl)) (hd : (x == ("__debug__" : Str)) = false := by decide)
    (hcd : (x == ("__classdict__" : Str)) = false := by decide) : PE X (.Name x pos) (tVar i) := pe_var hN hv hd hcd
end

/-! ### tests -/
theorem iteF {A B : Prop} (h : B) : if false = true then A else B := by
  rw [if_neg Bool.false_ne_true]
  exact h
theorem iteT {A B : Prop} (h : A) : if true = true then A else B := by
  rw [if_pos rfl]
  exact h
theorem ite2 {c A B : Prop} [Decidable c] (h1 : c → A) (h2 : ¬ c → B) : if c then A else B := by
  by_cases h : c
  · rw [if_pos h]
    exact h1 h
  · rw [if_neg h]
    exact h2 h
theorem iteNS {c A B : Prop} [Decidable c] (hc : c) (h : B) : if (!decide c) = true then A else B := by
  rw [decide_eq_true hc]
  exact iteF h

/-! ### heaps -/
/-- all that was tracked is as it was -/
def Same (H H' : Hp) : Prop := ∀ b o, H b = some o → H' b = some o
theorem Same.refl (H : Hp) : Same H H := fun _ _ h => h
theorem Same.trans {H H1 H2 : Hp} (a : Same H H1) (b : Same H1 H2) : Same H H2 := fun c o h => b c o (a c o h)
theorem Same.free {H H' : Hp} (e : Same H H') {l : Addr} (h : H' l = Option.none) : H l = Option.none := by
  cases q : H l with
  | none => rfl
  | some o =>
    rw [e l o q] at h
    cases h
theorem Same.seq {K : PySem.W.Frag} {H H' : Hp} {a : Addr} {xs : List V} (e : Same H H') (h : SqL K H a xs) : SqL K H' a xs := by
  rcases h with (h | ⟨o, h⟩) | h
  · exact .inl (.inl (e _ _ h))
  · exact .inl (.inr ⟨o, e _ _ h⟩)
  · exact .inr h

end L2

namespace L2
open PySem PySem.Spec PyProof.Rows
section
variable {X : Cx}
end
/-! ### a dict's pairs: keys that differ -/
section
variable {κ : Type} [DecidableEq κ]
end
end L2

set_option Elab.async false

set_option Elab.async false
set_option linter.all false
set_option maxRecDepth 100000
set_option maxHeartbeats 4000000
/-! COMPREHENSIONS over the hand layer: [elt for tg in iter], [elt for tg in iter if c], and name = [..] -/
namespace L2
open PySem PySem.Spec PyProof.Rows

/-! ### what a block's closure is -/
def clos (cells : List (Str × Addr)) : List (Str × NameKind) → List (Str × Addr) → List (Str × Addr)
  | [], acc => acc
  | (n, k) :: r, acc => clos cells r (if k == .free then (n, (cells.lookup n).getD 0) :: acc else acc)
theorem clos_go {env : Env} : ∀ (names : List (Str × NameKind)) (acc : List (Str × Addr)), (∀ x ∈ names, x.2 = .free → ∃ c, env.cells.lookup x.1 = some c) →
    (forIn (m := Sem) names acc fun x r => if (x.2 == NameKind.free) = true then (do let a ← cellOf env x.1; pure (ForInStep.yield ((x.1, a) :: r))) else pure (ForInStep.yield r)) = pure (clos env.cells names acc)
  | [], acc, _ => rfl
  | (n, k) :: r, acc, h => by
    have hr : ∀ x ∈ r, x.2 = .free → ∃ c, env.cells.lookup x.1 = some c := fun x hx => h x (List.mem_cons_of_mem _ hx)
    rw [List.forIn_cons]
    by_cases hk : k = .free
    · subst hk
      obtain ⟨c, hc⟩ := h (n, .free) List.mem_cons_self rfl
      have hc : env.cells.lookup n = some c := hc
      have e : cellOf env n = pure c := by unfold cellOf; rw [hc]
      have q := clos_go r ((n, c) :: acc) hr
      show ((do let a ← cellOf env n; pure (ForInStep.yield ((n, a) :: acc))) >>= _) = _
      rw [e]
      refine Eq.trans ?goalA (Eq.trans q ?goalB)
      case goalA => rfl
      case goalB =>
        show _ = pure (clos env.cells r ((n, (env.cells.lookup n).getD 0) :: acc))
        rw [hc]
        rfl
    · have hb : (k == NameKind.free) = false := by simpa using hk
      have q := clos_go r acc hr
      show ((if (k == NameKind.free) = true then _ else _) >>= _) = pure (clos env.cells r (if k == .free then _ else acc))
      rw [hb]
      exact q
theorem closureFor_eq {scope : Scope} {env : Env} (h : ∀ x ∈ scope.names, x.2 = .free → ∃ c, env.cells.lookup x.1 = some c) : closureFor scope env = pure (clos env.cells scope.names []) := by
  have q := clos_go scope.names [] h
  unfold closureFor
  show (forIn scope.names [] _ >>= fun cs => pure cs) = _
  refine Eq.trans (congrArg (fun t => t >>= fun cs => pure cs) (Eq.trans ?_ q)) ?_
  · rfl
  · rfl
theorem clos_lookup {cells : List (Str × Addr)} : ∀ (names : List (Str × NameKind)) (acc : List (Str × Addr)), (∀ y ∈ names, y.2 = .free → ∃ c, cells.lookup y.1 = some c) → (∀ x c, acc.lookup x = some c → cells.lookup x = some c) →
    ∀ x c, (clos cells names acc).lookup x = some c → cells.lookup x = some c
  | [], acc, _, h2 => h2
  | (n, k) :: r, acc, h1, h2 => by
    have hr : ∀ x ∈ r, x.2 = .free → ∃ c, cells.lookup x.1 = some c := fun x hx => h1 x (List.mem_cons_of_mem _ hx)
    refine clos_lookup r _ hr ?_
    intro x c e
    by_cases hk : k = .free
    · subst hk
      obtain ⟨c', hc⟩ := h1 (n, .free) List.mem_cons_self rfl
      have hc : cells.lookup n = some c' := hc
      rw [show (if (NameKind.free == NameKind.free) = true then (n, (cells.lookup n).getD 0) :: acc else acc) = (n, (cells.lookup n).getD 0) :: acc from rfl, hc] at e
      rw [List.lookup_cons] at e
      cases q : x == n with
      | true =>
        rw [q] at e
        have e1 : x = n := by simpa using q
        have e2 : c' = c := Option.some.inj e
        rw [e1, hc, e2]
      | false =>
        rw [q] at e
        exact h2 x c e
    · have hb : (k == NameKind.free) = false := by simpa using hk
      rw [hb] at e
      exact h2 x c e
theorem clos_has {cells : List (Str × Addr)} : ∀ (names : List (Str × NameKind)) (acc : List (Str × Addr)) (x : Str), ((x, NameKind.free) ∈ names ∨ ∃ c, acc.lookup x = some c) → ∃ c, (clos cells names acc).lookup x = some c
  | [], acc, x, h => h.elim (fun z => nomatch z) id
  | (n, k) :: r, acc, x, h => by
    refine clos_has r _ x ?_
    rcases h with h | ⟨c, h⟩
    · rcases List.mem_cons.mp h with e | e
      · have e1 : x = n := congrArg Prod.fst e
        have e2 : NameKind.free = k := congrArg Prod.snd e
        subst e2
        subst e1
        exact .inr ⟨(cells.lookup x).getD 0, by show List.lookup x ((x, _) :: acc) = _; rw [List.lookup_cons, beq_self_eq_true]⟩
      · exact .inl e
    · right
      by_cases hk : (k == NameKind.free) = true
      · rw [if_pos hk, List.lookup_cons]
        cases x == n with
        | true => exact ⟨_, rfl⟩
        | false => exact ⟨c, h⟩
      · rw [if_neg hk]
        exact ⟨c, h⟩

/-! ### an untracked record of ours is tracked; a tracked list is let go -/
section
variable {X : Cx} {pins : List (Addr × Obj)} {σ : St} {H : Hp} {s : Shared} {a : Addr} {o : HO}
theorem Inv.track (I : Inv X pins σ H s) (hn : H a = none) (h0 : X.s₀.heap.objs.size ≤ a) (hL : a ≠ X.env.locals) (h2 : ∀ x c, X.env.cells.lookup x = some c → c ≠ a) (h3 : ∀ p ∈ X.pn ++ pins, p.1 ≠ a)
    (new : ObjOk X.prog X.w (upd H a o) s.heap a o) : Inv X pins σ (upd H a o) s := by
  have old : ∀ b u, X.s₀.heap.get? b = some u → b ≠ a := fun b u e => Nat.ne_of_lt (Nat.lt_of_lt_of_le (Heap.lt_size e) h0)
  have trk : ∀ b u, H b = some u → b ≠ a := fun b u e z => by rw [z, hn] at e; cases e
  refine ⟨I.ok, I.os, I.bare, ⟨I.base.keep, I.base.slot, fun b u e n hx => ?_, I.base.there, fun b xs e => ?_, fun b u v e => ?_, fun b ps e => ?_⟩, I.loc, I.cell, ?_, fun x c e => ?_, fun p hp => ?_, fun b u e => ?_, I.len⟩
  · rw [upd_ne (old b u e)]; exact I.base.free b u e n hx
  · have q := I.base.tups b xs e; rw [upd_ne (trk _ _ q)]; exact q
  · have q := I.base.frzs b u v e; rw [upd_ne (trk _ _ q)]; exact q
  · obtain ⟨m, q⟩ := I.base.tbls b ps e; exact ⟨m, by rw [upd_ne (trk _ _ q)]; exact q⟩
  · rw [upd_ne (Ne.symm hL)]; exact I.free
  · rw [upd_ne (h2 x c e)]; exact I.freeC x c e
  · obtain ⟨e1, e2, e3⟩ := I.pin p hp
    exact ⟨e1, by rw [upd_ne (h3 p hp)]; exact e2, e3⟩
  · by_cases hb : b = a
    · subst hb; rw [upd_same] at e; cases e; exact new
    · rw [upd_ne hb] at e
      exact (I.hok b u e).stay (fun c v _ q => q) (fun c q => by rw [upd_ne (trk _ _ q)]; exact q) fun c xs q => by rw [upd_ne (trk _ _ q)]; exact q
theorem Inv.untrack {ys : List V} (I : Inv X pins σ (upd H a (.lst ys)) s) (hn : H a = none) : Inv X pins σ H s := by
  have off : ∀ b, upd H a (.lst ys) b = none → H b = none := fun b e => by
    by_cases hb : b = a
    · rw [hb, upd_same] at e; cases e
    · rw [upd_ne hb] at e; exact e
  have off2 : ∀ b u, upd H a (.lst ys) b = some u → u ≠ .lst ys → H b = some u := fun b u e ne => by
    by_cases hb : b = a
    · rw [hb, upd_same] at e; cases e; exact absurd rfl ne
    · rw [upd_ne hb] at e; exact e
  refine ⟨I.ok, I.os, I.bare, ⟨I.base.keep, I.base.slot, fun b u e n hx => off _ (I.base.free b u e n hx), I.base.there, fun b xs e => off2 _ _ (I.base.tups b xs e) (by intro z; cases z), fun b u v e => off2 _ _ (I.base.frzs b u v e) (by intro z; cases z), fun b ps e => ?_⟩, I.loc, I.cell, off _ I.free, fun x c e => off _ (I.freeC x c e), fun p hp => ?_, fun b u e => ?_, I.len⟩
  · obtain ⟨m, q⟩ := I.base.tbls b ps e; exact ⟨m, off2 _ _ q (by intro z; cases z)⟩
  · obtain ⟨e1, e2, e3⟩ := I.pin p hp
    exact ⟨e1, off _ e2, e3⟩
  · have hb : b ≠ a := fun z => by rw [z, hn] at e; cases e
    exact (I.hok b u (by rw [upd_ne hb]; exact e)).stay (fun c v _ q => q) (fun c q => off2 _ _ q (by intro z; cases z)) fun c xs q => off2 _ _ q (by intro z; cases z)
end

/-! ### the names of a block: those of the def first, the block's own behind; ms: which of them keep their values inside -/
def maskS : List Bool → St → St
  | [], _ => []
  | _ :: bs, [] => none :: maskS bs []
  | b :: bs, v :: σ => cond b v none :: maskS bs σ
theorem maskS_length : ∀ (ms : List Bool) (σ : St), (maskS ms σ).length = ms.length
  | [], _ => rfl
  | _ :: bs, [] => by show (maskS bs []).length + 1 = bs.length + 1; rw [maskS_length bs []]
  | b :: bs, v :: σ => by show (maskS bs σ).length + 1 = bs.length + 1; rw [maskS_length bs σ]
theorem maskS_get : ∀ {ms : List Bool} {σ : St} {i : Nat} {v : V}, (maskS ms σ)[i]? = some (some v) → ms[i]? = some true ∧ σ[i]? = some (some v)
  | [], _, i, v, h => by simp [maskS] at h
  | b :: bs, [], 0, v, h => by simp [maskS] at h
  | b :: bs, [], i + 1, v, h => by
    have h' : (maskS bs [])[i]? = some (some v) := h
    have q := (maskS_get (ms := bs) (σ := []) (i := i) h').2
    simp at q
  | true :: bs, w :: σ, 0, v, h => ⟨rfl, h⟩
  | false :: bs, w :: σ, 0, v, h => by simp [maskS] at h
  | b :: bs, w :: σ, i + 1, v, h => by
    have h' : (maskS bs σ)[i]? = some (some v) := h
    exact maskS_get (ms := bs) (σ := σ) (i := i) h'
def okMask (sc : Scope) : List Str → List Str → List Bool → Bool
  | [], _, [] => true
  | x :: N, y :: NX, true :: ms => decide (x = y) && decide (sc.names.lookup x ≠ some .local) && okMask sc N NX ms
  | _ :: N, NX, false :: ms => okMask sc N NX.tail ms
  | _, _, _ => false
theorem okMask_len {sc : Scope} : ∀ {N NX : List Str} {ms : List Bool}, okMask sc N NX ms = true → ms.length = N.length
  | [], _, [], _ => rfl
  | x :: N, y :: NX, true :: ms, h => by
    rw [okMask, Bool.and_eq_true] at h
    rw [List.length_cons, List.length_cons, okMask_len h.2]
  | x :: N, [], false :: ms, h => by
    rw [okMask] at h
    rw [List.length_cons, List.length_cons, okMask_len h]
  | x :: N, y :: NX, false :: ms, h => by
    rw [okMask] at h
    rw [List.length_cons, List.length_cons, okMask_len h]
  | [], _, _ :: _, h => by simp [okMask] at h
  | _ :: _, _, [], h => by simp [okMask] at h
  | _ :: _, [], true :: _, h => by simp [okMask] at h
theorem okMask_at {sc : Scope} : ∀ {N NX : List Str} {ms : List Bool} {i : Nat} {x : Str}, okMask sc N NX ms = true → N[i]? = some x → ms[i]? = some true → NX[i]? = some x ∧ sc.names.lookup x ≠ some .local
  | x :: N, y :: NX, true :: ms, 0, z, h, h1, h2 => by
    rw [okMask, Bool.and_eq_true, Bool.and_eq_true] at h
    have e : x = z := Option.some.inj h1
    have e2 : x = y := of_decide_eq_true h.1.1
    subst e
    exact ⟨by rw [← e2]; rfl, of_decide_eq_true h.1.2⟩
  | x :: N, y :: NX, true :: ms, i + 1, z, h, h1, h2 => by
    rw [okMask, Bool.and_eq_true] at h
    exact okMask_at (i := i) h.2 h1 h2
  | x :: N, NX, false :: ms, 0, z, h, h1, h2 => by simp at h2
  | x :: N, [], false :: ms, i + 1, z, h, h1, h2 => by
    rw [okMask] at h
    have q := (okMask_at (i := i) h h1 h2).1
    simp at q
  | x :: N, y :: NX, false :: ms, i + 1, z, h, h1, h2 => by
    rw [okMask] at h
    exact okMask_at (i := i) h h1 h2
  | [], _, [], i, z, h, h1, h2 => by simp at h1
  | [], _, _ :: _, i, z, h, h1, h2 => by simp [okMask] at h
  | _ :: _, _, [], i, z, h, h1, h2 => by simp [okMask] at h
  | _ :: _, [], true :: _, i, z, h, h1, h2 => by simp [okMask] at h
/-- what is asked of a block's scope: closed, by decide +kernel -/
structure CompScope (out sc : Scope) (NX N : List Str) (ms : List Bool) : Prop where
  kind : sc.kind = .function
  nocell : ∀ x ∈ sc.names, x.2 ≠ .cell
  own : ∀ x ∈ sc.names, x.2 = .local → sc.names.lookup x.1 = some .local
  fre : ∀ x ∈ sc.names, x.2 = .free → out.names.lookup x.1 = some .cell ∨ out.names.lookup x.1 = some .free
  nd : N.Nodup
  mask : okMask sc N NX ms = true
/-- a target that stores in the slots ks alone -/
def Sets (g : TG) (ks : List Nat) : Prop := ∀ (x : V) (σ : St) (H : Hp) (Q Q' : St → Hp → Prop), g x σ H Q → (∀ σ2 H2, (σ2.length = σ.length ∧ ∀ i, i ∉ ks → σ2[i]? = σ[i]?) → Q σ2 H2 → Q' σ2 H2) → g x σ H Q'
theorem sets_name (i : Nat) : Sets (gName i) [i] := fun x σ H Q Q' h k => k _ _ ⟨List.length_set, fun j hj => by
  rw [List.getElem?_set_ne (fun z => hj (by simp [z]))]⟩ h
/-! ### the block's context -/
def cxComp (X : Cx) (sc : Scope) (N : List Str) (C : Addr) (ex : List Addr) (s : Shared) (H : Hp) : Cx :=
  { X with N := N, s₀ := s, H₀ := H, env := compEnvC sc (clos X.env.cells sc.names []) C X.env, outer := X.stack, ex := ex, fn := fun _ => false, pn := [], xe := fun _ _ => False }
/-- tests of a comprehension -/
def PTs (X : Cx) (ifs : List Expr) (t : TT) : Prop :=
  ∀ (pins : List (Addr × Obj)) (s : Shared) (σ : St) (H : Hp) (Q : Bool → Hp → Prop), Inv X pins σ H s → t σ H Q →
    wpAny (model X.prog X.w) X.A (forIn ifs true fun c r => if r = true then do let ok ← isTrue c X.env (eval c X.env); pure (ForInStep.yield ok) else pure (ForInStep.yield r)) (TP X pins σ Q) X.xe s
def tYes : TT := fun _ H Q => Q true H
theorem pts_nil {X : Cx} : PTs X [] tYes := fun pins s σ H Q I h => wpAny_tests_nil ⟨H, I, h⟩
/-- the reading of a comprehension: W, what holds ahead of the turn i (the items made so far, the heap) -/
def tComp (ms : List Bool) (wi : TI) (g : TG) (tc : TT) (te : TE) : TE := fun σ H Q => wi σ H fun J H1 =>
  ∃ W : Nat → Nat → List V → Hp → Prop, (∃ m, W 0 m [] H1) ∧ ∀ i m ys H, W i m ys H →
    (J.stop i H ∧ ∀ D, H D = none → Q (.ref D) (upd H D (.lst ys))) ∨
    (J.go i H ∧ ys.length < sizeLine ∧ ∃ N : List V → Hp → Prop, (∀ ys' H', N ys' H' → ∃ m', m' < m ∧ W (i + 1) m' ys' H') ∧
      ∀ x H', J.yld i H x H' → g x (maskS ms σ) H' fun σ2 H2 => tc σ2 H2 fun b H3 => if b = true then te σ2 H3 fun v H4 => N (ys ++ [v]) H4 else N ys H3)
section
variable {prog : Program} {w : World} {A : Around} {R : Result → Shared → Prop} {s : Shared}
theorem codeAny_compLoop_own {elt target iter : Expr} {ifs : List Expr} {scope : Scope} {pos : Pos} {it acc : Value} {env : Env} (I : Nat → Shared → Prop)
    (turn : ∀ n s, I n s → wpAny (model prog w) A (pyNext it) (fun r s₁ => match r with
      | none => R (.ok .next) s₁
      | some v => wpAny (model prog w) A (letOwnedTupleGo target it v) (fun _ s₁' => wpAny (model prog w) A (assign target env v) (fun _ s₂ =>
          wpAny (model prog w) A (forIn ifs true fun c r => if r = true then do let ok ← isTrue c env (eval c env); pure (ForInStep.yield ok) else pure (ForInStep.yield r)) (fun ok s₃ =>
            if ok = true then wpAny (model prog w) A (eval elt env) (fun x s₄ =>
              wpAny (model prog w) A (call (.builtin "list.append") [acc, x]) (fun _ s₅ => ∃ m, m < n ∧ I m s₅) (fun _ _ => False) s₄) (fun _ _ => False) s₃
            else ∃ m, m < n ∧ I m s₃) (fun _ _ => False) s₂) (fun _ _ => False) s₁') (fun _ _ => False) s₁) (fun _ _ => False) s)
    (n : Nat) (h : I n s) :
    codeAny (model prog w) A (.compLoop (.ListComp elt [⟨target, iter, ifs, 0⟩] scope pos) 0 it acc env) R s := by
  have fe : ∀ {α : Type} {t : Sem α} {Q : α → Shared → Prop} {E : Value → Shared → Prop} {s : Shared}, wpAny (model prog w) A t Q (fun _ _ => False) s → wpAny (model prog w) A t Q E s := fun h => wpAny_mono h (fun _ _ q => q) fun _ _ f => f.elim
  refine codeAny_loop rfl I (fun n s hI => ?_) n h
  show wpAny _ A ((compTurn (.ListComp elt [⟨target, iter, ifs, 0⟩] scope pos) 0 it acc env).onRaise (fun x => do noteFrame x env; theTreesLotGoes x)) _ _ s
  refine wpAny_noted ?_
  rw [compTurn_list]
  refine wpAny_bind (wpAny_standAt (wpAny_bind (wpAny_mono (turn n s hI) (fun r s₁ h₁ => ?_) fun _ _ f => f.elim)))
  cases r with
  | none => exact wpAny_pure h₁
  | some v =>
    refine wpAny_bind (wpAny_mono h₁ (fun _ s₁' h₁' => ?_) fun _ _ f => f.elim)
    refine wpAny_bind (wpAny_mono h₁' (fun _ s₂ h₂ => wpAny_bind (wpAny_mono h₂ (fun ok s₃ h₃ => ?_) fun _ _ f => f.elim)) fun _ _ f => f.elim)
    cases ok with
    | false => exact wpAny_pure ⟨rfl, h₃⟩
    | true =>
      exact wpAny_bind (wpAny_bind (wpAny_mono h₃ (fun x s₄ h₄ => wpAny_bind (wpAny_mono h₄ (fun _ s₅ h₅ => wpAny_pure (wpAny_pure ⟨rfl, h₅⟩)) fun _ _ f => f.elim)) fun _ _ f => f.elim))
end

/-! ### the rule -/
section
variable {X : Cx} {pins : List (Addr × Obj)} {σ : St} {H : Hp} {s s1 : Shared} {out sc : Scope} {N : List Str} {ms : List Bool}
theorem CompScope.cells (S : CompScope out sc X.N N ms) (ho : X.env.scope = out) (ok : X.Ok) : ∀ x ∈ sc.names, x.2 = .free → ∃ c, X.env.cells.lookup x.1 = some c := fun x hx hf => by
  subst ho
  exact ok.has x.1 (S.fre x hx hf)
theorem lookup_mem {α β : Type} [BEq α] [LawfulBEq α] : ∀ {l : List (α × β)} {x : α} {y : β}, l.lookup x = some y → (x, y) ∈ l
  | [], _, _, h => by simp at h
  | (a, b) :: r, x, y, h => by
    rw [List.lookup_cons] at h
    cases q : x == a with
    | true =>
      rw [q] at h
      have e1 : x = a := by simpa using q
      have e2 : b = y := Option.some.inj h
      rw [e1, e2]
      exact List.mem_cons_self
    | false =>
      rw [q] at h
      exact List.mem_cons_of_mem _ (lookup_mem h)
/-- the names of a block as relabelled: local stays; what is seen and not local was free -/
theorem relabel_lookup {env : Env} : ∀ {names : List (Str × NameKind)} {x : Str} {k : NameKind}, (∀ y ∈ names, y.2 ≠ .cell) →
    (names.map fun (n, k) => if (k == NameKind.free && env.scope.kind == .function && env.kindOf n == some .cell) then (n, NameKind.cell) else (n, k)).lookup x = some k → (k = .cell ∨ k = .free) → names.lookup x = some .free
  | [], _, _, _, h, _ => by simp at h
  | (n, k') :: r, x, k, hc, h, hk => by
    have hc' : ∀ y ∈ r, y.2 ≠ .cell := fun y hy => hc y (List.mem_cons_of_mem _ hy)
    have ih := @relabel_lookup env r x k hc'
    have hk' : k' ≠ .cell := hc (n, k') List.mem_cons_self
    replace h : List.lookup x ((if (k' == NameKind.free && env.scope.kind == .function && env.kindOf n == some .cell) = true then (n, NameKind.cell) else (n, k')) :: _) = some k := h
    cases hx : x == n with
    | true =>
      by_cases hb : (k' == NameKind.free && env.scope.kind == .function && env.kindOf n == some .cell) = true
      · rw [Bool.and_eq_true, Bool.and_eq_true] at hb
        have e : k' = .free := by simpa using hb.1.1
        rw [List.lookup_cons, hx, e]
      · rw [if_neg hb, List.lookup_cons, hx] at h
        have e : k' = k := Option.some.inj h
        rw [List.lookup_cons, hx, e]
        rcases hk with z | z
        · exact absurd (e.trans z) hk'
        · rw [z]
    | false =>
      have h2 : List.lookup x (r.map fun (n, k) => if (k == NameKind.free && env.scope.kind == .function && env.kindOf n == some .cell) then (n, NameKind.cell) else (n, k)) = some k := by
        by_cases hb : (k' == NameKind.free && env.scope.kind == .function && env.kindOf n == some .cell) = true
        · rw [if_pos hb, List.lookup_cons, hx] at h; exact h
        · rw [if_neg hb, List.lookup_cons, hx] at h; exact h
      rw [List.lookup_cons, hx]
      exact ih h2 hk
theorem relabel_local {env : Env} : ∀ {names : List (Str × NameKind)} {x : Str},
    (names.map fun (n, k) => if (k == NameKind.free && env.scope.kind == .function && env.kindOf n == some .cell) then (n, NameKind.cell) else (n, k)).lookup x = some .local → names.lookup x = some .local
  | [], _, h => by simp at h
  | (n, k') :: r, x, h => by
    have ih := @relabel_local env r x
    replace h : List.lookup x ((if (k' == NameKind.free && env.scope.kind == .function && env.kindOf n == some .cell) = true then (n, NameKind.cell) else (n, k')) :: _) = some .local := h
    cases hx : x == n with
    | true =>
      by_cases hb : (k' == NameKind.free && env.scope.kind == .function && env.kindOf n == some .cell) = true
      · rw [if_pos hb, List.lookup_cons, hx] at h
        have e : NameKind.cell = .local := Option.some.inj h
        cases e
      · rw [if_neg hb, List.lookup_cons, hx] at h
        rw [List.lookup_cons, hx]
        exact h
    | false =>
      rw [List.lookup_cons, hx]
      refine ih ?_
      by_cases hb : (k' == NameKind.free && env.scope.kind == .function && env.kindOf n == some .cell) = true
      · rw [if_pos hb, List.lookup_cons, hx] at h; exact h
      · rw [if_neg hb, List.lookup_cons, hx] at h; exact h
/-- a block is entered: its frame at C (the accumulator stands apart) -/
theorem Inv.block (I : Inv X pins σ H s) (S : CompScope out sc X.N N ms) (ho : X.env.scope = out) {C : Addr} {ex : List Addr} {t' : Nat} {h1 : Heap} {m : Str → Option Value} (hex : ∀ b ∈ ex, FpOk X pins H b) (hlt : ∀ b ∈ ex, b < s.heap.objs.size)
    (hC : s.heap.objs.size ≤ C) (hn : h1.Ns C m) (kp : ∀ b o, s.heap.get? b = some o → h1.get? b = some o) : Inv (cxComp X sc N C ex s H) [] (maskS ms σ) H { s with heap := h1, toks := t' } := by
  have hcells := S.cells ho I.ok
  have clk : ∀ x c, (clos X.env.cells sc.names []).lookup x = some c → X.env.cells.lookup x = some c := clos_lookup sc.names [] hcells (fun x c e => by simp at e)
  have seen : ∀ x, ((relabel sc X.env).names.lookup x = some .cell ∨ (relabel sc X.env).names.lookup x = some .free) → sc.names.lookup x = some .free := fun x hx => by
    rcases hx with z | z
    · exact relabel_lookup S.nocell z (.inl rfl)
    · exact relabel_lookup S.nocell z (.inr rfl)
  have hasC : ∀ x, sc.names.lookup x = some .free → ∃ c, (clos X.env.cells sc.names []).lookup x = some c := fun x hx => clos_has sc.names [] x (.inl (lookup_mem hx))
  have ok : (cxComp X sc N C ex s H).Ok := by
    refine ⟨I.ok.mod, S.kind, I.ok.glob, I.ok.blt, hC, fun x y c e1 e2 => I.ok.inj x y c (clk x c e1) (clk y c e2), fun x hx => hasC x (seen x hx), fun x c e => (by cases e), I.ok.hd, I.ok.frames, .inl rfl, fun b hb => ⟨?_, fun x c e => (hex b hb).2.2.2.2.1 x c (clk x c e)⟩, I.bs, ?_, fun b o e hb => ?_, fun b hb hb' => ?_, I.stack, I.stkFree⟩
    · exact Nat.ne_of_lt (Nat.lt_of_lt_of_le (hlt b hb) hC)
    · exact Nat.le_trans I.ok.bsz I.sz
    · rcases (hex b hb).2.2.2.1 with z | z
      · exact I.ok.noex b o e z
      · exact absurd (Nat.lt_of_lt_of_le (Heap.lt_size (I.ok.bs b o e).1) z) (Nat.lt_irrefl _)
    · rcases List.mem_cons.mp (I.stkSub b hb') with z | z
      · exact (hex b hb).2.1 z
      · exact (hex b hb).2.2.1 z
  obtain ⟨m0, _, hl0⟩ := I.loc
  refine ⟨ok, rfl, I.bare, Un.kept kp, ⟨m, hn, fun i x v e1 e2 e3 => ?_⟩, fun x c e => ?_, I.hok.fresh hC, fun x c e => I.freeC x c (clk x c e), fun p hp => absurd hp (by show p ∉ ([] ++ [] : List (Addr × Obj)); simp), I.hok.kept kp, ?_⟩
  · obtain ⟨g1, g2⟩ := maskS_get e2
    obtain ⟨g3, g4⟩ := okMask_at S.mask e1 g1
    have e3 : (relabel sc X.env).names.lookup x = some .local ∨ (relabel sc X.env).names.lookup x = some .cell ∨ (relabel sc X.env).names.lookup x = some .free := e3
    rcases e3 with z | z
    · exact absurd (relabel_local z) g4
    · have q := seen x z
      have w := S.fre (x, .free) (lookup_mem q) rfl
      have w : X.env.scope.names.lookup x = some .cell ∨ X.env.scope.names.lookup x = some .free := by rw [ho]; exact w
      obtain ⟨u, r, l⟩ := hl0 i x v g3 g2 (.inr w)
      refine ⟨u, r, ?_⟩
      rcases l with ⟨l, _⟩ | ⟨_, c, hc, o, hco, hcd⟩
      · have l : X.env.scope.names.lookup x = some .local := l
        rcases w with w | w <;> (rw [l] at w; cases w)
      · obtain ⟨c', hc'⟩ := hasC x q
        have e : c' = c := Option.some.inj ((clk x c' hc').symm.trans hc)
        subst e
        exact .inr ⟨z, c', hc', o, kp _ _ hco, hcd⟩
  · obtain ⟨v, o, hco, hcd⟩ := I.cell x c (clk x c e)
    exact ⟨v, o, kp _ _ hco, hcd⟩
  · rw [maskS_length, okMask_len S.mask]; rfl
variable {elt iter tg : Expr} {ifs : List Expr} {pos : Pos} {wi : TI} {g : TG} {tc : TT} {te : TE} {ks : List Nat}
/-- the block runs: RR is what is wanted at its end -/
theorem comp_core {E : Value → Shared → Prop} {RR : Value → Addr → Result → Shared → Prop} {it : Addr} {fp : List Addr} {tn : Nat → Heap → Prop} {J : It} {Qv : VK} (S : CompScope out sc X.N N ms) (ho : X.env.scope = out) (hc : X.calm = true) (hks : ∀ k ∈ ks, ms[k]? = some false) (hst : Sets g ks)
    (hg : ∀ C ex s H, PG (cxComp X sc N C ex s H) tg g) (ht : ∀ C ex s H, PTs (cxComp X sc N C ex s H) ifs tc) (he : ∀ C ex s H, PE (cxComp X sc N C ex s H) elt te)
    (I : Inv X pins σ H s) (T : Turn X.prog X.w X.K tg J fp it tn) (st0 : tn 0 s.heap) (f0 : ∀ b ∈ fp, FpOk X pins H b)
    (h : ∃ W : Nat → Nat → List V → Hp → Prop, (∃ m, W 0 m [] H) ∧ ∀ i m ys H, W i m ys H →
      (J.stop i H ∧ ∀ D, H D = none → Qv (.ref D) (upd H D (.lst ys))) ∨
      (J.go i H ∧ ys.length < sizeLine ∧ ∃ N : List V → Hp → Prop, (∀ ys' H', N ys' H' → ∃ m', m' < m ∧ W (i + 1) m' ys' H') ∧
        ∀ x H', J.yld i H x H' → g x (maskS ms σ) H' fun σ2 H2 => tc σ2 H2 fun b H3 => if b = true then te σ2 H3 fun v H4 => N (ys ++ [v]) H4 else N ys H3))
    (hRR : ∀ D C H' s' m', Inv X pins σ H' s' → H' C = none → s.heap.objs.size ≤ C → s'.heap.Ns C m' → Qv (.ref D) H' → RR (.ref D) C (.ok .next) s') :
    wpAny (model X.prog X.w) X.A (newList []) (fun acc s₃ => wpAny (model X.prog X.w) X.A (newFunctionEnv sc X.env.globals (clos X.env.cells sc.names []) [] X.env.qual none .none (some X.env)) (fun cenv s₄ =>
      codeAny (model X.prog X.w) X.A (.compStart (.ListComp elt [⟨tg, iter, ifs, 0⟩] sc pos) 0 (.ref it) acc { cenv with scope := relabel sc X.env }) (RR acc cenv.locals) s₄) E s₃) E s := by
  obtain ⟨W, ⟨m0, w0⟩, turn⟩ := h
  refine wpAny_newObj_type (wpAny_newFunctionEnv S.nocell (by intro y hy; simp at hy) (fun h₁ hns₁ hsb₁ => ?_) S.kind)
  dsimp only at hns₁ hsb₁ ⊢
  generalize hH2 : s.heap.push { cls := .type "list", dict := none, data := .seq ([] : List Value).toArray } = H2 at hns₁ hsb₁ ⊢
  generalize hDe : s.heap.objs.size = D at hns₁ hsb₁ ⊢
  generalize hCe : H2.objs.size = C at hns₁ hsb₁ ⊢
  have hCD : C = D + 1 := by rw [← hCe, ← hH2, Heap.size_push, hDe]
  have hDs : s.heap.objs.size ≤ D := Nat.le_of_eq hDe
  have hCs : s.heap.objs.size ≤ C := by omega
  have hDC : D ≠ C := by omega
  have below : ∀ b, b < s.heap.objs.size → b ≠ C ∧ b ≠ D := fun b hb => ⟨by omega, by omega⟩
  have old : ∀ b o, s.heap.get? b = some o → h₁.get? b = some o := fun b o e => hsb₁.extBut b o (below b (Heap.lt_size e)).1 (Heap.get?_push_of_some _ (hH2 ▸ Heap.get?_push_of_some _ e))
  have objD : h₁.get? D = some { cls := .type "list", dict := none, data := .seq ([] : List Value).toArray } := hsb₁.extBut _ _ hDC (Heap.get?_push_of_some _ (hH2 ▸ hDe ▸ Heap.get?_push_size _ rfl))
  have flt : ∀ b ∈ fp, b < s.heap.objs.size := fun b hb => by
    obtain ⟨o, e, _⟩ := T.obj 0 _ st0 b hb
    exact Heap.lt_size e
  have hcells := S.cells ho I.ok
  have clk : ∀ x c, (clos X.env.cells sc.names []).lookup x = some c → c < s.heap.objs.size := fun x c e => by
    obtain ⟨v, o, hco, _⟩ := I.cell x c (clos_lookup sc.names [] hcells (fun x c e => by simp at e) x c e)
    exact Heap.lt_size hco
  generalize hX : cxComp X sc N C fp s H = Y
  have hgY : PG Y tg g := hX ▸ hg C fp s H
  have htY : PTs Y ifs tc := hX ▸ ht C fp s H
  have heY : PE Y elt te := hX ▸ he C fp s H
  have Yprog : Y.prog = X.prog := by rw [← hX]; rfl
  have Yw : Y.w = X.w := by rw [← hX]; rfl
  have YK : Y.K = X.K := by rw [← hX]; rfl
  have Ycalm : Y.calm = true := by rw [← hX]; exact hc
  have YA : Y.A = X.A := by rw [← hX]; rfl
  have Yxe : Y.xe = fun _ _ => False := by rw [← hX]; rfl
  have Ypn : Y.pn = [] := by rw [← hX]; rfl
  have Yex : Y.ex = fp := by rw [← hX]; rfl
  have Ys0 : Y.s₀ = s := by rw [← hX]; rfl
  have YH0 : Y.H₀ = H := by rw [← hX]; rfl
  have Yfs : Y.fs = frs X.stack := by rw [← hX]; rfl
  have YL : Y.env.locals = C := by rw [← hX]; rfl
  have Ycl : Y.env.cells = clos X.env.cells sc.names [] := by rw [← hX]; rfl
  have Yenv : Y.env = { (newEnv sc C X.env.globals (clos X.env.cells sc.names []) X.env.qual none .none (some X.env) 0) with scope := relabel sc X.env } := by rw [← hX]; rfl
  have IY0 : ∀ t', Inv Y [] (maskS ms σ) H { s with heap := h₁, toks := t' } := fun t' => by rw [← hX]; exact I.block S ho f0 flt hCs hns₁ old
  have fpY : ∀ {H' : Hp} {ps : List (Addr × Obj)}, (∀ b ∈ fp, H' b = none) → (∀ p ∈ ps, p.1 = D) → ∀ b ∈ fp, FpOk Y ps H' b := fun {H' ps} hn hp b hb => by
    refine ⟨hn b hb, by rw [YL]; exact (below b (flt b hb)).1, fun z => ?_, .inl (by rw [Yex]; exact hb), fun x c e z => ?_, fun p hp' z => ?_⟩
    · rw [Yfs] at z
      rcases List.mem_cons.mp (I.stkSub b z) with y | y
      · exact (f0 b hb).2.1 y
      · exact (f0 b hb).2.2.1 y
    · rw [Ycl] at e
      exact (f0 b hb).2.2.2.2.1 x c (clos_lookup sc.names [] hcells (fun x c e => by simp at e) x c e) z
    · rw [Ypn] at hp'
      exact (below b (flt b hb)).2 (z.symm.trans (hp p hp'))
  have dY : ∀ {H' : Hp} {ps : List (Addr × Obj)}, H' D = none → (∀ p ∈ ps, p.1 ∈ fp) → FpOk Y ps H' D := fun {H' ps} hn hp => by
    refine ⟨hn, by rw [YL]; exact hDC, fun z => ?_, .inr (by rw [Ys0]; exact hDs), fun x c e z => ?_, fun p hp' z => ?_⟩
    · rw [Yfs] at z
      have q : H D = none := I.stkFree D z
      rcases List.mem_cons.mp (I.stkSub D z) with y | y
      · exact (below _ I.lt).2 y.symm
      · exact I.nofs hDs y
    · rw [Ycl] at e
      exact (below c (clk x c e)).2 z
    · rw [Ypn] at hp'
      exact (below p.1 (flt p.1 (hp p hp'))).2 z
  have wk : ∀ {σ6 : St}, (σ6.length = (maskS ms σ).length ∧ ∀ i, i ∉ ks → σ6[i]? = (maskS ms σ)[i]?) → (∀ (i : Nat) v, (maskS ms σ)[i]? = some (some v) → σ6[i]? = some (some v)) := fun {σ6} hf i v e => by
    rw [hf.2 i (fun z => ?_)]
    · exact e
    · have q := (maskS_get e).1
      rw [hks i z] at q
      cases q
  have loop : ∀ t', codeAny (model X.prog X.w) X.A (.compLoop (.ListComp elt [⟨tg, iter, ifs, 0⟩] sc pos) 0 (.ref it) (.ref D) Y.env) (RR (.ref D) C) { s with heap := h₁, toks := t' } := fun t' => by
    refine codeAny_compLoop_own (fun n s' => ∃ i ys H', Inv Y [] (maskS ms σ) H' s' ∧ tn i s'.heap ∧ (∀ b ∈ fp, H' b = none) ∧ H' D = none ∧ (∃ (its : List Value) (n : Nat), Vals ys its ∧ s'.heap.get? D = some { cls := .type "list", data := .seq its.toArray n }) ∧ ys.length ≤ sizeLine ∧ W i n ys H') ?_ m0
      ⟨0, [], H, IY0 t', T.keep _ _ _ st0 (fun b _ o e => old b o e), fun b hb => (f0 b hb).1, I.hok.fresh hDs, ⟨[], _, .nil, objD⟩, Nat.zero_le _, w0⟩
    rintro n s3 ⟨i, ys, H3, I3, st3, fr3, hD3, ⟨its, nn, vs3, ob3⟩, hl3, w3⟩
    rcases turn i n ys H3 w3 with ⟨stop, qn⟩ | ⟨go, hlen, NN, hN, step⟩
    · have z := T.done Y Yprog Yw YK Ycalm i (pinsAt [D] s3.heap) s3 (maskS ms σ) H3 (fun _ _ => False) (I3.pinned (fp := [D]) (pins := []) (fun b hb => ?c1) (fun b hb => ?c2)) (fpY fr3 (fun p hp => ?c3)) st3 stop
      case c1 => rw [List.mem_singleton.mp hb]; exact dY hD3 (fun p hp => absurd hp (by simp))
      case c2 => rw [List.mem_singleton.mp hb]; exact ⟨_, ob3, fun v e => by cases e⟩
      case c3 => exact List.mem_singleton.mp (of_pinsAt hp).1
      rw [YA] at z
      refine wpAny_mono z (fun r s4 hr4 => ?_) fun _ _ f => f
      obtain ⟨hr, I4⟩ := hr4
      subst hr
      obtain ⟨obD, hD4, _⟩ := I4.pin (D, _) (List.mem_append_right _ (mem_pinsAt (List.mem_singleton.mpr rfl) ob3))
      have b4 := I4.base
      rw [Yfs, Yex, YH0, Ys0] at b4
      have hok4 := I4.hok
      rw [Yprog, Yw] at hok4
      have I5 : Inv X pins σ H3 s4 := I.call' (ch := fp) (by rw [I4.os, Ys0]) b4 hok4 I4.bare (fun b hb => ⟨(f0 b hb).2.2.2.1, (f0 b hb).2.1, (f0 b hb).2.2.2.2.1, (f0 b hb).2.2.2.2.2⟩)
      have nC : H3 C = none := by rw [← YL]; exact I4.free
      obtain ⟨m4, hm4, _⟩ := I4.loc
      rw [YL] at hm4
      refine hRR D C (upd H3 D (.lst ys)) s4 m4 (I5.track hD4 (Nat.le_trans I.sz hDs) (fun z => (below _ I.lt).2 z.symm) (fun x c e => ?_) (fun p hp => ?_) ⟨hl3, its, nn, vs3, obD⟩) (by rw [upd_ne (Ne.symm hDC)]; exact nC) hCs hm4 (qn D hD4)
      · obtain ⟨v, o, hco, _⟩ := I.cell x c e
        exact (below c (Heap.lt_size hco)).2
      · exact (below _ (Heap.lt_size (I.pin p hp).1)).2
    · have z := T.item Y Yprog Yw YK Ycalm i (pinsAt [D] s3.heap) s3 (maskS ms σ) H3 (fun _ _ => False) (I3.pinned (fp := [D]) (pins := []) (fun b hb => ?c1) (fun b hb => ?c2)) (fpY fr3 (fun p hp => ?c3)) st3 go
      case c1 => rw [List.mem_singleton.mp hb]; exact dY hD3 (fun p hp => absurd hp (by simp))
      case c2 => rw [List.mem_singleton.mp hb]; exact ⟨_, ob3, fun v e => by cases e⟩
      case c3 => exact List.mem_singleton.mp (of_pinsAt hp).1
      rw [YA] at z
      refine wpAny_mono z (fun r s4 hr4 => ?_) fun _ _ f => f
      obtain ⟨u, hr, h4⟩ := hr4
      subst hr
      refine wpAny_mono h4 (fun _ s5 h5 => ?_) fun _ _ f => f
      obtain ⟨x, H5, I5, r5, y5, st5, fr5⟩ := h5
      have I5' := I5.pinned (fpY fr5 (fun p hp => List.mem_singleton.mp (of_pinsAt hp).1)) (T.obj _ _ st5)
      have q5 := hst x (maskS ms σ) H5 _ (fun σ2 H2 => (σ2.length = (maskS ms σ).length ∧ ∀ i, i ∉ ks → σ2[i]? = (maskS ms σ)[i]?) ∧ (tc σ2 H2 fun b H3 => if b = true then te σ2 H3 fun v H4 => NN (ys ++ [v]) H4 else NN ys H3)) (step x H5 y5) (fun σ2 H2 f q => ⟨f, q⟩)
      have z5 := hgY _ s5 (maskS ms σ) H5 x u _ I5' r5 q5
      rw [Yprog, Yw, YA, Yxe] at z5
      refine wpAny_mono z5 (fun _ s6 h6 => ?_) fun _ _ f => f
      obtain ⟨σ6, H6, I6, f6, q6⟩ := h6
      have z6 := htY _ s6 σ6 H6 _ I6 q6
      rw [Yprog, Yw, YA, Yxe] at z6
      refine wpAny_mono z6 (fun b s7 h7 => ?_) fun _ _ f => f
      obtain ⟨H7, I7, q7⟩ := h7
      -- what the pins say behind
      have back : ∀ {H8 : Hp} {s8 : Shared}, Inv Y (([] ++ pinsAt [D] s3.heap) ++ pinsAt fp s5.heap) σ6 H8 s8 → (∀ b ∈ fp, H8 b = none) ∧ H8 D = none ∧ s8.heap.get? D = some { cls := .type "list", data := .seq its.toArray nn } ∧ (∀ b ∈ fp, ∀ o, s5.heap.get? b = some o → s8.heap.get? b = some o) ∧ Inv Y (pinsAt fp s5.heap) σ6 H8 s8 := fun {H8 s8} I8 => by
        obtain ⟨obD, hD8, _⟩ := I8.pin (D, _) (List.mem_append_right _ (List.mem_append_left _ (List.mem_append_right _ (mem_pinsAt (List.mem_singleton.mpr rfl) ob3))))
        refine ⟨fun b hb => ?_, hD8, obD, fun b hb o e => (I8.pin (b, o) (List.mem_append_right _ (List.mem_append_right _ (mem_pinsAt hb e)))).1, I8.pins_of fun p hp => I8.pin p (List.mem_append_right _ (List.mem_append_right _ hp))⟩
        obtain ⟨o, e, _⟩ := T.obj _ _ st5 b hb
        exact (I8.pin (b, o) (List.mem_append_right _ (List.mem_append_right _ (mem_pinsAt hb e)))).2.1
      cases b with
      | false =>
        have q7 : NN ys H7 := q7
        obtain ⟨m', hm', w'⟩ := hN _ _ q7
        obtain ⟨k1, k2, k3, k4, k5⟩ := back I7
        show ∃ m, m < n ∧ _
        exact ⟨m', hm', i + 1, ys, H7, (k5.pins_of (fun p hp => absurd hp (by simp))).weak f6.1.symm (wk f6), T.keep _ _ _ st5 k4, k1, k2, ⟨its, nn, vs3, k3⟩, hl3, w'⟩
      | true =>
        have q7 : te σ6 H7 fun v H4 => NN (ys ++ [v]) H4 := q7
        have z7 := heY _ s7 σ6 H7 _ I7 q7
        rw [Yprog, Yw, YA, Yxe] at z7
        show wpAny _ _ _ _ _ _
        refine wpAny_mono z7 (fun v s8 h8 => ?_) fun _ _ f => f
        obtain ⟨v8, H8, I8, r8, q8⟩ := h8
        obtain ⟨k1, k2, k3, k4, k5⟩ := back I8
        have I9 : Inv Y (pinsAt fp s5.heap) σ6 (upd H8 D (.lst ys)) s8 := k5.track k2 (by rw [Ys0]; exact hDs) (by rw [YL]; exact hDC) (fun x c e z => (below c (clk x c (by rw [Ycl] at e; exact e))).2 z) (fun p hp => by
          rw [Ypn] at hp
          exact (below p.1 (flt p.1 (of_pinsAt hp).1)).2) ⟨hl3, its, nn, vs3, k3⟩
        have z8 := mt_append (X := Y) (pinsAt fp s5.heap) s8 σ6 (upd H8 D (.lst ys)) (.ref D) [v8] (.ref D) [v] (fun _ H9 => H9 = upd (upd H8 D (.lst ys)) D (.lst (ys ++ [v8]))) I9 rfl (.cons r8 .nil) ⟨D, ys, v8, rfl, rfl, upd_same, hlen, rfl⟩
        rw [Yprog, Yw, YA, Yxe] at z8
        refine wpAny_mono z8 (fun _ s9 h9 => ?_) fun _ _ f => f
        obtain ⟨_, H9, I9', _, e9⟩ := h9
        subst e9
        rw [upd_upd] at I9'
        have I10 := I9'.untrack k2
        obtain ⟨m', hm', w'⟩ := hN _ _ q8
        have ok9 : ObjOk Y.prog Y.w _ s9.heap D (.lst (ys ++ [v8])) := I9'.hok D _ upd_same
        obtain ⟨l9, its9, n9, vs9, ob9⟩ := ok9
        refine ⟨m', hm', i + 1, ys ++ [v8], H8, (I10.pins_of (fun p hp => absurd hp (by simp))).weak f6.1.symm (wk f6), T.keep _ _ _ st5 (fun b hb o e => ?_), k1, k2, ⟨its9, n9, vs9, ob9⟩, l9, w'⟩
        exact (I10.pin (b, o) (List.mem_append_right _ (mem_pinsAt hb e))).1
  have z := fun t' => codeAny_compStart_list (loop t') (T.self _ 0 _ _ _ (T.keep _ _ _ st0 (fun b _ o e => old b o e)) (loop t'))
  rw [Yenv] at z
  exact z _

/-- [elt for tg in iter (if c)] -/
theorem pe_comp {NX : List Str} (S : CompScope out sc NX N ms) (ho : X.env.scope = out) (hnx : X.N = NX) (hc : X.calm = true) (hi : PI X tg iter wi) (hst : Sets g ks) (hks : ∀ k ∈ ks, ms[k]? = some false)
    (hg : ∀ C ex s H, PG (cxComp X sc N C ex s H) tg g) (ht : ∀ C ex s H, PTs (cxComp X sc N C ex s H) ifs tc) (he : ∀ C ex s H, PE (cxComp X sc N C ex s H) elt te)
    (hs : ∀ x, foldedSetIterable iter X.env x = pure x := by intro _; rfl) : PE X (.ListComp elt [⟨tg, iter, ifs, 0⟩] sc pos) (tComp ms wi g tc te) := by
  intro pins s σ H Q I h
  subst hnx
  rw [eval_ListComp]
  refine wpAny_comprehension_free (use := none) (g := ⟨tg, iter, ifs, 0⟩) (gs := []) rfl hs (closureFor_eq (S.cells ho I.ok)) S.kind S.own (thn (hi pins s σ H _ I h) fun v s1 h1 => thn h1 fun itv s2 h2 => ?_)
  obtain ⟨it, fp, tn, J, H2, e, I2, T, st2, f2, hW⟩ := h2
  subst e
  refine comp_core (Qv := Q) S ho hc hks hst hg ht he I2 T st2 f2 hW ?_
  intro D C H' s' m' I' nC hC hm q
  refine ⟨m', hm, fun h' sb => ⟨.ref D, H', ?_, rfl, q⟩⟩
  exact I'.turned (t' := s'.toks) (it := C) (fun b o hb e => sb.extBut b o hb e) nC (Ne.symm (Nat.ne_of_lt (Nat.lt_of_lt_of_le I2.lt hC))) (.inr (Nat.le_trans I2.sz hC)) (fun x c e => by
    obtain ⟨v, o, hco, _⟩ := I2.cell x c e
    exact Nat.ne_of_lt (Nat.lt_of_lt_of_le (Heap.lt_size hco) hC)) (fun p hp => Nat.ne_of_lt (Nat.lt_of_lt_of_le (Heap.lt_size (I2.pin p hp).1) hC))
end

/-! ### the forms one uses: what holds ahead of the turn i, of the items made and the heap -/
theorem comp_range {lo : Int} {n : Nat} {B : V → List V → (List V → Hp → Prop) → Hp → Prop} {Z : List V → Hp → Prop} {H : Hp} (Pv : Nat → List V → Hp → Prop) (h0 : Pv 0 [] H)
    (hy : ∀ i ys H, i < n → Pv i ys H → ys.length < sizeLine) (hs : ∀ i ys H, i < n → Pv i ys H → B (.int (lo + i)) ys (Pv (i + 1)) H) (hd : ∀ ys H, Pv n ys H → Z ys H) :
    ∃ W : Nat → Nat → List V → Hp → Prop, (∃ m, W 0 m [] H) ∧ ∀ i m ys H, W i m ys H →
      ((Itr lo n).stop i H ∧ Z ys H) ∨ ((Itr lo n).go i H ∧ ys.length < sizeLine ∧ ∃ N : List V → Hp → Prop, (∀ ys' H', N ys' H' → ∃ m', m' < m ∧ W (i + 1) m' ys' H') ∧ ∀ x H', (Itr lo n).yld i H x H' → B x ys N H') := by
  refine ⟨fun i m ys H => m = n - i ∧ i ≤ n ∧ Pv i ys H, ⟨n, by simp, Nat.zero_le _, h0⟩, ?_⟩
  rintro i m ys H ⟨rfl, hi, p⟩
  by_cases hlt : i < n
  · refine .inr ⟨hlt, hy i ys H hlt p, Pv (i + 1), fun ys' H' p' => ⟨n - (i + 1), by omega, rfl, hlt, p'⟩, fun x H' y => ?_⟩
    obtain ⟨e, y⟩ := y
    subst e y
    exact hs i ys _ hlt p
  · have e : i = n := by omega
    subst e
    exact .inl ⟨Nat.le_refl _, hd ys H p⟩
end L2

set_option Elab.async false
set_option linter.all false
set_option maxRecDepth 100000
set_option maxHeartbeats 4000000
/-! DATA: None, bools, ints, texts, tuples and lists of these, however deep; ==, != and in over them -/
namespace L2
open PySem PySem.Spec PyProof.Rows

inductive Dt where
  | non | bl (b : Bool) | int (i : Int) | str (x : Str) | tup (l : List Dt) | lst (l : List Dt)

mutual
def dEq : Dt → Dt → Bool
  | .non, .non => true
  | .bl a, .bl b => a == b
  | .bl a, .int b => (if a then 1 else 0) == b
  | .int a, .bl b => a == (if b then 1 else 0)
  | .int a, .int b => a == b
  | .str a, .str b => a == b
  | .tup l, .tup m => dEqs l m
  | .lst l, .lst m => dEqs l m
  | _, _ => false
def dEqs : List Dt → List Dt → Bool
  | [], [] => true
  | a :: l, b :: m => dEq a b && dEqs l m
  | _, _ => false
end
mutual
theorem dEq_refl : ∀ d : Dt, dEq d d = true
  | .non => by rw [dEq]
  | .bl a => by rw [dEq]; exact beq_self_eq_true a
  | .int a => by rw [dEq]; exact beq_self_eq_true a
  | .str a => by rw [dEq]; exact beq_self_eq_true a
  | .tup l => by rw [dEq]; exact dEqs_refl l
  | .lst l => by rw [dEq]; exact dEqs_refl l
theorem dEqs_refl : ∀ l : List Dt, dEqs l l = true
  | [] => by rw [dEqs]
  | a :: l => by rw [dEqs, dEq_refl a, dEqs_refl l]; rfl
end
mutual
def dep : Dt → Nat
  | .tup l => deps l + 1
  | .lst l => deps l + 1
  | _ => 0
def deps : List Dt → Nat
  | [] => 0
  | a :: l => max (dep a) (deps l)
end
mutual
def Is (K : PySem.W.Frag) (H : Hp) : Dt → V → Prop
  | .non, v => v = .non
  | .bl b, v => v = .bl b
  | .int i, v => v = .int i
  | .str x, v => v = .str x
  | .tup l, v => ∃ a xs, v = .ref a ∧ SqT K H a xs ∧ Iss K H l xs
  | .lst l, v => ∃ a xs, v = .ref a ∧ SqL K H a xs ∧ Iss K H l xs
def Iss (K : PySem.W.Frag) (H : Hp) : List Dt → List V → Prop
  | [], vs => vs = []
  | d :: l, vs => ∃ v r, vs = v :: r ∧ Is K H d v ∧ Iss K H l r
end
theorem Iss.length {K : PySem.W.Frag} {H : Hp} : ∀ {l : List Dt} {vs : List V}, Iss K H l vs → vs.length = l.length
  | [], vs, h => by rw [Iss] at h; rw [h]; rfl
  | d :: l, vs, h => by
    rw [Iss] at h
    obtain ⟨v, r, rfl, _, h2⟩ := h
    rw [List.length_cons, List.length_cons, Iss.length h2]
theorem Iss.nil {K : PySem.W.Frag} {H : Hp} : Iss K H [] [] := by rw [Iss]
theorem Iss.cons {K : PySem.W.Frag} {H : Hp} {d : Dt} {l : List Dt} {v : V} {r : List V} (h1 : Is K H d v) (h2 : Iss K H l r) : Iss K H (d :: l) (v :: r) := by rw [Iss]; exact ⟨v, r, rfl, h1, h2⟩
theorem Iss.get {K : PySem.W.Frag} {H : Hp} : ∀ {l : List Dt} {vs : List V} {i : Nat} {v : V}, Iss K H l vs → vs[i]? = some v → ∃ d, l[i]? = some d ∧ Is K H d v
  | [], vs, i, v, h, e => by rw [Iss] at h; rw [h] at e; simp at e
  | d :: l, vs, 0, v, h, e => by
    rw [Iss] at h
    obtain ⟨w, r, rfl, h1, h2⟩ := h
    have e : w = v := Option.some.inj e
    subst e
    exact ⟨d, rfl, h1⟩
  | d :: l, vs, i + 1, v, h, e => by
    rw [Iss] at h
    obtain ⟨w, r, rfl, h1, h2⟩ := h
    exact Iss.get h2 (i := i) e
/-- ints, texts: flat data -/
theorem Iss.ints {K : PySem.W.Frag} {H : Hp} : ∀ ns : List Int, Iss K H (ns.map Dt.int) (ns.map V.int)
  | [] => .nil
  | n :: ns => .cons (by rw [Is]) (Iss.ints ns)
theorem Iss.strs {K : PySem.W.Frag} {H : Hp} : ∀ ns : List Str, Iss K H (ns.map Dt.str) (ns.map V.str)
  | [] => .nil
  | n :: ns => .cons (by rw [Is]) (Iss.strs ns)
/-- data stay where lists and tuples stay -/
theorem Same.tup {K : PySem.W.Frag} {H H' : Hp} {a : Addr} {xs : List V} (e : Same H H') (h : SqT K H a xs) : SqT K H' a xs := by
  rcases h with (h | ⟨o, h⟩) | h
  · exact .inl (.inl (e _ _ h))
  · exact .inl (.inr ⟨o, e _ _ h⟩)
  · exact .inr h
mutual
theorem Is.same {K : PySem.W.Frag} {H H' : Hp} (s : Same H H') : ∀ {d : Dt} {v : V}, Is K H d v → Is K H' d v
  | .non, v, h => by rw [Is] at h ⊢; exact h
  | .bl b, v, h => by rw [Is] at h ⊢; exact h
  | .int i, v, h => by rw [Is] at h ⊢; exact h
  | .str x, v, h => by rw [Is] at h ⊢; exact h
  | .tup l, v, h => by
    rw [Is] at h ⊢
    obtain ⟨a, xs, e, h1, h2⟩ := h
    exact ⟨a, xs, e, s.tup h1, Iss.same s h2⟩
  | .lst l, v, h => by
    rw [Is] at h ⊢
    obtain ⟨a, xs, e, h1, h2⟩ := h
    exact ⟨a, xs, e, s.seq h1, Iss.same s h2⟩
theorem Iss.same {K : PySem.W.Frag} {H H' : Hp} (s : Same H H') : ∀ {l : List Dt} {vs : List V}, Iss K H l vs → Iss K H' l vs
  | [], vs, h => by rw [Iss] at h ⊢; exact h
  | d :: l, vs, h => by
    rw [Iss] at h ⊢
    obtain ⟨v, r, e, h1, h2⟩ := h
    exact ⟨v, r, e, Is.same s h1, Iss.same s h2⟩
end
/-! ### equality -/
def ej (l m : List Dt) (j : Nat) : Bool := match l[j]?, m[j]? with
  | some a, some b => dEq a b
  | _, _ => false
theorem dEqs_all : ∀ l m : List Dt, ((List.range (min l.length m.length)).all (ej l m) && l.length == m.length) = dEqs l m
  | [], [] => by rw [dEqs]; rfl
  | [], b :: m => by simp [dEqs]
  | a :: l, [] => by simp [dEqs]
  | a :: l, b :: m => by
    rw [dEqs, ← dEqs_all l m]
    have e : min (a :: l).length (b :: m).length = min l.length m.length + 1 := by simp only [List.length_cons]; omega
    rw [e, List.range_succ_eq_map, List.all_cons, List.all_map]
    have e2 : (ej (a :: l) (b :: m) ∘ Nat.succ) = ej l m := by funext j; rfl
    have e3 : ej (a :: l) (b :: m) 0 = dEq a b := rfl
    have e4 : ((a :: l).length == (b :: m).length) = (l.length == m.length) := by simp
    rw [e2, e3, e4, Bool.and_assoc]
section
variable {X : Cx} {pins : List (Addr × Obj)} {σ : St} {H : Hp} {s : Shared}
theorem Inv.tupleD {K : PySem.W.Frag} (I : Inv X pins σ H s) (hK : X.K = K) {l : List Dt} {v : V} {u : Value} (h : Is K H (.tup l) v) (r : RelV v u) : ∃ (a : Addr) (xs : List V) (its : List Value), v = .ref a ∧ u = .ref a ∧ SqT K H a xs ∧ Iss K H l xs ∧ Vals xs its ∧ s.heap.IsTuple a its.toArray := by
  subst hK
  rw [Is] at h
  obtain ⟨a, xs, rfl, h1, h2⟩ := h
  obtain ⟨its, h3, h4, _⟩ := I.tuple h1
  exact ⟨a, xs, its, rfl, r, h1, h2, h3, h4⟩
theorem Inv.listD {K : PySem.W.Frag} (I : Inv X pins σ H s) (hK : X.K = K) {l : List Dt} {v : V} {u : Value} (h : Is K H (.lst l) v) (r : RelV v u) : ∃ (a : Addr) (xs : List V) (its : List Value), v = .ref a ∧ u = .ref a ∧ SqL K H a xs ∧ Iss K H l xs ∧ Vals xs its ∧ s.heap.IsList a its.toArray := by
  subst hK
  rw [Is] at h
  obtain ⟨a, xs, rfl, h1, h2⟩ := h
  obtain ⟨its, h3, h4, _⟩ := I.list h1
  exact ⟨a, xs, its, rfl, r, h1, h2, h3, h4.isList⟩
mutual
/-- one thing is two data: they are alike -/
theorem eq_same (I : Inv X pins σ H s) : ∀ (d e : Dt) {v : V}, Is X.K H d v → Is X.K H e v → dEq d e = true
  | .tup l, .tup m, v, h1, h2 => by
    rw [Is] at h1; rw [Is] at h2
    obtain ⟨a, xs, rfl, q1, q2⟩ := h1
    obtain ⟨b, ys, e, q3, q4⟩ := h2
    cases e
    have e := I.tuple_inj q1 q3
    subst e
    rw [dEq]
    exact eqs_same I l m q2 q4
  | .lst l, .lst m, v, h1, h2 => by
    rw [Is] at h1; rw [Is] at h2
    obtain ⟨a, xs, rfl, q1, q2⟩ := h1
    obtain ⟨b, ys, e, q3, q4⟩ := h2
    cases e
    have e := I.list_inj q1 q3
    subst e
    rw [dEq]
    exact eqs_same I l m q2 q4
  | .tup l, .lst m, v, h1, h2 => by
    rw [Is] at h1; rw [Is] at h2
    obtain ⟨a, xs, rfl, q1, q2⟩ := h1
    obtain ⟨b, ys, e, q3, q4⟩ := h2
    cases e
    obtain ⟨i1, _, k1, _⟩ := I.tuple q1
    obtain ⟨i2, _, k2, _⟩ := I.list q3
    exact absurd rfl (SeqAt.ne_of_list_tuple k2.isList k1)
  | .lst l, .tup m, v, h1, h2 => by
    rw [Is] at h1; rw [Is] at h2
    obtain ⟨a, xs, rfl, q1, q2⟩ := h1
    obtain ⟨b, ys, e, q3, q4⟩ := h2
    cases e
    obtain ⟨i1, _, k1, _⟩ := I.tuple q3
    obtain ⟨i2, _, k2, _⟩ := I.list q1
    exact absurd rfl (SeqAt.ne_of_list_tuple k2.isList k1)
  | .non, e, v, h1, h2 => by
    rw [Is] at h1; subst h1
    cases e <;> rw [Is] at h2 <;> first | rfl | (exfalso; first | (cases h2; done) | (obtain ⟨_, _, z, _⟩ := h2; cases z))
  | .bl b, e, v, h1, h2 => by
    rw [Is] at h1; subst h1
    cases e <;> rw [Is] at h2 <;> first | (cases h2; rw [dEq]; exact beq_self_eq_true _) | (exfalso; first | (cases h2; done) | (obtain ⟨_, _, z, _⟩ := h2; cases z))
  | .int b, e, v, h1, h2 => by
    rw [Is] at h1; subst h1
    cases e <;> rw [Is] at h2 <;> first | (cases h2; rw [dEq]; exact beq_self_eq_true _) | (exfalso; first | (cases h2; done) | (obtain ⟨_, _, z, _⟩ := h2; cases z))
  | .str b, e, v, h1, h2 => by
    rw [Is] at h1; subst h1
    cases e <;> rw [Is] at h2 <;> first | (cases h2; rw [dEq]; exact beq_self_eq_true _) | (exfalso; first | (cases h2; done) | (obtain ⟨_, _, z, _⟩ := h2; cases z))
  | .tup l, .non, v, h1, h2 => by rw [Is] at h1; rw [Is] at h2; obtain ⟨_, _, z, _⟩ := h1; rw [h2] at z; cases z
  | .tup l, .bl _, v, h1, h2 => by rw [Is] at h1; rw [Is] at h2; obtain ⟨_, _, z, _⟩ := h1; rw [h2] at z; cases z
  | .tup l, .int _, v, h1, h2 => by rw [Is] at h1; rw [Is] at h2; obtain ⟨_, _, z, _⟩ := h1; rw [h2] at z; cases z
  | .tup l, .str _, v, h1, h2 => by rw [Is] at h1; rw [Is] at h2; obtain ⟨_, _, z, _⟩ := h1; rw [h2] at z; cases z
  | .lst l, .non, v, h1, h2 => by rw [Is] at h1; rw [Is] at h2; obtain ⟨_, _, z, _⟩ := h1; rw [h2] at z; cases z
  | .lst l, .bl _, v, h1, h2 => by rw [Is] at h1; rw [Is] at h2; obtain ⟨_, _, z, _⟩ := h1; rw [h2] at z; cases z
  | .lst l, .int _, v, h1, h2 => by rw [Is] at h1; rw [Is] at h2; obtain ⟨_, _, z, _⟩ := h1; rw [h2] at z; cases z
  | .lst l, .str _, v, h1, h2 => by rw [Is] at h1; rw [Is] at h2; obtain ⟨_, _, z, _⟩ := h1; rw [h2] at z; cases z
theorem eqs_same (I : Inv X pins σ H s) : ∀ (l m : List Dt) {vs : List V}, Iss X.K H l vs → Iss X.K H m vs → dEqs l m = true
  | [], [], vs, h1, h2 => by rw [dEqs]
  | [], b :: m, vs, h1, h2 => by rw [Iss] at h1; rw [Iss] at h2; obtain ⟨_, _, z, _⟩ := h2; rw [h1] at z; cases z
  | a :: l, [], vs, h1, h2 => by rw [Iss] at h1; rw [Iss] at h2; obtain ⟨_, _, z, _⟩ := h1; rw [h2] at z; cases z
  | a :: l, b :: m, vs, h1, h2 => by
    rw [Iss] at h1; rw [Iss] at h2
    obtain ⟨v, r, rfl, q1, q2⟩ := h1
    obtain ⟨v', r', e, q3, q4⟩ := h2
    cases e
    rw [dEqs, eq_same I a b q1 q3, eqs_same I l m q2 q4]
    rfl
end
theorem dep_le {d : Dt} : ∀ {l : List Dt} {j : Nat}, l[j]? = some d → dep d ≤ deps l
  | [], j, h => by simp at h
  | a :: l, 0, h => by
    have e : a = d := Option.some.inj h
    subst e
    rw [deps]; omega
  | a :: l, j + 1, h => by
    have q := dep_le (l := l) (j := j) h
    rw [deps]; omega
/-- the items' answers -/
theorem items_eq {A : Around} {l m : List Dt} {xs ys : List V} {us vs : List Value} (ih : ∀ (j : Nat) (d e : Dt) {x y : V} {u v : Value}, l[j]? = some d → m[j]? = some e → Is X.K H d x → Is X.K H e y → RelV x u → RelV y v → SeqAt.EqAt A s u v (dEq d e))
    (h1 : Iss X.K H l xs) (h2 : Iss X.K H m ys) (r1 : Vals xs us) (r2 : Vals ys vs) : ∀ j (q1 : j < us.toArray.size) (q2 : j < vs.toArray.size), SeqAt.EqAt A s us.toArray[j] vs.toArray[j] (ej l m j) := by
  intro j q1 q2
  have q1' : j < us.length := by simpa using q1
  have q2' : j < vs.length := by simpa using q2
  have e1 : us.toArray[j] = us[j] := by simp
  have e2 : vs.toArray[j] = vs[j] := by simp
  rw [e1, e2]
  have lx : j < xs.length := by rw [r1.length]; exact q1'
  have ly : j < ys.length := by rw [r2.length]; exact q2'
  obtain ⟨u, hu, ru⟩ := r1.get (List.getElem?_eq_getElem lx)
  obtain ⟨v, hv, rv⟩ := r2.get (List.getElem?_eq_getElem ly)
  obtain ⟨d, hd, id⟩ := h1.get (List.getElem?_eq_getElem lx)
  obtain ⟨e, he, ie⟩ := h2.get (List.getElem?_eq_getElem ly)
  have e3 : us[j] = u := by rw [List.getElem?_eq_getElem q1'] at hu; exact Option.some.inj hu
  have e4 : vs[j] = v := by rw [List.getElem?_eq_getElem q2'] at hv; exact Option.some.inj hv
  have e5 : ej l m j = dEq d e := by unfold ej; rw [hd, he]
  rw [e3, e4, e5]
  exact ih j d e hd he id ie ru rv
theorem eqs_tup {l m : List Dt} {xs ys : List V} {us vs : List Value} (h1 : Iss X.K H l xs) (h2 : Iss X.K H m ys) (r1 : Vals xs us) (r2 : Vals ys vs) : ((List.range (min us.toArray.size vs.toArray.size)).all (ej l m) && us.toArray.size == vs.toArray.size) = dEqs l m := by
  have e1 : us.toArray.size = l.length := by rw [List.size_toArray, ← r1.length, h1.length]
  have e2 : vs.toArray.size = m.length := by rw [List.size_toArray, ← r2.length, h2.length]
  rw [e1, e2, dEqs_all]
/-- == of data, the answer that is asked for -/
theorem eqAt_D (I : Inv X pins σ H s) : ∀ (n : Nat) (A : Around) (d e : Dt) {x y : V} {u v : Value}, dep d ≤ n → A.units + n + 1 < cLine → Is X.K H d x → Is X.K H e y → RelV x u → RelV y v → SeqAt.EqAt A s u v (dEq d e) := by
  intro n
  induction n with
  | zero =>
    intro A d e x y u v hn hu h1 h2 r1 r2
    have hu0 : A.units < cLine := by omega
    cases d with
    | tup l => rw [dep] at hn; omega
    | lst l => rw [dep] at hn; omega
    | _ => 
      rw [Is] at h1; subst h1
      cases e with
      | tup m =>
        obtain ⟨a, xs, its, rfl, rfl, q1, q2, q3, q4⟩ := I.tupleD rfl h2 r2
        first
          | (cases r1; exact SeqAt.EqAt.none_tuple q4 hu0)
          | (cases r1; exact SeqAt.EqAt.bool_tuple _ q4 hu0)
          | (obtain ⟨t, rfl⟩ := r1; exact SeqAt.EqAt.int_tuple _ t q4 hu0)
          | (obtain ⟨t, rfl⟩ := r1; exact SeqAt.EqAt.str_tuple _ t q4 hu0)
      | lst m =>
        obtain ⟨a, xs, its, rfl, rfl, q1, q2, q3, q4⟩ := I.listD rfl h2 r2
        first
          | (cases r1; exact SeqAt.EqAt.none_list q4 hu0)
          | (cases r1; exact SeqAt.EqAt.bool_list _ q4 hu0)
          | (obtain ⟨t, rfl⟩ := r1; exact SeqAt.EqAt.int_list _ t q4 hu0)
          | (obtain ⟨t, rfl⟩ := r1; exact SeqAt.EqAt.str_list _ t q4 hu0)
      | _ =>
        rw [Is] at h2; subst h2
        exact eqAt_V r1 r2 rfl rfl
  | succ n ih =>
    intro A d e x y u v hn hu h1 h2 r1 r2
    have hu0 : A.units < cLine := by omega
    have hu1 : A.in1.units + n + 1 < cLine := by show A.units + 1 + n + 1 < cLine; omega
    cases d with
    | tup l =>
      obtain ⟨a, xs, its, rfl, rfl, q1, q2, q3, q4⟩ := I.tupleD rfl h1 r1
      rw [dep] at hn
      cases e with
      | tup m =>
        obtain ⟨b, ys, ist, rfl, rfl, p1, p2, p3, p4⟩ := I.tupleD rfl h2 r2
        by_cases hab : a = b
        · subst hab
          rw [eq_same I _ _ h1 h2]
          exact SeqAt.EqAt.same _
        · refine SeqAt.EqAt.of_refs hab ?_
          have z := SeqAt.RcAt.tuples q4 p4 hu0 (items_eq (X := X) (fun j d e {x y u v} hd _ g1 g2 g3 g4 => ih A.in1 d e (Nat.le_trans (dep_le hd) (by omega)) hu1 g1 g2 g3 g4) q2 p2 q3 p3)
          rw [eqs_tup q2 p2 q3 p3] at z
          rw [dEq]
          exact z
      | lst m =>
        obtain ⟨b, ys, ist, rfl, rfl, p1, p2, p3, p4⟩ := I.listD rfl h2 r2
        exact SeqAt.EqAt.tuple_list q4 p4 hu0
      | non => rw [Is] at h2; subst h2; cases r2; exact SeqAt.EqAt.tuple_none q4 hu0
      | bl b => rw [Is] at h2; subst h2; cases r2; exact SeqAt.EqAt.tuple_bool _ q4 hu0
      | int i => rw [Is] at h2; subst h2; obtain ⟨t, rfl⟩ := r2; exact SeqAt.EqAt.tuple_int _ t q4 hu0
      | str i => rw [Is] at h2; subst h2; obtain ⟨t, rfl⟩ := r2; exact SeqAt.EqAt.tuple_str _ t q4 hu0
    | lst l =>
      obtain ⟨a, xs, its, rfl, rfl, q1, q2, q3, q4⟩ := I.listD rfl h1 r1
      rw [dep] at hn
      cases e with
      | lst m =>
        obtain ⟨b, ys, ist, rfl, rfl, p1, p2, p3, p4⟩ := I.listD rfl h2 r2
        by_cases hab : a = b
        · subst hab
          rw [eq_same I _ _ h1 h2]
          exact SeqAt.EqAt.same _
        · refine SeqAt.EqAt.of_refs hab ?_
          rw [dEq]
          have ei := eqs_tup q2 p2 q3 p3
          by_cases hz : its.toArray.size = ist.toArray.size
          · have z := SeqAt.RcAt.lists q4 p4 hz hu0 (items_eq (X := X) (fun j d e {x y u v} hd _ g1 g2 g3 g4 => ih A.in1 d e (Nat.le_trans (dep_le hd) (by omega)) hu1 g1 g2 g3 g4) q2 p2 q3 p3)
            rw [← hz, Nat.min_self, beq_self_eq_true, Bool.and_true] at ei
            rw [ei] at z
            exact z
          · have hz' : (its.toArray.size == ist.toArray.size) = false := by simpa using hz
            rw [hz', Bool.and_false] at ei
            rw [← ei]
            exact SeqAt.RcAt.lists_lengths q4 p4 (by simpa using hz) hu0
      | tup m =>
        obtain ⟨b, ys, ist, rfl, rfl, p1, p2, p3, p4⟩ := I.tupleD rfl h2 r2
        exact SeqAt.EqAt.list_tuple q4 p4 hu0
      | non => rw [Is] at h2; subst h2; cases r2; exact SeqAt.EqAt.list_none q4 hu0
      | bl b => rw [Is] at h2; subst h2; cases r2; exact SeqAt.EqAt.list_bool _ q4 hu0
      | int i => rw [Is] at h2; subst h2; obtain ⟨t, rfl⟩ := r2; exact SeqAt.EqAt.list_int _ t q4 hu0
      | str i => rw [Is] at h2; subst h2; obtain ⟨t, rfl⟩ := r2; exact SeqAt.EqAt.list_str _ t q4 hu0
    | _ =>
      rw [Is] at h1; subst h1
      cases e with
      | tup m =>
        obtain ⟨a, xs, its, rfl, rfl, q1, q2, q3, q4⟩ := I.tupleD rfl h2 r2
        first
          | (cases r1; exact SeqAt.EqAt.none_tuple q4 hu0)
          | (cases r1; exact SeqAt.EqAt.bool_tuple _ q4 hu0)
          | (obtain ⟨t, rfl⟩ := r1; exact SeqAt.EqAt.int_tuple _ t q4 hu0)
          | (obtain ⟨t, rfl⟩ := r1; exact SeqAt.EqAt.str_tuple _ t q4 hu0)
      | lst m =>
        obtain ⟨a, xs, its, rfl, rfl, q1, q2, q3, q4⟩ := I.listD rfl h2 r2
        first
          | (cases r1; exact SeqAt.EqAt.none_list q4 hu0)
          | (cases r1; exact SeqAt.EqAt.bool_list _ q4 hu0)
          | (obtain ⟨t, rfl⟩ := r1; exact SeqAt.EqAt.int_list _ t q4 hu0)
          | (obtain ⟨t, rfl⟩ := r1; exact SeqAt.EqAt.str_list _ t q4 hu0)
      | _ =>
        rw [Is] at h2; subst h2
        exact eqAt_V r1 r2 rfl rfl
end
end L2

set_option Elab.async false
set_option linter.all false
set_option maxRecDepth 100000
set_option maxHeartbeats 4000000
/-! MORE RULES over the hand layer: == and in over data, insert, [::-1], sum, enumerate, whole slices of tuples, sums of tuples, isinstance, classes without __init__ -/
namespace L2
open PySem PySem.Spec PyProof.Rows
section
variable {X : Cx} {a b e o : Expr} {ta tb te : TE} {pos : Pos}
/-! ### ==, !=, in, not in -/
def seqD : Dt → Bool
  | .tup _ => true
  | .lst _ => true
  | _ => false
def rEqD (K : PySem.W.Frag) : R2 := fun x y H Q => ∃ d e, Is K H d x ∧ Is K H e y ∧ seqD d = true ∧ seqD e = true ∧ dep d ≤ 50 ∧ Q (.bl (dEq d e)) H
def rNeD (K : PySem.W.Frag) : R2 := fun x y H Q => ∃ d e, Is K H d x ∧ Is K H e y ∧ seqD d = true ∧ seqD e = true ∧ dep d ≤ 50 ∧ Q (.bl (!dEq d e)) H
theorem eqD_core {pins : List (Addr × Obj)} {s : Shared} {σ : St} {H : Hp} {d e : Dt} {x y : V} {v u : Value} (hu : X.A.units + 60 < cLine) (I : Inv X pins σ H s) (h1 : Is X.K H d x) (h2 : Is X.K H e y) (g1 : seqD d = true) (g2 : seqD e = true) (g3 : dep d ≤ 50) (rx : RelV x v) (ry : RelV y u) :
    SeqAt.RcAt X.A s v u (dEq d e) ∧ SeqAt.RcNeAt X.A s v u (!dEq d e) := by
  have hu0 : X.A.units < cLine := by omega
  have hu1 : X.A.in1.units + 50 + 1 < cLine := by show X.A.units + 1 + 50 + 1 < cLine; omega
  cases d with
  | tup l =>
    obtain ⟨a, xs, its, rfl, rfl, q1, q2, q3, q4⟩ := I.tupleD rfl h1 rx
    rw [dep] at g3
    cases e with
    | tup m =>
      obtain ⟨b, ys, ist, rfl, rfl, p1, p2, p3, p4⟩ := I.tupleD rfl h2 ry
      have it := items_eq (X := X) (A := X.A.in1) (fun j d e {x y u v} hd _ g1 g2 g3 g4 => eqAt_D I 50 X.A.in1 d e (Nat.le_trans (dep_le hd) (by omega)) hu1 g1 g2 g3 g4) q2 p2 q3 p3
      have z1 := SeqAt.RcAt.tuples q4 p4 hu0 it
      have z2 := SeqAt.RcNeAt.tuples q4 p4 hu0 it
      rw [eqs_tup q2 p2 q3 p3] at z1 z2
      rw [dEq]
      exact ⟨z1, z2⟩
    | lst m =>
      obtain ⟨b, ys, ist, rfl, rfl, p1, p2, p3, p4⟩ := I.listD rfl h2 ry
      exact ⟨SeqAt.RcAt.tuple_list q4 p4 hu0, SeqAt.RcNeAt.tuple_list q4 p4 hu0⟩
    | _ => cases g2
  | lst l =>
    obtain ⟨a, xs, its, rfl, rfl, q1, q2, q3, q4⟩ := I.listD rfl h1 rx
    rw [dep] at g3
    cases e with
    | lst m =>
      obtain ⟨b, ys, ist, rfl, rfl, p1, p2, p3, p4⟩ := I.listD rfl h2 ry
      have it := items_eq (X := X) (A := X.A.in1) (fun j d e {x y u v} hd _ g1 g2 g3 g4 => eqAt_D I 50 X.A.in1 d e (Nat.le_trans (dep_le hd) (by omega)) hu1 g1 g2 g3 g4) q2 p2 q3 p3
      rw [dEq]
      have ei := eqs_tup q2 p2 q3 p3
      by_cases hz : its.toArray.size = ist.toArray.size
      · have z1 := SeqAt.RcAt.lists q4 p4 hz hu0 it
        have z2 := SeqAt.RcNeAt.lists q4 p4 hz hu0 it
        rw [← hz, Nat.min_self, beq_self_eq_true, Bool.and_true] at ei
        rw [ei] at z1 z2
        exact ⟨z1, z2⟩
      · have hz' : (its.toArray.size == ist.toArray.size) = false := by simpa using hz
        rw [hz', Bool.and_false] at ei
        rw [← ei]
        exact ⟨SeqAt.RcAt.lists_lengths q4 p4 (by simpa using hz) hu0, SeqAt.RcNeAt.lists_lengths q4 p4 (by simpa using hz) hu0⟩
    | tup m =>
      obtain ⟨b, ys, ist, rfl, rfl, p1, p2, p3, p4⟩ := I.tupleD rfl h2 ry
      exact ⟨SeqAt.RcAt.list_tuple q4 p4 hu0, SeqAt.RcNeAt.list_tuple q4 p4 hu0⟩
    | _ => cases g2
  | _ => cases g1
theorem op_eqD (hu : X.A.units + 60 < cLine) : OpR X (compareOp .Eq) (rEqD X.K) := by
  intro pins s σ H x y v u Q I rx ry h
  obtain ⟨d, e, h1, h2, g1, g2, g3, q⟩ := h
  exact (eqD_core hu I h1 h2 g1 g2 g3 rx ry).1 _ _ _ _ ⟨.bl (dEq d e), H, I, rfl, q⟩
theorem op_neD (hu : X.A.units + 60 < cLine) : OpR X (compareOp .NotEq) (rNeD X.K) := by
  intro pins s σ H x y v u Q I rx ry h
  obtain ⟨d, e, h1, h2, g1, g2, g3, q⟩ := h
  exact (eqD_core hu I h1 h2 g1 g2 g3 rx ry).2 _ _ _ _ ⟨.bl (!dEq d e), H, I, rfl, q⟩
end
section
variable {X : Cx} {a b e o : Expr} {ta tb te : TE} {pos : Pos}
open Classical in
/-! ### xs.insert(i, e), 0 ≤ i -/
/-! ### xs[::-1] -/
/-! ### sum(xs) of ints -/
/-! ### slices of tuples, the whole among them; sums of tuples, empty ones among them -/
theorem getItem_tuple_whole {prog : Program} {w : World} {A : Around} {E : Value → Shared → Prop} {s : Shared} {t sl : Addr} {items : Array Value} {vl vu : Value} {lo hi : Option Int} {Q : Value → Shared → Prop} (ht : IsTup s.heap t items) (hs : s.heap.IsSliceOf sl vl vu .none) (pl : IsPart vl lo) (pu : IsPart vu hi)
    (hw : HT.sIx items.size 0 lo = 0 ∧ HT.sIx items.size items.size hi = items.size) (h : Q (.ref t) s) : wpAny (model prog w) A (getItem (.ref t) (.ref sl)) Q E s := by
  obtain ⟨os, hos, hcs, hds⟩ := id hs
  have hTs : s.TypeIs (.ref sl) "slice" := ⟨os, hos, hcs⟩
  unfold getItem
  try with_reducible refine wpAny_holding ?_
  first | refine wpAny_bind (wpAny_pure ?_) | skip
  refine wpAny_bind (wpAny_sequenceKey ht.typeIs (by decide) ?_)
  refine wpAny_bind (wpAny_callSpecial?_slot (name := Str.ofString "__getitem__") ht.typeIs PyProof.Rows.slot_tuple_getitem
    (wpAny_call_entry PyProof.Rows.slot_tuple_getitem ht.typeIs entry_tuple_getitem ?_ (args_tuple_getitem _ _)))
  show wpAny _ _ (Builtin.Tuple.tupleItemsOf (.ref t) >>= _) _ _ s
  refine wpAny_bind (tupleItemsOf_ ht ?_)
  refine wpAny_bind (wpAny_typeOf hTs ?_)
  rw [if_pos (by decide)]
  refine wpAny_bind (HT.sliceApplied_gen hs pl pu ?_)
  show wpAny _ _ (if (((HT.sIx items.size 0 lo : Nat) : Int) == 0 && (1 : Int) == 1 && (HT.sIx items.size items.size hi - HT.sIx items.size 0 lo) == items.size) = true then _ else _) _ _ s
  rw [if_pos (by rw [hw.1, hw.2]; simp)]
  refine wpAny_bind ?_
  unfold Builtin.Tuple.tupleIsExact
  refine wpAny_bind (wpAny_typeOf ht.typeIs (wpAny_pure ?_))
  exact wpAny_bind (wpAny_rule (wpAny_pure ⟨_, rfl, wpAny_pure h⟩))
theorem sl_tupW : SlR X (fun x lo hi H Q => ∃ a xs, x = .ref a ∧ SqT X.K H a xs ∧ (HT.sIx xs.length 0 lo = 0 ∧ HT.sIx xs.length xs.length hi = xs.length) ∧ Q (.ref a) H) := by
  intro pins s σ H x v vl vu lo hi sl Q I rx hs pl pu h
  obtain ⟨a, xs, rfl, hx, hw, q⟩ := h
  cases rx
  obtain ⟨its, r, ht, hz⟩ := I.tuple hx
  have hlen : its.toArray.size = xs.length := by rw [List.size_toArray]; exact r.length.symm
  refine ⟨"tuple", _, PyProof.Rows.slot_tuple_getitem.lookup, ht.typeIs, ?_⟩
  exact getItem_tuple_whole ht hs pl pu (by rw [hlen]; exact hw) ⟨.ref a, H, I, rfl, q⟩
/-- t[lo:hi] of a tuple: some tuple with these items, what was tracked stays -/
theorem sl_tupA : SlR X (fun x lo hi H Q => ∃ a xs, x = .ref a ∧ SqT X.K H a xs ∧ ∀ p H', Same H H' → SqT X.K H' p (cutV xs lo hi) → Q (.ref p) H') := by
  intro pins s σ H x v vl vu lo hi sl Q I rx hs pl pu h
  obtain ⟨a, xs, ex, hx, q⟩ := h
  by_cases hw : HT.sIx xs.length 0 lo = 0 ∧ HT.sIx xs.length xs.length hi = xs.length
  · refine sl_tupW pins s σ H x v vl vu lo hi sl Q I rx hs pl pu ⟨a, xs, ex, hx, hw, q a H (Same.refl H) ?_⟩
    have e : cutV xs lo hi = xs := by
      unfold cutV
      rw [hw.1, hw.2, Nat.sub_zero, List.drop_zero, List.take_of_length_le (Nat.le_refl _)]
    rw [e]
    exact hx
  · refine sl_tup pins s σ H x v vl vu lo hi sl Q I rx hs pl pu ⟨a, xs, ex, hx, hw, fun p hp => q p _ (fun b o e => ?_) (SqT.of upd_same)⟩
    rw [upd_ne (ne_of_none e hp)]
    exact e
/-! ### isinstance(x, T), T a built-in type or an own class -/
theorem call_isinst : CallR X (.builtin "isinstance") (fun xs H Q => ∃ x n t b, xs = [x, .ty n] ∧ TyOf X.K H x t ∧ PySem.W.kitOne X.K t (.type n) = some b ∧ Q (.bl b) H) := by
  intro pins s σ H xs us Q I r h
  obtain ⟨x, n, t, b, rfl, ty, e, q⟩ := h
  obtain ⟨u, w', rfl, ru, rw'⟩ := vals2 r
  cases (show w' = Value.type n from rw')
  exact isinst_ok I ru ty e fun tk => ⟨.bl b, H, I.tok tk, rfl, q⟩
/-! ### C() of a class without __init__ -/
structure Mk0 (K : PySem.W.Frag) (C : Addr) : Prop where
  makes : PySem.W.makesIn K C = true
  init : PySem.W.findIn K (.ref C) "__init__" = some (some (.builtin "object.__init__"))
  kp : PySem.W.keepIn K (.ref C) = true
def tMake0 (C : Addr) : TE := fun _ H Q => ∀ x dx, H x = none → H dx = none → dx ≠ x → Q (.ref x) (upd (upd H dx (.own x)) x (.ins C dx []))
theorem pe_make00 {C : Addr} {x : Str} {p : Pos} (M : Mk0 X.K C) (hg : Gl X x) (hm : X.mg x = some (.ref C)) (hdb : (x == ("__debug__" : Str)) = false := by decide) : PE X (.Call (.Name x p) [] [] pos) (tMake0 C) := by
  intro pins s σ H Q I h
  refine wpAny_Call_Name_kw (ld_glob I hg hm ?_ hdb)
  refine PySem.W.callWith_K0 I.kIn M.kp (wpAny_call ?_)
  have hq := h (s.heap.objs.size + 1) s.heap.objs.size (I.hok.fresh (Nat.le_succ _)) (I.hok.fresh (Nat.le_refl _)) (Nat.ne_of_lt (Nat.lt_succ_self _))
  have I2 := Inv.made (C := C) I
  have Y := PySem.W.makes_of (M := model X.prog X.w) I.kIn M.makes
  refine make_map0 I.kIn M.makes M.init (fun self => PySem.W.Looks.of_pure (PySem.W.oi_bind self)) ?_
  obtain ⟨hh, g, d, t, os⟩ := s
  have e : ((hh.push PySem.W.emptyDict).push (PySem.W.instObj C hh.objs.size)).get? (hh.objs.size + 1) = some (PySem.W.instObj C hh.objs.size) := by
    have := Heap.get?_push_size (hh.push PySem.W.emptyDict) (o := PySem.W.instObj C hh.objs.size) rfl
    rw [Heap.size_push] at this
    exact this
  have t1 : PySem.W.Looks (model X.prog X.w) ((hh.push PySem.W.emptyDict).push (PySem.W.instObj C hh.objs.size)) (typeOf (.ref (hh.objs.size + 1))) (.ref C) := (PySem.W.Looks.ld e).andThen .now
  have t2 : PySem.W.Looks (model X.prog X.w) ((hh.push PySem.W.emptyDict).push (PySem.W.instObj C hh.objs.size)) (isInstance (.ref (hh.objs.size + 1)) (.type "object")) true := t1.andThen (Y.top.keeps fun b o e => Heap.get?_push_of_some _ (Heap.get?_push_of_some _ e))
  refine codeAny_call_builtin PySem.W.oi_plain PySem.W.entry_oi (@PySem.W.check_slot (model X.prog X.w) _ _ _ "object.__init__" "object" "__init__" (.ref (hh.objs.size + 1)) [] [] _ PySem.W.oi_kind PySem.W.oi_split t2 (PySem.W.oi_args (.ref (hh.objs.size + 1))) ?_)
  rw [PySem.W.oi_run]
  exact wpAny_pure ⟨rfl, V.ref (hh.objs.size + 1), _, I2, rfl, hq⟩
end
/-! ### for i, x in enumerate(xs) -/
section
variable {X : Cx} {a : Expr} {ta : TA} {elts : List Expr} {x1 : Nat} {tpos p pos : Pos}
end
/-! ### displays of written texts, ints: by one look -/
def strsOf : List Expr → Option (List Str)
  | [] => some []
  | .Constant (.str x) _ _ :: r => (strsOf r).map (x :: ·)
  | _ => none
theorem pa_strs {X : Cx} : ∀ {es : List Expr} {xs : List Str}, strsOf es = some xs → PA X es (fun _ H Q => Q (xs.map V.str) H)
  | [], xs, h => by
    cases (Option.some.inj h : [] = xs)
    exact pa_nil
  | e :: r, xs, h => by
    cases e with
    | Constant c j pos =>
      cases c with
      | str x =>
        have h : (strsOf r).map (x :: ·) = some xs := h
        cases q : strsOf r with
        | none => rw [q] at h; cases h
        | some ys =>
          rw [q] at h
          cases (Option.some.inj h : x :: ys = xs)
          exact pa_cons (te := tC (.str x)) pe_str (pa_strs q)
      | _ => cases h
    | _ => cases h
/-! ### a cut: what holds behind a statement, a test, an expression, said once -/
def tCut (t : TS) : TS := fun D σ H => ∃ I : St → Hp → Prop, t { D with nx := I } σ H ∧ ∀ σ' H', I σ' H' → D.nx σ' H'
theorem ps_cut {X : Cx} {st : Stmt} {t : TS} (h : PS X st t) : PS X st (tCut t) := by
  intro pins s σ H D I0 h0
  obtain ⟨I, h1, h2⟩ := h0
  refine thn (h pins s σ H _ I0 h1) fun f s' q => ?_
  cases f with
  | next => obtain ⟨σ', H', q1, q2⟩ := q; exact ⟨σ', H', q1, h2 _ _ q2⟩
  | brk => exact q
  | cont => exact q
  | ret u => exact q
def tCutT (t : TT) : TT := fun σ H Q => ∃ I : Bool → Hp → Prop, t σ H I ∧ ∀ b H', I b H' → Q b H'
theorem pt_cut {X : Cx} {e : Expr} {t : TT} (h : PT X e t) : PT X e (tCutT t) := by
  intro pins s σ H Q I0 h0
  obtain ⟨I, h1, h2⟩ := h0
  exact thn (h pins s σ H _ I0 h1) fun b s' ⟨H', q1, q2⟩ => ⟨H', q1, h2 _ _ q2⟩
end L2

set_option Elab.async false
set_option linter.all false
set_option maxRecDepth 100000
set_option maxHeartbeats 4000000
/-! STILL MORE RULES: texts joined, cut, found; dicts copied and compared; great products; a method of a class that the reading names -/
namespace L2
open PySem PySem.Spec PyProof.Rows
section
variable {X : Cx} {a b e o : Expr} {ta tb te : TE} {pos : Pos}
/-! ### products of great numbers -/
/-! ### ' '.join(xs) -/
theorem strsAre_of : ∀ {ys : List Str} {us : List Value}, Vals (ys.map V.str) us → StrsAre us ys
  | [], us, h => by cases h; exact .nil
  | y :: ys, us, h => by
    cases h with
    | cons r rr =>
      obtain ⟨t, rfl⟩ := r
      exact .cons _ _ (strsAre_of rr)
def rJoin (K : PySem.W.Frag) : V → List V → Hp → VK → Prop := fun x vs H Q => ∃ z p ys, x = .str z ∧ vs = [.ref p] ∧ SqL K H p (ys.map V.str) ∧ (ys.map (·.length)).sum + ys.length * z.length ≤ 16777216 ∧ Q (.str (Txt.join z ys)) H
theorem mt_join : MtR X "str.join" (rJoin X.K) := by
  intro pins s σ H x vs v us Q I rx rv h
  obtain ⟨z, p, ys, rfl, rfl, hx, hl, q⟩ := h
  obtain ⟨t, rfl⟩ := rx
  obtain ⟨u, rfl, ru⟩ := vals1 rv
  cases ru
  obtain ⟨its, r, pl, hz⟩ := I.list hx
  exact join_list pl.isList (strsAre_of r) hl fun t' k => ⟨.str (Txt.join z ys), H, I.tok k, ⟨_, rfl⟩, q⟩
/-! ### x.index(y), y one sign that is there -/
def rIndex : V → List V → Hp → VK → Prop := fun x vs H Q => ∃ (z y : Str) (i : Nat) (rest : List Nat), x = .str z ∧ vs = [.str y] ∧ Builtin.Str.occurrences z y 0 z.length 1 = i :: rest ∧ Q (.int i) H
theorem mt_indexS : MtR X "str.index" rIndex := by
  intro pins s σ H x vs v us Q I rx rv h
  obtain ⟨z, y, i, rest, rfl, rfl, ho, q⟩ := h
  obtain ⟨t, rfl⟩ := rx
  obtain ⟨u, rfl, ru⟩ := vals1 rv
  obtain ⟨t', rfl⟩ := ru
  exact SC.index ho ⟨.int i, H, I.tok _, ⟨_, rfl⟩, q⟩
/-! ### x[lo:hi] of a text -/
theorem part_of {v : Value} {o : Option Int} (h : IsPart v o) : ∃ l : Option (Int × Tok), v = partValue l ∧ l.map (·.1) = o := by
  cases h with
  | none => exact ⟨none, rfl, rfl⟩
  | int i t => exact ⟨some (i, t), rfl, rfl⟩
theorem sl_str : SlR X (fun x lo hi H Q => ∃ z, x = .str z ∧ z.length ≤ sizeLine ∧ Q (.str (Txt.slice z lo hi)) H) := by
  intro pins s σ H x v vl vu lo hi sl Q I rx hs pl pu h
  obtain ⟨z, rfl, hz, q⟩ := h
  obtain ⟨t, rfl⟩ := rx
  obtain ⟨l, rfl, el⟩ := part_of pl
  obtain ⟨u, rfl, eu⟩ := part_of pu
  refine ⟨"str", _, F.slot_str_getitem.lookup, typeIs_str s z t, ?_⟩
  refine wpAny_getItem_str_slice (l := l) (u := u) (st := none) hs rfl ?_
  unfold sliceMade slicePicked
  rw [el, eu]
  have e : ∀ t' k, EP X pins σ Q (.str (Txt.slice z lo hi) t') { s with toks := k } := fun t' k => ⟨.str (Txt.slice z lo hi), H, I.tok k, ⟨_, rfl⟩, q⟩
  have hl := Txt.slice_le z lo hi
  unfold Txt.slice at e hl
  refine post_val_or_made (fun hc => ?_) e
  rw [if_neg (show ¬ (((1 : Int) == 1 && (Builtin.Str.strSliceIndices lo hi 1 z.length).length == z.length) = true) from hc)] at hl
  exact Nat.le_trans hl hz
/-! ### list + list, either one read -/
theorem op_catL : OpR X (binaryOp .Add) (fun x y H Q => ∃ l b xs zs, x = .ref l ∧ y = .ref b ∧ SqL X.K H l xs ∧ SqL X.K H b zs ∧ xs.length + zs.length ≤ sizeLine ∧ ∀ p, H p = none → Q (.ref p) (upd H p (.lst (xs ++ zs)))) := by
  intro pins s σ H x y v u Q I rx ry h
  obtain ⟨l, b, xs, zs, rfl, rfl, hH, hB, hz, q⟩ := h
  cases rx
  cases ry
  obtain ⟨its, r, pl, z1⟩ := I.list hH
  obtain ⟨its2, r2, pl2, z2⟩ := I.list hB
  have hl := r.length
  have hl2 := r2.length
  obtain ⟨⟨cls, dd, data, sl⟩, ho, hc, n, hd⟩ := pl.isList
  obtain ⟨⟨cls2, dd2, data2, sl2⟩, ho2, hc2, n2, hd2⟩ := pl2.isList
  simp only at hc hd hc2 hd2
  subst hc hd hc2 hd2
  refine concat_meets ⟨_, ho, rfl⟩ ⟨_, ho2, rfl⟩ noFill_list_add seq_list_add PySem.F.slot_list_add PySem.F.entry_list_add (PySem.F.args_list_add_2 _ _) (list_addW l b its.toArray its2.toArray n n2 dd dd2 sl sl2 (by rw [List.size_toArray, List.size_toArray]; omega)) ⟨ho, ho2, ?_⟩
  have ea : its.toArray ++ its2.toArray = (its ++ its2).toArray := by simp
  rw [ea]
  exact ⟨.ref _, _, I.lnew (t' := s.toks) (r.append r2) (by rw [List.length_append]; omega), rfl, q _ I.fresh⟩
/-! ### dict(d): a copy -/
/-! ### two dicts of the same pairs are alike -/
end
/-! ### o.m(..), the class of o named in the reading -/
/-- a method m of the class C that keeps the promise sp, with room k -/
structure MOk (P : Program) (w : World) (K : PySem.W.Frag) (mg : Str → Option Value) (base : Heap) (k : Nat) (C : Addr) (m : Str) (sp : Sp) : Prop where
  cl : Cls K C
  run : ∃ (f : Addr) (fd : FuncData) (ps : List Str), Meth K C m f ∧ FnOk P w K mg base CX0 k f fd ps sp ∧ Binds K fd ps []
def tMethP (P : Program) (w : World) (K : PySem.W.Frag) (mg : Str → Option Value) (base : Heap) (k : Nat) (m : Str) (ta : TE) (t : TA) : TE := fun σ H Q => ta σ H fun x H1 => ∃ a C dx fs sp, x = .ref a ∧ H1 a = some (.ins C dx fs) ∧ fs.lookup m = none ∧ MOk P w K mg base k C m sp ∧
  t σ H1 fun vs H2 => sp (x :: vs) H2 Q E0
section
variable {X : Cx} {m : Str} {pos apos : Pos} {e o : Expr} {es : List Expr} {ta : TE} {t : TA} {k : Nat}
theorem pe_methP {pl : Sem Bool} (he : PE X o ta) (hr : Room k X.A) (ha : PA X (e :: es) t)
    (hst : starEach (e :: es) X.env = (false, eval e X.env) :: starEach es X.env := by rfl) (hpl : (backTo pos (starEach es X.env)).any (·.1) = false := by rfl)
    (ht : eval (.Call (.Attribute o m apos) (e :: es) [] pos) X.env = (do
      let ov ← eval o X.env
      standAt apos.atName
      let (f, first) ← holding [ov] (getMethod ov m pl)
      callWith pos f first (backTo pos (starEach (e :: es) X.env)) (backToKw pos (keywordEach [] X.env))) := by rfl) :
    PE X (.Call (.Attribute o m apos) (e :: es) [] pos) (tMethP X.prog X.w X.K X.mg X.base k m ta t) := by
  intro pins s σ H Q I h
  refine PySem.W.methodCall_KW (pl := pl) (thn (he pins s σ H _ I h) fun u s1 ⟨x, H1, I1, rx, a, C, dx, fs, sp, ex, ea, l, M, q⟩ => ?_) ht
  subst ex
  obtain rfl : u = Value.ref a := rx
  obtain ⟨c, f, fd, ps, hm, F, hb⟩ := M
  refine getmeth_ok I1 ea c hm l ?_
  refine PySem.W.callWith_K (first := [.ref a]) (h₀ := X.base) I.ok.mod.kin hm.kp (thn (ha pos pins s1 σ H1 _ I1 q) fun us s2 ⟨vs, H2, I2, r, q2⟩ => ⟨I2.kIn, ?_⟩) hst hpl
  exact run_fn (us := .ref a :: us) (vs := .ref a :: vs) (dvs := []) F hr hb .nil pass0 I2 (.cons rfl r) (by rw [List.append_nil]; exact q2)
theorem pe_methP0 {pl : Sem Bool} (he : PE X o ta) (hr : Room k X.A)
    (ht : eval (.Call (.Attribute o m apos) [] [] pos) X.env = (do
      let ov ← eval o X.env
      standAt apos.atName
      let (f, first) ← holding [ov] (getMethod ov m pl)
      callWith pos f first (backTo pos (starEach [] X.env)) (backToKw pos (keywordEach [] X.env))) := by rfl) :
    PE X (.Call (.Attribute o m apos) [] [] pos) (tMethP X.prog X.w X.K X.mg X.base k m ta tNil) := by
  intro pins s σ H Q I h
  refine PySem.W.methodCall_KW (pl := pl) (thn (he pins s σ H _ I h) fun u s1 ⟨x, H1, I1, rx, a, C, dx, fs, sp, ex, ea, l, M, q⟩ => ?_) ht
  subst ex
  obtain rfl : u = Value.ref a := rx
  obtain ⟨c, f, fd, ps, hm, F, hb⟩ := M
  refine getmeth_ok I1 ea c hm l ?_
  exact PySem.W.callWith_K0 (first := [.ref a]) I1.kIn hm.kp (run_fn (us := [.ref a]) (vs := [.ref a]) (dvs := []) F hr hb .nil pass0 I1 (.cons rfl .nil) q)
end
end L2

set_option Elab.async false
set_option linter.all false
set_option maxRecDepth 100000
set_option maxHeartbeats 4000000
/-! xs.count(y), xs.index(y) of flat items -/
namespace L2
open PySem PySem.Spec PyProof.Rows
section
variable {X : Cx}
end
end L2

set_option Elab.async false
set_option linter.all false
set_option maxRecDepth 100000
set_option maxHeartbeats 4000000
/-! range with a step, zip of lists and tuples, x.split(y) -/
namespace L2
open PySem PySem.Spec PyProof.Rows
/-! ### range(a, b, c), c above 0 -/
section
variable {X : Cx} {tg : Expr}
end
/-! ### x.split(y) -/
end L2

set_option Elab.async false
set_option linter.all false
set_option maxRecDepth 100000
set_option maxHeartbeats 4000000
/-! for x, y in zip(xs, ys): each a list or a tuple -/
namespace L2
open PySem PySem.Spec PyProof.Rows
section
variable {prog : Program} {w : World} {A : Around} {E : Value → Shared → Prop} {s : Shared}
variable {z TI TO i1 i2 l1 l2 : Addr} {b1 b2 : Bool} {k1 k2 : Nat} {xs ys : Array Value}
end
/-! ### making it -/
/-! ### walking it -/
section
variable {X : Cx} {a b : Expr} {ta : TA} {elts : List Expr} {x1 : Nat} {tpos p pos : Pos}
end
end L2

set_option Elab.async false
set_option linter.all false
set_option maxRecDepth 100000
set_option maxHeartbeats 4000000
/-! C.m(self, ..) of an own class; list(range(a, b)) -/
namespace L2
open PySem PySem.Spec PyProof.Rows
section
variable {X : Cx} {CX : CXT} {k : Nat} {f C : Addr} {fd : FuncData} {ps : List Str} {sp : Sp} {dvs : List V} {ds : List Value} {E : XK} {x m : Str} {p pos apos : Pos} {e : Expr} {es : List Expr} {t : TA}
end
end L2

set_option Elab.async false
set_option linter.all false
set_option maxRecDepth 100000
set_option maxHeartbeats 4000000
/-! range(a, b) of any ints: small ones and great ones; list(range(a, b)) -/
namespace L2
open PySem PySem.Spec PyProof.Rows
section
variable {X : Cx} {tg a b : Expr} {ta : TA} {p p1 pos pos1 : Pos}
end
/-! ### list(range(a, b)) -/
section
variable {prog : Program} {w : World} {A : Around} {s : Shared} {R : Result → Shared → Prop} {r : Addr} {a b c : Int} {t u v : Tok} {n : Nat}
end
section
variable {X : Cx} {a b : Expr} {ta : TA} {p p1 pos pos1 : Pos}
end
end L2

set_option Elab.async false
set_option linter.all false
set_option maxRecDepth 100000
set_option maxHeartbeats 4000000
namespace L2
open PySem PySem.Spec PyProof.Rows
section
variable {X : Cx}
end
end L2

set_option Elab.async false
set_option linter.all false
set_option maxRecDepth 100000
set_option maxHeartbeats 4000000
namespace NwS
open PySem

def byText (w : World) : Bool := w.params.followText "set-order"
def txt : Value → Str
  | .str x _ => x
  | _ => ⟨#[]⟩
abbrev setObj (es : Array (Int × Value)) (ep : Nat) (t : SetTable) : Obj := { cls := .type "set", dict := none, data := .set es ep t, slots := #[] }

structure SetT (prog : Program) (w : World) (h : Heap) (a : Addr) (ss : List Str) (es : Array (Int × Value)) (ep : Nat) (t : SetTable) : Prop where
  obj : h.get? a = some (setObj es ep t)
  el : ElemsOf (strKind prog w) es.toList
  pm : (es.toList.map (fun e => txt e.2)).Perm ss
  bd : es.size < scanBound
  ft : t.fits es.size = true
  pl : es.size = 0 ∨ t.plain = false
  ld : byText w = false → t.led = true

theorem orStandIn_led (t : SetTable) (n : Nat) : (t.orStandIn n).led = t.led := by
  unfold SetTable.orStandIn; split <;> rfl
theorem layNew_led (t : SetTable) (es : Array (Int × Value)) (h : Int) (x : Value) : (layNew t es h x).2.1.led = t.led := by
  unfold layNew
  split
  · exact orStandIn_led _ _
  · rfl
theorem relayAll_led (t : SetTable) (es : Array (Int × Value)) (n : Nat) : (relayAll t es n).2.1.led = t.led ∧ (t.plain = false → (relayAll t es n).2.1.plain = false) := by
  unfold relayAll
  split
  · rename_i t' order e
    have : t'.led = t.led ∧ t'.plain = t.plain := by
      unfold SetTable.relaid SetTable.laid at e
      simp only [Option.bind_eq_bind, Option.pure_def, Option.bind_eq_some_iff] at e
      obtain ⟨ow, _, e2⟩ := e
      injection e2 with e2
      injection e2 with e2 _
      subst e2
      exact ⟨rfl, rfl⟩
    dsimp only
    split
    · exact ⟨this.1, fun z => this.2.trans z⟩
    · exact ⟨rfl, fun _ => rfl⟩
  · exact ⟨rfl, fun _ => rfl⟩

section
variable {prog : Program} {w : World} {A : Around} {E : Value → Shared → Prop} {s : Shared}

theorem store_get {h : Heap} {a : Addr} {es es' : Array (Int × Value)} {ep : Nat} {t t' : SetTable} (ho : h.get? a = some (setObj es ep t)) :
    (h.update a (Obj.putSet es' t')).get? a = some (setObj es' (ep + 1) t') := by
  have := Heap.get?_update_self (Obj.putSet es' t') ho (by rw [putSet_of es' t' rfl]; rfl)
  rw [putSet_of es' t' rfl] at this; exact this

theorem txt_of {e : Int × Value} {x : Str} (h : (strKind prog w).is x e.2 = true) : txt e.2 = x := by
  obtain ⟨t, e1⟩ := Value.isStrOf_shape (x := x) (v := e.2) h
  rw [e1]; rfl

theorem tail_ok {g : Bool → Sem Unit} (hg : ∀ (b : Bool) (s₁ : Shared) (Q' : Unit → Shared → Prop), Q' () s₁ → wpAny (model prog w) A (g b) Q' E s₁)
    {a : Addr} {es : Array (Int × Value)} {ep : Nat} {t : SetTable} (ho : s.heap.get? a = some (setObj es ep t))
    {es1 : Array (Int × Value)} {t2 : SetTable} {ss : List Str} (hel1 : ElemsOf (strKind prog w) es1.toList) (hpm : (es1.toList.map (fun e => txt e.2)).Perm ss)
    (hb1 : es1.size < scanBound) (hf2 : t2.fits es1.size = true) (hp2 : t2.plain = false) (hl2 : byText w = false → t2.led = true) {wasDummy : Bool} {R : Option Bool → Shared → Prop}
    (h : ∀ h' es' ep' t', Heap.SameBut a s.heap h' → SetT prog w h' a ss es' ep' t' → es'.size = es1.size → R (some true) { s with heap := h' }) :
    wpAny (model prog w) A (do
        storeSet a es1 t2
        if (!wasDummy && t2.tooFull) = true then do
            g (relayAll t2 es1 (SetTable.grown es1.size)).2.2
            storeSet a (relayAll t2 es1 (SetTable.grown es1.size)).1 (relayAll t2 es1 (SetTable.grown es1.size)).2.1
            pure (some true)
          else pure (some true)) R E s := by
  refine wpAny_bind (wpAny_storeSet_of ho rfl ?_ (fits_of_scanBound hb1))
  have ho1 := store_get (es' := es1) (t' := t2) ho
  have hsb1 := Heap.SameBut.update s.heap a (Obj.putSet es1 t2)
  split
  · have hp := relayAll_perm t2 es1 (SetTable.grown es1.size)
    have hfr := relayAll_fits t2 es1 (SetTable.grown es1.size)
    have hld := relayAll_led t2 es1 (SetTable.grown es1.size)
    generalize hRl : relayAll t2 es1 (SetTable.grown es1.size) = Rl at hp hfr hld ⊢
    obtain ⟨es2, t3, gave2⟩ := Rl
    dsimp only at hp hfr hld ⊢
    have hel2 : ElemsOf (strKind prog w) es2.toList := hel1.perm hp
    have hsz : es2.size = es1.size := by rw [← Array.length_toList, hp.length_eq, Array.length_toList]
    have hb2 : es2.size < scanBound := by rw [hsz]; exact hb1
    refine wpAny_bind (hg _ _ _ ?_)
    refine wpAny_bind (wpAny_storeSet_of ho1 rfl ?_ (fits_of_scanBound hb2))
    exact wpAny_pure (h _ es2 _ t3 (hsb1.trans (Heap.SameBut.update _ a _)) ⟨store_get ho1, hel2, (hp.map _).trans hpm, hb2, hfr, .inr (hld.2 hp2), fun z => hld.1.trans (hl2 z)⟩ hsz)
  · exact wpAny_pure (h _ es1 _ t2 hsb1 ⟨ho1, hel1, hpm, hb1, hf2, .inr hp2, hl2⟩ rfl)

theorem add_ok {a : Addr} {ss : List Str} {es : Array (Int × Value)} {ep : Nat} {t : SetTable} {x : Str} {tk : Tok} {Q : Bool → Shared → Prop} (hS : SetT prog w s.heap a ss es ep t) (hroom : es.size + 1 < scanBound)
    (h : ∀ h' es' ep' t' b, Heap.SameBut a s.heap h' → SetT prog w h' a (if x ∈ ss then ss else ss ++ [x]) es' ep' t' → es'.size ≤ es.size + 1 → Q b { s with heap := h' }) :
    wpAny (model prog w) A (setAddHashed a (.str x tk) (hashStr w x)) Q E s := by
  obtain ⟨ho, hel, hpm, hb, hf, hpl, hld⟩ := id hS
  have hkey : (strKind prog w).is x (.str x tk) = true := by simp [strKind, Value.isStrOf]
  have hsc : (Value.str x tk).scannable = true := rfl
  show wpAny (model prog w) A (setAddHashed a (.str x tk) ((strKind prog w).hash x)) Q E s
  unfold setAddHashed setAddHashedIn
  refine wpAny_holding (wpAny_bind (wpAny_setState_of ho rfl hf ?_))
  dsimp only
  rw [byScan_of hsc hb hel]
  simp only [↓reduceIte]
  unfold setAddByScan
  refine wpAny_bind ?_
  refine wpAny_bind (wpAny_rule ?_)
  refine wpAny_bind (wpAny_setScan_of hkey ho rfl hf hel ?_)
  cases hr : List.findIdx? (fun e => (strKind prog w).is x e.2) es.toList with
  | some j =>
    dsimp only
    obtain ⟨hj, hpj, _⟩ := List.findIdx?_eq_some_iff_getElem.mp hr
    have hm : x ∈ ss := hpm.mem_iff.mp (List.mem_map.mpr ⟨es.toList[j], List.getElem_mem hj, txt_of hpj⟩)
    refine wpAny_pure (wpAny_pure ?_)
    have e : s = { s with heap := s.heap } := by cases s; rfl
    rw [e]
    refine h s.heap es ep t _ (Heap.SameBut.refl a s.heap) ?_ (Nat.le_succ _)
    rw [if_pos hm]; exact hS
  | none =>
    dsimp only
    have hm : x ∉ ss := fun z => by
      obtain ⟨e, he, e1⟩ := List.mem_map.mp (hpm.mem_iff.mpr z)
      obtain ⟨⟨k, hk, _⟩, _⟩ := hel e he
      have := List.findIdx?_eq_none_iff.mp hr e he
      rw [txt_of hk] at e1; subst e1
      rw [hk] at this; exact Bool.noConfusion this
    have hgw : ∀ (b : Bool) {s₁ : Shared} {Q' : Unit → Shared → Prop}, Q' () s₁ → wpAny (model prog w) A (match b with | true => rule "set.scan.the-table-gave-way" | false => pure ()) Q' E s₁ :=
      fun b s₁ Q' hq => by cases b <;> first | exact wpAny_pure hq | exact wpAny_rule hq
    have hperm := layNew_perm t es ((strKind prog w).hash x) (.str x tk)
    have hfits := layNew_fits t es ((strKind prog w).hash x) (.str x tk)
    have hled := layNew_led t es ((strKind prog w).hash x) (.str x tk)
    generalize hL : layNew t es ((strKind prog w).hash x) (.str x tk) = L at hperm hfits hled ⊢
    obtain ⟨es1, t1, wasDummy, gave⟩ := L
    dsimp only at hperm hfits hled ⊢
    rw [Array.toList_push] at hperm
    have hel1 : ElemsOf (strKind prog w) es1.toList := (hel.push hkey hsc).perm hperm
    have hpm1 : (es1.toList.map (fun e => txt e.2)).Perm (ss ++ [x]) := by
      refine (hperm.map _).trans ?_
      rw [List.map_append]
      exact hpm.append_right _
    have hsz1 : es1.size = es.size + 1 := by rw [← Array.length_toList, hperm.length_eq, List.length_append, Array.length_toList]; rfl
    have hb1' : es1.size < scanBound := by rw [hsz1]; exact hroom
    refine wpAny_bind (hgw _ ?_)
    have hend : ∀ h' es' ep' t', Heap.SameBut a s.heap h' → SetT prog w h' a (ss ++ [x]) es' ep' t' → es'.size = es1.size → Q true { s with heap := h' } := by
      intro h' es' ep' t' hsb hS' hz
      refine h h' es' ep' t' _ hsb ?_ (by omega)
      rw [if_neg hm]; exact hS'
    split
    · refine wpAny_bind ?_
      rw [hashByValue_scannable 8 hsc]
      refine wpAny_pure ?_
      refine tail_ok ?_ ho hel1 hpm1 hb1' ?_ ?_ ?_ ?_
      · intro b s₁ Q' hq; cases b <;> first | exact wpAny_pure hq | exact wpAny_rule hq
      · exact SetTable.fits_plain_off hfits
      · rfl
      · exact fun z => hled.trans (hld z)
      · intro h' es' ep' t' hsb hS' hz; dsimp only; exact wpAny_pure (hend h' es' ep' t' hsb hS' hz)
    · rename_i hnp
      refine wpAny_bind (wpAny_pure ?_)
      simp only [↓reduceIte]
      refine tail_ok ?_ ho hel1 hpm1 hb1' hfits ?_ ?_ ?_
      · intro b s₁ Q' hq; cases b <;> first | exact wpAny_pure hq | exact wpAny_rule hq
      · simpa using hnp
      · exact fun z => hled.trans (hld z)
      · intro h' es' ep' t' hsb hS' hz; dsimp only; exact wpAny_pure (hend h' es' ep' t' hsb hS' hz)
end
end NwS

set_option Elab.async false
set_option linter.all false
set_option maxRecDepth 100000
set_option maxHeartbeats 4000000
namespace NwS
open PySem
open Sem (wp)

theorem slot_si_next : Slot "set_iterator" "__next__" "set_iterator.__next__" :=
  .of (owner := "set_iterator") (n := "__next__") (by rw [typeLookup_type, builtinLookup_eq_fast]; kernel_rfl) (by decide +kernel) (by decide +kernel) (by decide +kernel)
    (by first | exact .inl (by decide +kernel) | exact .inr (by decide +kernel)) (by rw [isSubtype_type]; kernel_rfl)
theorem slot_si_iter : Slot "set_iterator" "__iter__" "set_iterator.__iter__" :=
  .of (owner := "set_iterator") (n := "__iter__") (by rw [typeLookup_type, builtinLookup_eq_fast]; kernel_rfl) (by decide +kernel) (by decide +kernel) (by decide +kernel)
    (by first | exact .inl (by decide +kernel) | exact .inr (by decide +kernel)) (by rw [isSubtype_type]; kernel_rfl)
theorem entry_si_next : entryFor table "set_iterator.__next__" = some Builtin.«set_iterator.__next__» := entryFor_of_fast (by kernel_rfl)
theorem entry_si_iter : entryFor table "set_iterator.__iter__" = some Builtin.«dict_keyiterator.__iter__» :=
  entryFor_alias (id' := "dict_keyiterator.__iter__") (by kernel_rfl) rfl (by decide +kernel) (by kernel_rfl)
theorem args_si_next (a : Value) : argsOk "set_iterator.__next__" ⟨[a], []⟩ := by unfold argsOk; kernel_rfl
theorem args_si_iter (a : Value) : argsOk "set_iterator.__iter__" ⟨[a], []⟩ := by unfold argsOk; kernel_rfl
theorem entry_set_iter : entryFor table "set.__iter__" = some Builtin.«frozenset.__iter__» :=
  entryFor_alias (id' := "frozenset.__iter__") (by kernel_rfl) rfl (by decide +kernel) (by kernel_rfl)

def SIter (h : Heap) (I a : Addr) (first : Value) (i n ep : Nat) : Prop :=
  ∃ o, h.get? I = some o ∧ o.cls = .type "set_iterator" ∧ o.data = .fields #[first, .int i 0, .ref a, .int n 0, .int ep 0]

theorem perm_erase {α : Type} {l : List α} {i : Nat} (h : i < l.length) : (l[i] :: l.eraseIdx i).Perm l := by
  have e : l = l.take i ++ l[i] :: l.drop (i + 1) := by
    rw [List.getElem_cons_drop h, List.take_append_drop]
  rw [List.eraseIdx_eq_take_drop_succ]
  conv => rhs; rw [e]
  exact List.perm_middle.symm
theorem perm_pick {α : Type} (next : Nat → Nat) : ∀ (n k : Nat) (left : List α) (out : Array α), n = left.length → (pickOrder.go next n k left out).toList.Perm (out.toList ++ left)
  | 0, k, left, out, h => by
    have : left = [] := List.length_eq_zero_iff.mp h.symm
    subst this
    simp [pickOrder.go]
  | n + 1, k, left, out, h => by
    have hl : next k % left.length < left.length := Nat.mod_lt _ (by omega)
    unfold pickOrder.go
    rw [List.getElem?_eq_getElem hl]
    dsimp only
    refine (perm_pick next n (k + 1) _ _ (by rw [List.length_eraseIdx_of_lt hl]; omega)).trans ?_
    rw [Array.toList_push, List.append_assoc]
    exact (perm_erase hl).append_left _
theorem perm_pickOrder {α : Type} (next : Nat → Nat) (xs : Array α) : (pickOrder next xs).toList.Perm xs.toList := by
  have := perm_pick next xs.size 0 xs.toList #[] (by simp)
  simpa [pickOrder] using this

section
variable {prog : Program} {w : World} {A : Around} {E : Value → Shared → Prop} {s : Shared}

theorem wpAny_choose' {M : Model} {src : Source} {n : Nat} {Q : Nat → Shared → Prop} (hn : n ≠ 0) (h : ∀ i d, i < n → Q i { s with drawn := d }) : wpAny M A (choose src n) Q E s := fun Γ p hΓ => by
  unfold choose
  rw [Sem.wp_choose]
  exact ⟨hn, by simpa using h _ _ (Nat.mod_lt _ (Nat.pos_of_ne_zero hn))⟩

theorem drawOrder_ok {α : Type} {M : Model} : ∀ (n : Nat) (xs : List α) {s : Shared} {Q : List α → Shared → Prop}, n = xs.length → (∀ ys d, ys.Perm xs → Q ys { s with drawn := d }) → wpAny M A (drawOrder n xs) Q E s
  | 0, xs, s, Q, h, hQ => by
    have : xs = [] := List.length_eq_zero_iff.mp h.symm
    subst this
    unfold drawOrder
    exact wpAny_pure (hQ [] s.drawn .nil)
  | n + 1, [], s, Q, h, hQ => by simp at h
  | n + 1, x :: xs, s, Q, h, hQ => by
    unfold drawOrder
    refine wpAny_bind (wpAny_choose' (by simp) fun i d hi => ?_)
    rw [List.getElem?_eq_getElem hi]
    dsimp only
    refine wpAny_bind (drawOrder_ok n _ (by rw [List.length_eraseIdx_of_lt hi]; simp at h ⊢; omega) fun ys d' hp => ?_)
    exact wpAny_pure (hQ _ d' ((hp.cons _).trans (perm_erase hi)))

theorem SIter.typeIs {I a : Addr} {f : Value} {i n ep : Nat} (h : SIter s.heap I a f i n ep) : s.TypeIs (.ref I) "set_iterator" := let ⟨o, ho, hc, _⟩ := h; ⟨o, ho, hc⟩
theorem SIter.at {h h' : Heap} {I a : Addr} {f : Value} {i n ep : Nat} (x : SIter h I a f i n ep) (e : ∀ o, h.get? I = some o → h'.get? I = some o) : SIter h' I a f i n ep := let ⟨o, ho, r⟩ := x; ⟨o, e _ ho, r⟩

theorem iter_self {I a : Addr} {f : Value} {i n ep : Nat} {Q : Value → Shared → Prop} (hit : SIter s.heap I a f i n ep) (h : Q (.ref I) s) : wpAny (model prog w) A (pyIter (.ref I)) Q E s := by
  refine wpAny_pyIter_slot hit.typeIs slot_si_iter (wpAny_call_entry slot_si_iter hit.typeIs entry_si_iter ?_ (args_si_iter _))
  show wpAny _ _ (ret (.ref I)) _ _ s
  exact wpAny_pure ⟨_, rfl, "set_iterator", _, hit.typeIs, slot_si_next.lookup, h⟩

/-- the next by its place -/
theorem next_drawn {I a T : Addr} {i p : Nat} {es : Array (Int × Value)} {ep : Nat} {t : SetTable} {ps : List Nat} {e : Int × Value} {Q : Option Value → Shared → Prop}
    (hs : s.heap.get? a = some (setObj es ep t)) (hf : t.fits es.size = true) (hit : SIter s.heap I a (.ref T) i es.size ep)
    (hT : s.heap.get? T = some { cls := .type "tuple", data := .seq (ps.map fun (p : Nat) => rawInt p).toArray }) (hp : ps[i]? = some p) (he : es[p]? = some e)
    (hQ : ∀ h', SIter h' I a (.ref T) (i + 1) es.size ep → Heap.SameBut I s.heap h' → Q (some e.2) { s with heap := h' }) :
    wpAny (model prog w) A (pyNext (.ref I)) Q E s := by
  obtain ⟨o, ho, hc, hd⟩ := id hit
  unfold pyNext
  refine wpAny_bind (wpAny_attempt (wpAny_callSpecial?_slot (name := Str.ofString "__next__") hit.typeIs slot_si_next
    (wpAny_call_entry slot_si_next hit.typeIs entry_si_next ?_ (args_si_next _))))
  unfold Builtin.«set_iterator.__next__»
  refine wpAny_bind (wpAny_pure ?_)
  refine wpAny_bind (wpAny_fieldsOf ho hd ?_)
  dsimp only
  refine wpAny_bind (wpAny_setEntries_of hs rfl hf ?_)
  rw [if_neg (by simp)]
  refine wpAny_bind (wpAny_seqItems hT rfl ?_)
  dsimp only
  have e1 : (ps.map fun (p : Nat) => rawInt p).toArray[((i : Nat) : Int).toNat]? = some (rawInt p) := by
    simp [hp]
  rw [e1]
  dsimp only [rawInt]
  refine wpAny_bind ?_
  unfold setNextDrawn
  refine wpAny_bind (wpAny_setState_of hs rfl hf ?_)
  dsimp only
  rw [if_neg (by simp)]
  simp only [Int.toNat_natCast, he]
  refine wpAny_pure ?_
  refine wpAny_bind (wpAny_setField ho hd (by simp) ?_)
  have hit' : SIter (s.heap.update I (Obj.mapFields (·.setIfInBounds 1 (rawInt ((i : Int) + 1))))) I a (.ref T) (i + 1) es.size ep :=
    ⟨_, Heap.get?_update_self _ ho (Obj.isFreed_of_fields (Obj.data_mapFields hd _)), (Obj.cls_mapFields ..).trans hc, by rw [Obj.data_mapFields hd]; simp [rawInt]⟩
  exact wpAny_pure ⟨_, rfl, wpAny_pure (hQ _ hit' (Heap.SameBut.update ..))⟩

theorem stop_ok {h : Heap} {R : Fin → Shared → Prop} {Q : Option Value → Shared → Prop} (hh : A.handled = none) (hQ : ∀ h', (∀ b o, h.get? b = some o → h'.get? b = some o) → Q none { s with heap := h' }) :
    wpAny (model prog w) A.in1 (newExc (.type "StopIteration") [] >>= fun e => (raiseNew e : Sem Fin)) R (fun e s' => wpAny (model prog w) A (isInstance e (.type "StopIteration") >>= fun b => if b = true then pure none else throw e) Q E s') { s with heap := h } := by
  refine wpAny_bind ?_
  simp only [newExc, newTuple]
  refine wpAny_bind (wpAny_newObj_type ?_ (by size_fits))
  refine wpAny_bind (m := firstArgMember _ _) (wpAny_of_eq (a := Value.none) (by first | rfl | (simp only [firstArgMember]; rfl)) ?_)
  refine wpAny_newObj_type ?_ (by size_fits)
  simp only [raiseNew]
  refine wpAny_bind (wpAny_handled ?_)
  rw [show A.in1.handled = none from hh]
  refine wpAny_bind (wpAny_pure (wpAny_throw ?_))
  refine wpAny_bind (wpAny_isInstance (T := "StopIteration") (b := true) ⟨_, Heap.get?_push_size _ rfl, rfl⟩ isSubtype_stop ?_)
  exact wpAny_pure (hQ _ fun b o e => Heap.get?_push_of_some _ (Heap.get?_push_of_some _ e))

theorem end_drawn {I a T : Addr} {i : Nat} {es : Array (Int × Value)} {ep : Nat} {t : SetTable} {ps : List Nat} {Q : Option Value → Shared → Prop} (hh : A.handled = none)
    (hs : s.heap.get? a = some (setObj es ep t)) (hf : t.fits es.size = true) (hit : SIter s.heap I a (.ref T) i es.size ep)
    (hT : s.heap.get? T = some { cls := .type "tuple", data := .seq (ps.map fun (p : Nat) => rawInt p).toArray }) (hp : ps[i]? = none)
    (hQ : ∀ h', (∀ b o, b ≠ I → s.heap.get? b = some o → h'.get? b = some o) → Q none { s with heap := h' }) :
    wpAny (model prog w) A (pyNext (.ref I)) Q E s := by
  obtain ⟨o, ho, hc, hd⟩ := id hit
  unfold pyNext
  refine wpAny_bind (wpAny_attempt (wpAny_callSpecial?_slot (name := Str.ofString "__next__") hit.typeIs slot_si_next
    (wpAny_call_entry slot_si_next hit.typeIs entry_si_next ?_ (args_si_next _))))
  unfold Builtin.«set_iterator.__next__»
  refine wpAny_bind (wpAny_pure ?_)
  refine wpAny_bind (wpAny_fieldsOf ho hd ?_)
  dsimp only
  refine wpAny_bind (wpAny_setEntries_of hs rfl hf ?_)
  rw [if_neg (by simp)]
  refine wpAny_bind (wpAny_seqItems hT rfl ?_)
  dsimp only
  have e1 : (ps.map fun (p : Nat) => rawInt p).toArray[((i : Nat) : Int).toNat]? = none := by
    simp [hp]
  rw [e1]
  dsimp only
  refine wpAny_bind (wpAny_setField ho hd (by simp) ?_)
  refine wpAny_bind (wpAny_setField (Heap.get?_update_self _ ho (Obj.isFreed_of_fields (Obj.data_mapFields hd _))) (Obj.data_mapFields hd _) (by simp) ?_)
  refine stop_ok hh fun h' hk => hQ h' fun b o' hb e => hk b o' ?_
  exact (Heap.get?_update_other _ _ (Ne.symm hb)).trans ((Heap.get?_update_other _ _ (Ne.symm hb)).trans e)

/-- the next by a slot -/
theorem next_int {I a : Addr} {i sl nx : Nat} {es : Array (Int × Value)} {ep : Nat} {t : SetTable} {v : Value} {Q : Option Value → Shared → Prop}
    (hs : s.heap.get? a = some (setObj es ep t)) (hf : t.fits es.size = true) (hit : SIter s.heap I a (.int sl 0) i es.size ep)
    (hn : ∀ (E' : Value → Shared → Prop) (Q' : Option (Value × Nat) → Shared → Prop), Q' (some (v, nx)) s → wpAny (model prog w) A.in1 (setNext a sl i ep) Q' E' s)
    (hQ : ∀ h', SIter h' I a (.int nx 0) (i + 1) es.size ep → Heap.SameBut I s.heap h' → Q (some v) { s with heap := h' }) :
    wpAny (model prog w) A (pyNext (.ref I)) Q E s := by
  obtain ⟨o, ho, hc, hd⟩ := id hit
  unfold pyNext
  refine wpAny_bind (wpAny_attempt (wpAny_callSpecial?_slot (name := Str.ofString "__next__") hit.typeIs slot_si_next
    (wpAny_call_entry slot_si_next hit.typeIs entry_si_next ?_ (args_si_next _))))
  unfold Builtin.«set_iterator.__next__»
  refine wpAny_bind (wpAny_pure ?_)
  refine wpAny_bind (wpAny_fieldsOf ho hd ?_)
  dsimp only
  refine wpAny_bind (wpAny_setEntries_of hs rfl hf ?_)
  rw [if_neg (by simp)]
  simp only [Int.toNat_natCast]
  refine wpAny_bind (hn _ _ ?_)
  dsimp only
  refine wpAny_bind (wpAny_setField ho hd (by simp) ?_)
  have hd1 := Obj.data_mapFields hd (fun vs : Array Value => vs.setIfInBounds 0 (rawInt (nx : Int)))
  have ho1 := Heap.get?_update_self (Obj.mapFields fun vs : Array Value => vs.setIfInBounds 0 (rawInt (nx : Int))) ho (Obj.isFreed_of_fields hd1)
  refine wpAny_bind (wpAny_setField ho1 hd1 (by simp) ?_)
  have hit' : SIter ((s.heap.update I (Obj.mapFields (·.setIfInBounds 0 (rawInt (nx : Int))))).update I (Obj.mapFields (·.setIfInBounds 1 (rawInt ((i : Int) + 1))))) I a (.int nx 0) (i + 1) es.size ep :=
    ⟨_, Heap.get?_update_self _ ho1 (Obj.isFreed_of_fields (Obj.data_mapFields hd1 _)), (Obj.cls_mapFields ..).trans ((Obj.cls_mapFields ..).trans hc), by rw [Obj.data_mapFields hd1]; simp [rawInt]⟩
  exact wpAny_pure ⟨_, rfl, wpAny_pure (hQ _ hit' ((Heap.SameBut.update ..).trans (Heap.SameBut.update ..)))⟩

theorem end_int {I a : Addr} {i sl : Nat} {es : Array (Int × Value)} {ep : Nat} {t : SetTable} {Q : Option Value → Shared → Prop} (hh : A.handled = none)
    (hs : s.heap.get? a = some (setObj es ep t)) (hf : t.fits es.size = true) (hit : SIter s.heap I a (.int sl 0) i es.size ep)
    (hn : ∀ (E' : Value → Shared → Prop) (Q' : Option (Value × Nat) → Shared → Prop), Q' none s → wpAny (model prog w) A.in1 (setNext a sl i ep) Q' E' s)
    (hQ : ∀ h', (∀ b o, b ≠ I → s.heap.get? b = some o → h'.get? b = some o) → Q none { s with heap := h' }) :
    wpAny (model prog w) A (pyNext (.ref I)) Q E s := by
  obtain ⟨o, ho, hc, hd⟩ := id hit
  unfold pyNext
  refine wpAny_bind (wpAny_attempt (wpAny_callSpecial?_slot (name := Str.ofString "__next__") hit.typeIs slot_si_next
    (wpAny_call_entry slot_si_next hit.typeIs entry_si_next ?_ (args_si_next _))))
  unfold Builtin.«set_iterator.__next__»
  refine wpAny_bind (wpAny_pure ?_)
  refine wpAny_bind (wpAny_fieldsOf ho hd ?_)
  dsimp only
  refine wpAny_bind (wpAny_setEntries_of hs rfl hf ?_)
  rw [if_neg (by simp)]
  simp only [Int.toNat_natCast]
  refine wpAny_bind (hn _ _ ?_)
  dsimp only
  refine wpAny_bind (wpAny_setField ho hd (by simp) ?_)
  refine stop_ok hh fun h' hk => hQ h' fun b o' hb e => hk b o' ?_
  exact (Heap.get?_update_other _ _ (Ne.symm hb)).trans e
end
end NwS

set_option Elab.async false
set_option linter.all false
set_option maxRecDepth 100000
set_option maxHeartbeats 4000000
namespace NwS
open PySem
open Sem (wp)
section
variable {prog : Program} {w : World} {A : Around} {E : Value → Shared → Prop} {s : Shared}

theorem sbt_ok {Q : Bool → Shared → Prop} (h : Q (byText w) s) : wpAny (model prog w) A setsByText Q E s := by
  unfold setsByText
  exact wpAny_bind (wpAny_askSetting (wpAny_pure h))

theorem setNext_text {a : Addr} {sl i ep : Nat} {es : Array (Int × Value)} {t : SetTable} {Q : Option (Value × Nat) → Shared → Prop} (hb : byText w = true)
    (hs : s.heap.get? a = some (setObj es ep t)) (hf : t.fits es.size = true)
    (h : Q (((pickOrder (w.params.setOrder a ep) es)[i]?).map fun e => (e.2, sl)) s) : wpAny (model prog w) A (setNext a sl i ep) Q E s := by
  unfold setNext
  refine wpAny_bind (wpAny_setState_of hs rfl hf ?_)
  refine wpAny_bind (sbt_ok ?_)
  rw [hb, if_pos rfl]
  rw [if_neg (by simp)]
  refine wpAny_bind ?_
  unfold setWalk
  refine wpAny_bind (wpAny_setState_of hs rfl hf ?_)
  refine wpAny_bind (sbt_ok ?_)
  rw [hb, if_pos rfl]
  refine wpAny_bind (wpAny_askSetting (wpAny_pure ?_))
  exact wpAny_pure h

theorem setNext_one {a : Addr} {sl i ep : Nat} {es : Array (Int × Value)} {t : SetTable} {Q : Option (Value × Nat) → Shared → Prop} (hb : byText w = false)
    (hs : s.heap.get? a = some (setObj es ep t)) (hf : t.fits es.size = true) (hl : t.led = true) (h1 : es.size ≤ 1)
    (h : Q (match es[SetTable.below t.place sl]?, t.place[SetTable.below t.place sl]? with
      | some (_, x), some j => some (x, j + 1)
      | _, _ => none) s) : wpAny (model prog w) A (setNext a sl i ep) Q E s := by
  unfold setNext
  refine wpAny_bind (wpAny_setState_of hs rfl hf ?_)
  refine wpAny_bind (sbt_ok ?_)
  rw [hb, if_neg (by simp)]
  show wpAny _ _ (if (!t.plain && decide (es.size > 1)) = true then _ else _) _ _ _
  rw [if_neg (by simp; omega)]
  show wpAny _ _ ((if (!t.led && !es.isEmpty) = true then unsupported "set:maker-not-led" else pure ()) >>= _) _ _ _
  rw [hl, if_neg (by simp)]
  exact wpAny_bind (wpAny_pure (wpAny_pure h))

theorem below_zero (xs : Array Nat) (h : xs.size ≤ 1) : SetTable.below xs 0 = 0 := by
  unfold SetTable.below
  rcases Nat.le_one_iff_eq_zero_or_eq_one.mp h with e | e <;> rw [e] <;> simp [SetTable.below.go]
theorem below_one (xs : Array Nat) (h : xs.size = 1) : SetTable.below xs (xs.getD 0 0 + 1) = 1 := by
  unfold SetTable.below
  rw [h]
  have e : xs.getD 0 (xs.getD 0 0 + 1) = xs.getD 0 0 := by simp [Array.getD, h]
  show (if (0 : Nat) < 1 then (if xs.getD ((0 + 1) / 2) (xs.getD 0 0 + 1) < xs.getD 0 0 + 1 then (0 + 1) / 2 + 1 else 0) else 0) = 1
  rw [show (0 + 1) / 2 = 0 from rfl, e, if_pos (by omega), if_pos (by omega)]

theorem walks_text (hh : A.handled = none) (hb : byText w = true) {I a : Addr} (hne : a ≠ I) {es : Array (Int × Value)} {ep : Nat} {t : SetTable} (hf : t.fits es.size = true) :
    Walks prog w A I [I, a] [I] es.size (fun i v => ((pickOrder (w.params.setOrder a ep) es)[i]?).map (·.2) = some v)
      (fun i h => SIter h I a (.int (0 : Nat) 0) i es.size ep ∧ h.get? a = some (setObj es ep t)) where
  sub := fun b hb => by simp at hb; simp [hb]
  frame := fun _ _ _ st hk => ⟨st.1.at fun o e => hk I (by simp) o e, hk a (by simp) _ st.2⟩
  item := fun i s Q E hi st hQ => by
    have hz : (pickOrder (w.params.setOrder a ep) es).size = es.size := by
      rw [← Array.length_toList, (perm_pickOrder _ es).length_eq, Array.length_toList]
    obtain ⟨e, he⟩ : ∃ e, (pickOrder (w.params.setOrder a ep) es)[i]? = some e := ⟨_, Array.getElem?_eq_getElem (by omega)⟩
    refine next_int (v := e.2) (nx := 0) st.2 hf st.1 (fun E' Q' q => setNext_text hb st.2 hf (by rw [he]; exact q)) fun h' hit' hsb => ?_
    exact hQ _ h' s.toks (by rw [he]; rfl) ⟨hit', (hsb.2 a hne).trans st.2⟩ fun b o hb e => (hsb.2 b (fun z => hb (by simp [z]))).trans e
  done := fun s Q E st hQ => by
    have hz : (pickOrder (w.params.setOrder a ep) es).size = es.size := by
      rw [← Array.length_toList, (perm_pickOrder _ es).length_eq, Array.length_toList]
    have he : (pickOrder (w.params.setOrder a ep) es)[es.size]? = none := Array.getElem?_eq_none (by omega)
    refine end_int hh st.2 hf st.1 (fun E' Q' q => setNext_text hb st.2 hf (by rw [he]; exact q)) fun h' hk => ?_
    exact hQ h' s.toks fun b o hb e => hk b o (fun z => hb (by simp [z])) e
  self := fun _ _ _ _ st hQ => iter_self st.1 hQ

theorem walks_drawn (hh : A.handled = none) {I a T : Addr} (hne : a ≠ I) (hTI : T ≠ I) {es : Array (Int × Value)} {ep : Nat} {t : SetTable} (hf : t.fits es.size = true) {ps : List Nat} (hps : ps.Perm (List.range es.size)) :
    Walks prog w A I [I, a, T] [I] es.size (fun i v => ∃ p e, ps[i]? = some p ∧ es[p]? = some e ∧ v = e.2)
      (fun i h => SIter h I a (.ref T) i es.size ep ∧ h.get? a = some (setObj es ep t) ∧ h.get? T = some { cls := .type "tuple", data := .seq (ps.map fun (p : Nat) => rawInt p).toArray }) where
  sub := fun b hb => by simp at hb; simp [hb]
  frame := fun _ _ _ st hk => ⟨st.1.at fun o e => hk I (by simp) o e, hk a (by simp) _ st.2.1, hk T (by simp) _ st.2.2⟩
  item := fun i s Q E hi st hQ => by
    have hz : ps.length = es.size := by rw [hps.length_eq, List.length_range]
    have hp : ps[i]? = some (ps[i]'(by omega)) := List.getElem?_eq_getElem (by omega)
    have hm : ps[i]'(by omega) < es.size := List.mem_range.mp (hps.mem_iff.mp (List.getElem_mem _))
    have he : es[ps[i]'(by omega)]? = some (es[ps[i]'(by omega)]'hm) := Array.getElem?_eq_getElem hm
    refine next_drawn st.2.1 hf st.1 st.2.2 hp he fun h' hit' hsb => ?_
    exact hQ _ h' s.toks ⟨_, _, hp, he, rfl⟩ ⟨hit', (hsb.2 a hne).trans st.2.1, (hsb.2 T hTI).trans st.2.2⟩ fun b o hb e => (hsb.2 b (fun z => hb (by simp [z]))).trans e
  done := fun s Q E st hQ => by
    have hz : ps.length = es.size := by rw [hps.length_eq, List.length_range]
    refine end_drawn hh st.2.1 hf st.1 st.2.2 (List.getElem?_eq_none (by omega)) fun h' hk => ?_
    exact hQ h' s.toks fun b o hb e => hk b o (fun z => hb (by simp [z])) e
  self := fun _ _ _ _ st hQ => iter_self st.1 hQ

theorem walks_one (hh : A.handled = none) (hb : byText w = false) {I a : Addr} (hne : a ≠ I) {es : Array (Int × Value)} {ep : Nat} {t : SetTable} (hf : t.fits es.size = true) (hl : t.led = true) (h1 : es.size ≤ 1) :
    Walks prog w A I [I, a] [I] es.size (fun i v => (es[i]?).map (·.2) = some v)
      (fun i h => SIter h I a (.int (if i = 0 then 0 else t.place.getD 0 0 + 1 : Nat) 0) i es.size ep ∧ h.get? a = some (setObj es ep t)) where
  sub := fun b hb => by simp at hb; simp [hb]
  frame := fun _ _ _ st hk => ⟨st.1.at fun o e => hk I (by simp) o e, hk a (by simp) _ st.2⟩
  item := fun i s Q E hi st hQ => by
    have hpz : t.place.size = es.size := by simp [SetTable.fits] at hf; exact hf.1
    have i0 : i = 0 := by omega
    subst i0
    have e1 : es.size = 1 := by omega
    have he : es[0]? = some (es[0]'(by omega)) := Array.getElem?_eq_getElem (by omega)
    have hp : t.place[0]? = some (t.place[0]'(by omega)) := Array.getElem?_eq_getElem (by omega)
    have hg : t.place.getD 0 0 = t.place[0]'(by omega) := by simp [Array.getD, hpz, e1]
    refine next_int (v := (es[0]'(by omega)).2) (nx := t.place[0]'(by omega) + 1) st.2 hf st.1 (fun E' Q' q => setNext_one hb st.2 hf hl h1 ?_) fun h' hit' hsb => ?_
    · rw [if_pos rfl, below_zero _ (by omega), he, hp]; exact q
    · refine hQ _ h' s.toks (by rw [he]; rfl) ⟨?_, (hsb.2 a hne).trans st.2⟩ fun b o hb e => (hsb.2 b (fun z => hb (by simp [z]))).trans e
      rw [if_neg (by omega), hg]; exact hit'
  done := fun s Q E st hQ => by
    have hpz : t.place.size = es.size := by simp [SetTable.fits] at hf; exact hf.1
    refine end_int hh st.2 hf st.1 (fun E' Q' q => setNext_one hb st.2 hf hl h1 ?_) fun h' hk => ?_
    · rcases Nat.le_one_iff_eq_zero_or_eq_one.mp h1 with e | e
      · rw [if_pos e, below_zero _ (by omega), Array.getElem?_eq_none (by omega)]; exact q
      · rw [if_neg (by omega), below_one _ (by omega), Array.getElem?_eq_none (by omega)]; exact q
    · exact hQ h' s.toks fun b o hb e => hk b o (fun z => hb (by simp [z])) e
  self := fun _ _ _ _ st hQ => iter_self st.1 hQ

theorem items_text {w : World} {a : Addr} {ep : Nat} {es : Array (Int × Value)} {acc : Array Value} (h : ItemsOf (fun i v => ((pickOrder (w.params.setOrder a ep) es)[i]?).map (·.2) = some v) acc es.size) :
    acc.toList.Perm (es.toList.map (·.2)) := by
  have e : acc.toList = (pickOrder (w.params.setOrder a ep) es).toList.map (·.2) := by
    apply List.ext_getElem?
    intro i
    rw [List.getElem?_map, Array.getElem?_toList, Array.getElem?_toList]
    by_cases hi : i < acc.size
    · have := h.2 i acc[i] (Array.getElem?_eq_getElem hi)
      rw [Array.getElem?_eq_getElem hi]; exact this.symm
    · rw [Array.getElem?_eq_none (by omega), Array.getElem?_eq_none (by rw [← Array.length_toList, (perm_pickOrder _ es).length_eq, Array.length_toList]; have := h.1; omega)]; rfl
  rw [e]
  exact (perm_pickOrder _ es).map _
theorem items_one {es : Array (Int × Value)} {acc : Array Value} (h : ItemsOf (fun i v => (es[i]?).map (·.2) = some v) acc es.size) :
    acc.toList.Perm (es.toList.map (·.2)) := by
  have e : acc.toList = es.toList.map (·.2) := by
    apply List.ext_getElem?
    intro i
    rw [List.getElem?_map, Array.getElem?_toList, Array.getElem?_toList]
    by_cases hi : i < acc.size
    · have := h.2 i acc[i] (Array.getElem?_eq_getElem hi)
      rw [Array.getElem?_eq_getElem hi]; exact this.symm
    · rw [Array.getElem?_eq_none (by omega), Array.getElem?_eq_none (by have := h.1; omega)]; rfl
  rw [e]
theorem items_drawn {es : Array (Int × Value)} {acc : Array Value} {ps : List Nat} (hps : ps.Perm (List.range es.size)) (h : ItemsOf (fun i v => ∃ p e, ps[i]? = some p ∧ es[p]? = some e ∧ v = e.2) acc es.size) :
    acc.toList.Perm (es.toList.map (·.2)) := by
  have hz : ps.length = es.size := by rw [hps.length_eq, List.length_range]
  have e : acc.toList = (ps.filterMap (fun i => es[i]?)).map (·.2) := by
    have e0 : ps.filterMap (fun i => es[i]?) = ps.map (fun i => (es[i]?).getD default) := by
      have hall : ∀ i ∈ ps, i < es.size := fun i hi => List.mem_range.mp (hps.mem_iff.mp hi)
      clear hz h hps
      induction ps with
      | nil => rfl
      | cons q qs ih =>
        have hq : q < es.size := hall q (by simp)
        rw [List.filterMap_cons_some (b := es[q]) (by simp [hq]), ih fun i hi => hall i (by simp [hi])]
        simp [hq]
    rw [e0, List.map_map]
    apply List.ext_getElem?
    intro i
    rw [List.getElem?_map, Array.getElem?_toList]
    by_cases hi : i < acc.size
    · obtain ⟨p, e, h1, h2, h3⟩ := h.2 i acc[i] (Array.getElem?_eq_getElem hi)
      rw [Array.getElem?_eq_getElem hi, h1, h3]
      simp [h2]
    · rw [Array.getElem?_eq_none (by omega), List.getElem?_eq_none (by have := h.1; omega)]; rfl
  rw [e]
  refine List.Perm.map _ ((hps.filterMap _).trans ?_)
  rw [filterMap_getElem?_range]
end
end NwS

set_option Elab.async false
set_option linter.all false
set_option maxRecDepth 100000
set_option maxHeartbeats 4000000
namespace NwS
open PySem
open Sem (wp)
section
variable {prog : Program} {w : World} {A : Around} {E : Value → Shared → Prop} {s : Shared}

theorem drawn_ok {a : Addr} {es : Array (Int × Value)} {ep : Nat} {t : SetTable} {Q : Bool → Shared → Prop} (hs : s.heap.get? a = some (setObj es ep t)) (hf : t.fits es.size = true)
    (h : Q (!byText w && (!t.plain && decide (es.size > 1))) s) : wpAny (model prog w) A (setDrawn a) Q E s := by
  unfold setDrawn
  refine wpAny_bind (wpAny_setState_of hs rfl hf ?_)
  refine wpAny_bind (sbt_ok ?_)
  exact wpAny_pure h

theorem iter_ok {a : Addr} {es : Array (Int × Value)} {ep : Nat} {t : SetTable} {ss : List Str} (hS : SetT prog w s.heap a ss es ep t) {Q : Value → Shared → Prop}
    (hQ : ∀ I fp P St h' d, (∀ A' : Around, A'.handled = none → Walks prog w A' I fp [I] es.size P St) → St 0 h' → (∀ b ∈ fp, b < h'.objs.size) → I ∈ fp → s.heap.objs.size ≤ I → (∀ b ∈ fp, b = a ∨ s.heap.objs.size ≤ b) →
      (∀ b o, s.heap.get? b = some o → h'.get? b = some o) → (∀ acc, ItemsOf P acc es.size → acc.toList.Perm (es.toList.map (·.2))) → Q (.ref I) { s with heap := h', drawn := d }) :
    wpAny (model prog w) A (pyIter (.ref a)) Q E s := by
  obtain ⟨ho, hel, hpm, hb, hf, hpl, hld⟩ := id hS
  have hT : s.TypeIs (.ref a) "set" := ⟨_, ho, rfl⟩
  have hlt : a < s.heap.objs.size := Heap.lt_size ho
  refine wpAny_pyIter_slot hT F.slot_set_iter (wpAny_call_entry F.slot_set_iter hT entry_set_iter ?_ (F.args_set_iter_1 _))
  unfold Builtin.«frozenset.__iter__» Builtin.Frozenset.slot0 Builtin.Frozenset.sizeOf
  refine wpAny_bind (wpAny_bind (wpAny_pure (wpAny_pure ?_)))
  refine wpAny_bind (wpAny_bind (wpAny_setEntries_of ho rfl hf (wpAny_pure ?_)))
  refine wpAny_bind (drawn_ok ho hf ?_)
  have plain : ∀ (P : Nat → Value → Prop) (St : Nat → Heap → Prop), (∀ A' : Around, A'.handled = none → Walks prog w A' s.heap.objs.size [s.heap.objs.size, a] [s.heap.objs.size] es.size P St) →
      (∀ h', SIter h' s.heap.objs.size a (.int (0 : Nat) 0) 0 es.size ep → h'.get? a = some (setObj es ep t) → St 0 h') → (∀ acc, ItemsOf P acc es.size → acc.toList.Perm (es.toList.map (·.2))) →
      Q (.ref s.heap.objs.size) { s with heap := s.heap.push { cls := .type "set_iterator", data := .fields #[.int (0 : Nat) 0, .int (0 : Nat) 0, .ref a, .int es.size 0, .int ep 0] } } := by
    intro P St W st it
    refine hQ _ _ P St _ s.drawn W (st _ ⟨_, Heap.get?_push_size _ rfl, rfl, rfl⟩ (Heap.get?_push_of_some _ ho)) (fun b hb' => ?_) (by simp) (Nat.le_refl _) (fun b hb' => ?_) (fun b o e => Heap.get?_push_of_some _ e) it
    · rw [Heap.size_push]
      rcases List.mem_cons.mp hb' with e | e
      · rw [e]; exact Nat.lt_succ_self _
      · rw [List.mem_singleton.mp e]; exact Nat.lt_succ_of_lt hlt
    · rcases List.mem_cons.mp hb' with e | e
      · exact .inr (by rw [e]; exact Nat.le_refl _)
      · exact .inl (List.mem_singleton.mp e)
  have hne : a ≠ s.heap.objs.size := Nat.ne_of_lt hlt
  have fin : ∀ {Q' : Value → Shared → Prop}, Q (.ref s.heap.objs.size) { s with heap := s.heap.push { cls := .type "set_iterator", data := .fields #[.int (0 : Nat) 0, .int (0 : Nat) 0, .ref a, .int es.size 0, .int ep 0] } } →
      wpAny (model prog w) A.in1 (setEpoch a >>= fun e => newFields "set_iterator" [rawInt 0, rawInt 0, .ref a, rawInt es.size, rawInt e] >>= fun v => ret v)
        (fun fin s' => ∃ r, fin = .done (.ret r) ∧ ∃ T m, s'.TypeIs r T ∧ typeLookup (.type T) "__next__" = pure (some m) ∧ Q r s') E s := by
    intro Q' q
    refine wpAny_bind (wpAny_setEpoch_of ho rfl hf ?_)
    refine wpAny_bind (wpAny_newObj_type (wpAny_pure ⟨_, rfl, "set_iterator", _, ⟨_, Heap.get?_push_size _ rfl, rfl⟩, slot_si_next.lookup, ?_⟩))
    exact q
  cases hbt : byText w with
  | true =>
    rw [if_neg (by simp)]
    refine wpAny_bind (wpAny_pure ?_)
    exact fin (Q' := Q) (plain _ _ (fun A' hh => walks_text hh hbt hne hf) (fun h' a1 a2 => ⟨a1, a2⟩) fun acc q => items_text q)
  | false =>
    by_cases h1 : es.size ≤ 1
    · rw [if_neg (by simp; omega)]
      refine wpAny_bind (wpAny_pure ?_)
      exact fin (Q' := Q) (plain _ _ (fun A' hh => walks_one hh hbt hne hf (hld hbt) h1) (fun h' a1 a2 => ⟨a1, a2⟩) fun acc q => items_one q)
    · have hp : t.plain = false := hpl.resolve_left (by omega)
      rw [if_pos (by simp [hp]; omega)]
      refine wpAny_bind (drawOrder_ok es.size (List.range es.size) (List.length_range).symm fun ps d hps => ?_)
      have hlen : ps.length = es.size := by rw [hps.length_eq, List.length_range]
      refine wpAny_bind (wpAny_newObj_type ?_ (by have := fits_of_scanBound hb; show (List.map (fun (i : Nat) => rawInt i) ps).toArray.size ≤ _; rw [List.size_toArray, List.length_map, hlen]; omega))
      refine wpAny_bind (wpAny_setEpoch_of (Heap.get?_push_of_some _ ho) rfl hf ?_)
      refine wpAny_bind (wpAny_newObj_type (wpAny_pure ⟨_, rfl, "set_iterator", _, ⟨_, Heap.get?_push_size _ rfl, rfl⟩, slot_si_next.lookup, ?_⟩))
      have hz : (s.heap.push { cls := .type "tuple", data := .seq (ps.map fun (i : Nat) => rawInt i).toArray }).objs.size = s.heap.objs.size + 1 := Heap.size_push _ _
      have hTI : s.heap.objs.size ≠ (s.heap.push { cls := .type "tuple", data := .seq (ps.map fun (i : Nat) => rawInt i).toArray }).objs.size := by rw [hz]; omega
      have hneI : a ≠ (s.heap.push { cls := .type "tuple", data := .seq (ps.map fun (i : Nat) => rawInt i).toArray }).objs.size := by rw [hz]; exact Nat.ne_of_lt (Nat.lt_succ_of_lt hlt)
      refine hQ _ _ _ _ _ d (fun A' hh => walks_drawn (T := s.heap.objs.size) hh hneI hTI hf hps) ⟨⟨_, Heap.get?_push_size _ rfl, rfl, rfl⟩, Heap.get?_push_of_some _ (Heap.get?_push_of_some _ ho), Heap.get?_push_of_some _ (Heap.get?_push_size _ rfl)⟩
        (fun b hb' => ?_) (by simp) (by rw [hz]; omega) (fun b hb' => ?_) (fun b o e => Heap.get?_push_of_some _ (Heap.get?_push_of_some _ e)) fun acc q => items_drawn hps q
      · rw [Heap.size_push, Heap.size_push]
        rw [hz] at hb'
        simp only [List.mem_cons, List.not_mem_nil, or_false] at hb'
        rcases hb' with e | e | e
        · rw [e]; exact Nat.lt_succ_self _
        · rw [e]; exact Nat.lt_succ_of_lt (Nat.lt_succ_of_lt hlt)
        · rw [e]; exact Nat.lt_succ_of_lt (Nat.lt_succ_self _)
      · rw [hz] at hb'
        simp only [List.mem_cons, List.not_mem_nil, or_false] at hb'
        rcases hb' with e | e | e
        · exact .inr (by rw [e]; exact Nat.le_succ _)
        · exact .inl e
        · exact .inr (by rw [e]; exact Nat.le_refl _)

theorem collect_set {a : Addr} {es : Array (Int × Value)} {ep : Nat} {t : SetTable} {ss : List Str} (hh : A.handled = none) (hS : SetT prog w s.heap a ss es ep t) {Q : List Value → Shared → Prop}
    (hQ : ∀ vs h' d tk, vs.Perm (es.toList.map (·.2)) → (∀ b o, s.heap.get? b = some o → h'.get? b = some o) → Q vs { s with heap := h', drawn := d, toks := tk }) :
    wpAny (model prog w) A (collect (.ref a)) Q E s := by
  have ho := hS.obj
  have hlt : a < s.heap.objs.size := Heap.lt_size ho
  have hSa : s.heap.objs.size ≠ a := Nat.ne_of_gt hlt
  have hn : es.size ≤ sizeLine := fits_of_scanBound hS.bd
  unfold collect
  refine wpAny_bind (wpAny_runValue (codeAny_builtin F.entry_proto_collect ?_))
  rw [Around.under_plainId F.plain_proto_collect _]
  show wpAny _ A.in1 (newList [] >>= fun l => again (.builtin "list.__iadd__" ⟨[l, .ref a], []⟩)) _ _ s
  refine wpAny_bind (wpAny_newObj_type ?_)
  refine wpAny_pure ⟨plainId_quiet F.plain_list_iadd _, codeAny_builtin F.entry_list_iadd ?_⟩
  rw [Around.under_plainId F.plain_list_iadd _]
  have hS1 : SetT prog w (s.heap.push { cls := .type "list", data := .seq ([] : List Value).toArray }) a ss es ep t := { hS with obj := Heap.get?_push_of_some _ ho }
  have hT1 : Shared.TypeIs { s with heap := s.heap.push { cls := .type "list", data := .seq ([] : List Value).toArray } } (.ref a) "set" := ⟨_, hS1.obj, rfl⟩
  show wpAny _ A.in1 (Builtin.List.listExtendWith (.ref s.heap.objs.size) (.ref a) (.ref s.heap.objs.size)) _ _ _
  unfold Builtin.List.listExtendWith
  refine wpAny_bind (wpAny_typeOf hT1 ?_)
  have h1 : Builtin.List.listSameRef (.ref s.heap.objs.size) (.ref a) = false := by simp [Builtin.List.listSameRef, hSa]
  have h2 : (Value.type "set" == Value.type "list") = false := by decide
  have h3 : (Value.type "set" == Value.type "tuple") = false := by decide
  simp only [h1, h2, h3, Bool.or_false, Bool.false_eq_true, if_false]
  refine wpAny_bind (iter_ok hS1 fun I fp P St h' d W st0 hfp hI hIf hfa hk items => ?_)
  have hS2 : SetT prog w h' a ss es ep t := { hS1 with obj := hk _ _ hS1.obj }
  have hT2 : Shared.TypeIs { s with heap := h', drawn := d } (.ref a) "set" := ⟨_, hS2.obj, rfl⟩
  refine wpAny_bind (wpAny_holding ?_)
  unfold Builtin.List.listLengthHint
  refine wpAny_bind (wpAny_specialOf hT2 F.slot_set_len.lookup ?_)
  (generalize hid : ("set.__len__" : String) = id0; (fail_if_success (clear hid id0)); dsimp only; rw [show splitId id0 = some ("set", "__len__") from by subst hid; decide +kernel]; subst hid)
  refine wpAny_bind (wpAny_isInstance (b := true) hT2 (by rw [isSubtype_type]; kernel_rfl) ?_)
  refine wpAny_bind (wpAny_typeOf hT2 ?_)
  refine wpAny_pure ?_
  show wpAny _ A.in1 (rule "list.extend.makes-room" >>= fun _ => Builtin.List.listTouch (.ref s.heap.objs.size) >>= fun _ =>
    again (.builtin "list.extend.loop" ⟨[.ref s.heap.objs.size, .ref I, .ref s.heap.objs.size], []⟩)) _ _ _
  refine wpAny_bind (wpAny_rule ?_)
  have hSf : s.heap.objs.size ∉ fp := fun hm => by
    rcases hfa _ hm with e | e
    · exact hSa e
    · rw [Heap.size_push] at e; omega
  have hS₁ : h'.get? s.heap.objs.size = some { cls := .type "list", data := .seq ([] : List Value).toArray } := hk _ _ (Heap.get?_push_size _ rfl)
  refine wpAny_bind ?_
  show wpAny _ A.in1 (updateSeq s.heap.objs.size (·.push .none) >>= fun _ => updateSeq s.heap.objs.size (·.pop)) _ _ _
  refine wpAny_bind (wpAny_updateSeq hS₁ rfl ?_)
  have hS₂ := Heap.get?_update_self (Obj.mapSeq (·.push Value.none)) hS₁ rfl
  refine wpAny_updateSeq hS₂ rfl ?_
  have hS₃ := Heap.get?_update_self (Obj.mapSeq (·.pop)) hS₂ rfl
  have oth : ∀ b o, b ≠ s.heap.objs.size → h'.get? b = some o →
      ((h'.update s.heap.objs.size (Obj.mapSeq (·.push Value.none))).update s.heap.objs.size (Obj.mapSeq (·.pop))).get? b = some o :=
    fun b o hb e => (Heap.get?_update_other _ _ (Ne.symm hb)).trans ((Heap.get?_update_other _ _ (Ne.symm hb)).trans e)
  have WS := (W A.in1.in1 hh).toS
  refine wpAny_pure ⟨plainId_quiet F.plain_extend_loop _, codeAny_extend_loopS (A := A) (W A.in1 hh).toS hn _ hSf _ es.size 0 _ _ _ rfl (Nat.zero_le _)
    (WS.frame 0 ({ s with heap := h', drawn := d } : Shared) _ s.toks st0 (Nat.le_refl _) fun b hb o e => oth b o (fun h => hSf (h ▸ hb)) e) hS₃ (ItemsOf.nil P) fun s' acc' c' hm hS' hacc => ?_⟩
  obtain ⟨h4, g4, d4, tk4, os4⟩ := s'
  have eg : g4 = s.gens := hm.gens
  have ed : d4 = d := hm.drawn
  have eo : os4 = s.os := hm.os
  subst eg; subst ed; subst eo
  show wpAny _ A (load s.heap.objs.size >>= _) _ _ _
  refine wpAny_bind (wpAny_load hS' ?_)
  refine wpAny_pure (hQ _ h4 d4 tk4 (items _ hacc) fun b o e => ?_)
  have hlb : b < s.heap.objs.size := Heap.lt_size e
  refine hm.heap b o (fun hm' => ?_) (oth b o (Nat.ne_of_lt hlb) (hk b o (Heap.get?_push_of_some _ e)))
  rcases List.mem_cons.mp hm' with z | z
  · exact absurd z (Nat.ne_of_lt hlb)
  · have z := List.mem_singleton.mp z
    have hIf' : s.heap.objs.size + 1 ≤ I := by rw [← Heap.size_push s.heap { cls := .type "list", data := .seq ([] : List Value).toArray }]; exact hIf
    exact absurd (Nat.lt_trans hlb hIf') (by rw [z]; exact Nat.lt_irrefl _)
end
end NwS

set_option Elab.async false
set_option linter.all false
set_option maxRecDepth 100000
set_option maxHeartbeats 4000000
namespace NwS
open PySem PySem.Spec PyProof.Rows
open Sem (wp)

def addT (ss : List Str) (x : Str) : List Str := if x ∈ ss then ss else ss ++ [x]
def metT (val : Nat → Str) : Nat → List Str
  | 0 => []
  | i + 1 => addT (metT val i) (val i)
theorem metT_length (val : Nat → Str) : ∀ i, (metT val i).length ≤ i
  | 0 => Nat.le_refl _
  | i + 1 => by
    have := metT_length val i
    show (addT _ _).length ≤ _
    unfold addT; split
    · omega
    · rw [List.length_append, List.length_singleton]; omega
theorem metT_nodup (val : Nat → Str) : ∀ i, (metT val i).Nodup
  | 0 => .nil
  | i + 1 => by
    have := metT_nodup val i
    show (addT _ _).Nodup
    unfold addT; split
    · exact this
    · rename_i h
      rw [List.nodup_append]
      refine ⟨this, by simp, fun a ha b hb => ?_⟩
      rw [List.mem_singleton.mp hb]
      exact fun e => h (e ▸ ha)
theorem metT_mem (val : Nat → Str) (x : Str) : ∀ i, x ∈ metT val i ↔ ∃ j, j < i ∧ val j = x
  | 0 => by simp [metT]
  | i + 1 => by
    have ih := metT_mem val x i
    have e : x ∈ metT val (i + 1) ↔ x ∈ metT val i ∨ x = val i := by
      show x ∈ addT _ _ ↔ _
      unfold addT; split
      · rename_i h
        exact ⟨.inl, fun z => z.elim id fun e => e ▸ h⟩
      · rw [List.mem_append, List.mem_singleton]
    rw [e, ih]
    constructor
    · rintro (⟨j, h1, h2⟩ | e)
      · exact ⟨j, by omega, h2⟩
      · exact ⟨i, by omega, e.symm⟩
    · rintro ⟨j, h1, h2⟩
      by_cases h : j = i
      · subst h; exact .inr h2.symm
      · exact .inl ⟨j, by omega, h2⟩

section
variable {prog : Program} {w : World} {A : Around} {R : Result → Shared → Prop} {I : Addr} {fp wr : List Addr} {G : Array GenState → Array GenState → Prop} {n : Nat} {P : Nat → Value → Prop} {St : Nat → Shared → Prop}

theorem loop_set (W : WalksS prog w A.in1 I fp wr G n P St) (S : Addr) (hSf : S ∉ fp)
    (val : Nat → Str) (hval : ∀ i v, P i v → ∃ t, v = .str (val i) t) (hb : n + 1 < scanBound) :
    ∀ (k i : Nat) (s : Shared), n - i = k → i ≤ n → St i s →
      (∃ es ep t, SetT prog w s.heap S (metT val i) es ep t) →
      (∀ s', Moved (S :: wr) G s s' → (∃ es ep t, SetT prog w s'.heap S (metT val n) es ep t) → R (.ok (.ret .none)) s') →
      codeAny (model prog w) A (.builtin "set.update.loop" ⟨[.ref S, .ref I], []⟩) R s := by
  have hSw : S ∉ wr := fun h => hSf (W.sub _ h)
  have hsub : ∀ b ∈ wr, b ∈ S :: wr := fun b hb => List.mem_cons_of_mem _ hb
  intro k
  induction k with
  | zero =>
    intro i s hk hi hst hS hR
    have hin : i = n := by omega
    subst hin
    refine codeAny_builtin F.entry_set_update_loop ?_
    rw [Around.under_plainId F.plain_set_update_loop _]
    show wpAny _ A.in1 (pyNext (.ref I) >>= _) _ _ s
    refine wpAny_bind (W.done s _ _ hst fun s' hm => ?_)
    show wpAny _ A.in1 (ret Value.none) _ _ s'
    obtain ⟨es, ep, t, hS⟩ := hS
    exact wpAny_pure (hR s' (hm.mono hsub) ⟨es, ep, t, { hS with obj := hm.heap S _ hSw hS.obj }⟩)
  | succ k ih =>
    intro i s hk hi hst hS hR
    have hlt : i < n := by omega
    refine codeAny_builtin F.entry_set_update_loop ?_
    rw [Around.under_plainId F.plain_set_update_loop _]
    show wpAny _ A.in1 (pyNext (.ref I) >>= _) _ _ s
    refine wpAny_bind (W.item i s _ _ hlt hst fun v s' hP hst' hm => ?_)
    obtain ⟨t, rfl⟩ := hval i v hP
    obtain ⟨es, ep, tb, hS⟩ := hS
    have hS' : SetT prog w s'.heap S (metT val i) es ep tb := { hS with obj := hm.heap S _ hSw hS.obj }
    show wpAny _ A.in1 (holding [Value.str (val i) t] (setAdd S (.str (val i) t)) >>= _) _ _ s'
    refine wpAny_bind (wpAny_holding ?_)
    unfold setAdd
    refine wpAny_holding ?_
    refine wpAny_bind ((strKind prog w).pyHash (k := val i) (strKind_is _ _ _ _) ?_)
    have hsz : es.size = (metT val i).length := by rw [← hS.pm.length_eq, List.length_map, Array.length_toList]
    have hroom : es.size + 1 < scanBound := by have := metT_length val i; omega
    refine add_ok (s := { s' with toks := s'.toks + 1 }) hS' hroom fun h' es' ep' t' b hsb hS2 _ => ?_
    have hSi : SetT prog w h' S (metT val (i + 1)) es' ep' t' := hS2
    refine wpAny_pure ⟨plainId_quiet F.plain_set_update_loop _, ih (i + 1) _ (by omega) hlt (W.frame _ s' _ _ hst' (Nat.le_succ _) fun b hb o e => ?_) ⟨_, _, _, hSi⟩ fun s'' hm'' hS'' => ?_⟩
    · rw [hsb.2 b (fun h : b = S => hSf (by rw [← h]; exact hb))]; exact e
    · refine hR s'' (Moved.trans W.gtrans ((hm.mono hsub).then_heap (Nat.le_succ _) fun b o hb e => ?_) hm'') hS''
      rw [hsb.2 b (fun h : b = S => hb (by rw [h]; exact List.mem_cons_self))]; exact e
end

section
variable {prog : Program} {w : World} {A : Around} {E : Value → Shared → Prop} {s : Shared}

theorem new_set (a : Value) {Q₁ : Value → Shared → Prop}
    (h : Q₁ (.ref s.heap.objs.size) { s with heap := s.heap.push { cls := .type "set", dict := none, data := .set #[] 0 (.fresh 0 0 (!byText w)) } }) :
    codeAny (model prog w) A (.call (.builtin "set.__new__") ⟨[.type "set", a], []⟩) (wants Q₁ E) s := by
  refine codeAny_of_tree ?_
  show wpAny _ A.in1 (do checkBuiltinCall "set.__new__" ⟨[.type "set", a], []⟩; again (.builtin "set.__new__" ⟨[.type "set", a], []⟩)) _ _ s
  refine wpAny_bind (wpAny_of_eq (F.newCall_set_1 a) (wpAny_pure ⟨plainId_quiet F.plain_set_new _, codeAny_builtin F.entry_set_new ?_⟩))
  rw [Around.under_plainId F.plain_set_new _]
  unfold Builtin.«set.__new__» Builtin.Frozenset.newClass
  have hsub := sub_set_self
  obtain ⟨hp, g, d, tk, os⟩ := s
  dsimp only
  wp_walk
  refine wpAny_askSetting (wpAny_pure ?_)
  dsimp only
  simp only [newObj]
  refine wpAny_bind (wpAny_alloc (wpAny_pure ?_))
  exact wpAny_pure h

set_option maxRecDepth 100000 in
set_option maxHeartbeats 3200000 in
theorem call_set_strs {l : Addr} {items : Array Value} {xs : List Str} {Q : Value → Shared → Prop}
    (hh : A.handled = none) (hl : s.heap.IsList l items) (hi : StrsAre items.toList xs) (hb : items.size + 1 < scanBound)
    (h : ∀ (h' : Heap) (tk : Nat), (∃ es ep t, SetT prog w h' s.heap.objs.size (metT (fun i => xs.getD i ⟨#[]⟩) items.size) es ep t) →
      (∀ b o, b < s.heap.objs.size → s.heap.get? b = some o → h'.get? b = some o) → Q (.ref s.heap.objs.size) { s with heap := h', toks := tk }) :
    wpAny (model prog w) A (call (.type "set") [.ref l]) Q E s := by
  obtain ⟨c, tl, hmro⟩ := F.called_set.mro
  have hmade := F.called_set.made
  have hsub := F.called_set.sub
  refine wpAny_call (codeAny_of_tree ?_)
  show wpAny _ _ (callAny (.type "set") _) _ _ _
  refine wpAny_pure ⟨Code.quiet_builtin _ (by decide +kernel), codeAny_builtin F.entry_type_call ?_⟩
  rw [Around.under_plain (weight_type_call_type "set" [.ref l] []) rfl]
  have h1 := F.called_set.notType
  have h2 := F.called_set.canCreate
  have hct := F.typeCall_set_1 (.ref l)
  repeat (any_goals (first | assumption | wp_step))
  refine codeAny_mono (new_set (.ref l) (E := E) (Q₁ := fun obj s₁ => obj = .ref s.heap.objs.size ∧ s₁ = { s with heap := s.heap.push { cls := .type "set", dict := none, data := .set #[] 0 (.fresh 0 0 (!byText w)) } }) ⟨rfl, rfl⟩) fun r s₁ hr => ?_
  cases r with
  | error e => exact hr
  | ok fl =>
    cases fl with
    | ret obj =>
      obtain ⟨rfl, rfl⟩ := hr
      have hS : (s.heap.push { cls := .type "set", dict := none, data := .set #[] 0 (.fresh 0 0 (!byText w)) }).get? s.heap.objs.size = some { cls := .type "set", dict := none, data := .set #[] 0 (.fresh 0 0 (!byText w)) } := Heap.get?_push_size _ rfl
      have hT : Shared.TypeIs { s with heap := s.heap.push { cls := .type "set", dict := none, data := .set #[] 0 (.fresh 0 0 (!byText w)) } } (.ref s.heap.objs.size) "set" := ⟨_, hS, rfl⟩
      have hli := F.called_set.init.lookup
      have hbi := F.called_set.init.bind (.ref s.heap.objs.size)
      repeat (any_goals (first | assumption | wp_step))
      refine codeAny_mono (codeAny_call_builtin (R := wants (fun r s₂ => r = .none ∧ ∃ h' tk, s₂ = { s with heap := h', toks := tk } ∧
          (∃ es ep t, SetT prog w h' s.heap.objs.size (metT (fun i => xs.getD i ⟨#[]⟩) items.size) es ep t) ∧
          (∀ b o, b < s.heap.objs.size → s.heap.get? b = some o → h'.get? b = some o)) E) F.called_set.init.plain F.entry_set_init (check_set_init_1 hT ?_)) fun r₂ s₂ hr₂ => ?_
      · obtain ⟨ol, hol, hcl, nl, hdl⟩ := hl
        obtain ⟨ocls, odict, odata, oslots⟩ := ol
        simp only at hcl hdl
        subst hcl; subst hdl
        have hol' : (s.heap.push { cls := .type "set", dict := none, data := .set #[] 0 (.fresh 0 0 (!byText w)) }).get? l = some { cls := .type "list", dict := odict, data := .seq items nl, slots := oslots } := Heap.get?_push_of_some _ hol
        have hsls := F.sub_list_set
        have hslf := F.sub_list_frozenset
        have hne : (Value.type "list" == Value.type "dict") = false := by decide
        have hl1 : (s.heap.push { cls := .type "set", dict := none, data := .set #[] 0 (.fresh 0 0 (!byText w)) }).IsList l items := ⟨_, hol', rfl, nl, rfl⟩
        unfold Builtin.«set.__init__» noKeywords Builtin.Frozenset.updateFrom
        generalize hPI : pyIter = PI
        wp_walk
        subst hPI
        refine wpAny_pyIter_list hl1 ?_
        refine wpAny_bind (wpAny_runValue ?_)
        have hlS : l < s.heap.objs.size := Heap.lt_size hol
        have hh3 : A.in1.in1.in1.handled = none := by simp [hh]
        have hneI : l ≠ (s.heap.push { cls := .type "set", dict := none, data := .set #[] 0 (.fresh 0 0 (!byText w)) }).objs.size := by
          rw [Heap.size_push]; exact Nat.ne_of_lt (Nat.lt_succ_of_lt hlS)
        have hSf : s.heap.objs.size ∉ [(s.heap.push { cls := .type "set", dict := none, data := .set #[] 0 (.fresh 0 0 (!byText w)) }).objs.size, l] := by
          rw [Heap.size_push]; simp only [List.mem_cons, List.mem_singleton, List.not_mem_nil, or_false, not_or]
          exact ⟨Nat.ne_of_lt (Nat.lt_succ_self _), Nat.ne_of_gt hlS⟩
        have hval : ∀ (i : Nat) (v : Value), items[i]? = some v → ∃ t, v = .str ((fun i => xs.getD i ⟨#[]⟩) i) t := fun i v hv => by
          have hv' : items.toList[i]? = some v := by rw [Array.getElem?_toList]; exact hv
          obtain ⟨x, t, e⟩ := hi.all v (List.mem_of_getElem? hv')
          have e2 : xs[i]? = some (strOf v) := by rw [← hi.strs, List.getElem?_map, hv']; rfl
          refine ⟨t, ?_⟩
          show v = .str (xs.getD i ⟨#[]⟩) t
          rw [List.getD_eq_getElem?_getD, e2, e]; rfl
        refine loop_set ((Walks.list hh3 _ l hneI items).toS) s.heap.objs.size
          hSf (fun i => xs.getD i ⟨#[]⟩) hval hb (items.size - 0) 0 _ (by omega) (Nat.zero_le _)
          ⟨⟨_, Heap.get?_push_size _ rfl, rfl, rfl⟩, (hl1.push _)⟩ ?hS0 ?hR
        case hS0 =>
          have hget : ((s.heap.push { cls := .type "set", dict := none, data := .set #[] 0 (.fresh 0 0 (!byText w)) }).push { cls := .type "list_iterator", data := .fields #[.ref l, .int 0 0] }).get? s.heap.objs.size
              = some { cls := .type "set", dict := none, data := .set #[] 0 (.fresh 0 0 (!byText w)) } := Heap.get?_push_of_some _ hS
          exact ⟨#[], 0, _, hget, fun e he => by simp at he, .nil, by decide, rfl, .inl rfl, fun z => by show (!byText w) = true; rw [z]; rfl⟩
        case hR =>
          intro s' hm hS'
          obtain ⟨h', g', d', tk', os'⟩ := s'
          have eg : g' = s.gens := hm.gens
          have ed : d' = s.drawn := hm.drawn
          have eo : os' = s.os := hm.os
          subst eg; subst ed; subst eo
          show wpAny _ _ _ _ _ _
          refine wpAny_pure ?_
          show wpAny _ _ (ret Value.none) _ _ _
          refine wpAny_pure ⟨rfl, h', tk', rfl, hS', fun b o hb e => ?_⟩
          have hb1 : b ≠ s.heap.objs.size := Nat.ne_of_lt hb
          have hb2 : b ≠ (s.heap.push { cls := .type "set", dict := none, data := .set #[] 0 (.fresh 0 0 (!byText w)) }).objs.size := by
            rw [Heap.size_push]; exact Nat.ne_of_lt (Nat.lt_succ_of_lt hb)
          exact hm.heap b o (by simp only [List.mem_cons, List.mem_singleton, List.not_mem_nil, or_false, not_or]; exact ⟨hb1, hb2⟩) (Heap.get?_push_of_some _ (Heap.get?_push_of_some _ e))
      · cases r₂ with
        | error e => exact hr₂
        | ok fl₂ =>
          cases fl₂ with
          | ret r =>
            obtain ⟨rfl, h', tk, rfl, hS', hk'⟩ := hr₂
            repeat (any_goals (first | assumption | wp_step))
            exact h _ _ hS' hk'
          | _ => exact hr₂.elim
    | _ => exact hr.elim

/-- sorted of a set of texts -/
theorem sorted_set {a : Addr} {ss : List Str} {es : Array (Int × Value)} {ep : Nat} {t : SetTable} {Q : Value → Shared → Prop} (hh : A.handled = none) (hS : SetT prog w s.heap a ss es ep t) (h64 : ss.length < 64)
    (h : ∀ (h1 h' : Heap) (d : Drawn) (tk n : Nat) (out : Array Value) (ss' : List Str), StrsAre out.toList ss' → ss'.Perm ss → ss'.Pairwise (fun a b => ltCps b.cps.toList a.cps.toList = false) →
      h'.get? h1.objs.size = some (seqObj "list" out n) → (∀ b o, s.heap.get? b = some o → h1.get? b = some o) → (∀ b o, h1.get? b = some o → h'.get? b = some o) → Q (.ref h1.objs.size) { s with heap := h', drawn := d, toks := tk }) :
    wpAny (model prog w) A (call (.builtin "sorted") [.ref a]) Q E s := by
  refine Calls.call_function_entry kind_sorted plain_sorted entry_sorted (args_sorted1 _) ?_
  unfold Builtin.«sorted»
  refine wpAny_bind (m := checkCount "sorted" 1 1 _) (wpAny_pure ?_)
  refine wpAny_bind (collect_set (A := A.in1) (show A.in1.handled = none from hh) hS fun vs h1 d tk hp hk => ?_)
  have hlen : vs.length = ss.length := by rw [hp.length_eq, List.length_map, ← hS.pm.length_eq, List.length_map]
  have hst : ∀ v, v ∈ vs → ∃ x t, v = .str x t := fun v hv => by
    obtain ⟨e, he, rfl⟩ := List.mem_map.mp (hp.mem_iff.mp hv)
    obtain ⟨⟨k, hk', _⟩, _⟩ := hS.el e he
    obtain ⟨t, e1⟩ := Value.isStrOf_shape (x := k) (v := e.2) hk'
    exact ⟨k, t, e1⟩
  have hA := strsAre_map vs hst
  have hps : (vs.map strOf).Perm ss := by
    refine (hp.map strOf).trans ?_
    rw [List.map_map]
    refine List.Perm.trans (List.Perm.of_eq ?_) hS.pm
    apply List.map_congr_left
    intro e he
    obtain ⟨⟨k, hk', _⟩, _⟩ := hS.el e he
    obtain ⟨t, e1⟩ := Value.isStrOf_shape (x := k) (v := e.2) hk'
    show strOf e.2 = txt e.2
    rw [e1]; rfl
  refine wpAny_bind (wpAny_newList ?_ (by have := fits_of_scanBound hS.bd; rw [sizeLine_eq]; omega))
  have hoL : (h1.push (seqObj "list" vs.toArray 0)).get? h1.objs.size = some (seqObj "list" vs.toArray 0) := Heap.get?_push_size _ rfl
  refine wpAny_bind (wpAny_holding (wpAny_call_entry slot_list_sort ⟨_, hoL, rfl⟩ entry_list_sort (list_sort_treeK strKind_oneLt hoL hA.keysOf (fun v₁ v₂ rest e => keyKind_strs (by rw [← e]; exact hA)) (by omega) fun st' a1 a2 => ⟨_, rfl, ?_⟩) (args_list_sort _)))
  refine wpAny_pure ⟨_, rfl, ?_⟩
  have hl : (arrOf st').toList.Perm (vs.zip vs) := by rw [← pairsOf_toList]; exact Array.perm_iff_toList_perm.mp a1
  have hmem : ∀ p, p ∈ (arrOf st').toList → p.1 = p.2 ∧ p.1 ∈ vs := fun p hp' => mem_zip_self (hl.mem_iff.mp hp')
  obtain ⟨n, hn⟩ := sortedHeap_at (h := h1.push (seqObj "list" vs.toArray 0)) (vs := vs) (out := (arrOf st').map (·.2)) (n := 0) hoL
  refine h h1 _ d tk n _ ((arrOf st').toList.map (fun p => strOf p.1)) ?_ ?_ ?_ hn hk fun b o e => ?_
  · have e : ((arrOf st').map (·.2)).toList = (arrOf st').toList.map (·.1) := by
      rw [Array.toList_map]; exact List.map_congr_left fun p hp' => (hmem p hp').1.symm
    rw [e]
    have h1 := strsAre_map ((arrOf st').toList.map (·.1)) (by
      intro v hv
      obtain ⟨p, hp', rfl⟩ := List.mem_map.mp hv
      exact hst _ (hmem p hp').2)
    rwa [List.map_map] at h1
  · have h2 := hl.map (fun p => strOf p.1)
    have e2 : (vs.zip vs).map (fun p => strOf p.1) = vs.map strOf := by
      have : (vs.zip vs).map (fun p => strOf p.1) = ((vs.zip vs).map Prod.fst).map strOf := by rw [List.map_map]; rfl
      rw [this, List.map_fst_zip (Nat.le_refl _)]
    rw [e2] at h2
    exact h2.trans hps
  · rw [List.pairwise_iff_getElem]
    intro i j hi hj hij
    have hi' : i < (arrOf st').size := by simpa using hi
    have hj' : j < (arrOf st').size := by simpa using hj
    have h1 := a2 i j (Nat.le_of_lt hij) (by rw [← a1.size_eq]; exact hj')
    obtain ⟨x, t, ex⟩ := hst _ (hmem (arrOf st')[i] (by simp)).2
    obtain ⟨y, u, ey⟩ := hst _ (hmem (arrOf st')[j] (by simp)).2
    rw [KK_str hi' (x := x) (t := t) (q := (arrOf st')[i].2) (Prod.ext ex rfl), KK_str hj' (x := y) (t := u) (q := (arrOf st')[j].2) (Prod.ext ey rfl)] at h1
    change decide (y.cps.toList < x.cps.toList) = false at h1
    simp only [List.getElem_map, Array.getElem_toList]
    rw [show strOf (arrOf st')[i].1 = x by rw [ex]; rfl, show strOf (arrOf st')[j].1 = y by rw [ey]; rfl, ltCps_eq]
    exact h1
  · have hlt : b < h1.objs.size := Heap.lt_size e
    rw [sortedHeap_old (Nat.ne_of_lt hlt) (by rw [Heap.size_push]; exact Nat.lt_succ_of_lt hlt), Heap.get?_push_ne _ _ _ (Nat.ne_of_lt hlt)]
    exact e
end
end NwS

set_option Elab.async false
set_option linter.all false
set_option maxRecDepth 100000
set_option maxHeartbeats 4000000
namespace L2
open PySem PySem.Spec PyProof.Rows
/-- a text stands not behind another -/
def leS (a b : Str) : Prop := ltCps b.cps.toList a.cps.toList = false
/-- the texts of a list, each once, rising -/
structure IsNorm (ts out : List Str) : Prop where
  nd : out.Nodup
  le : out.Pairwise leS
  mem : ∀ x, x ∈ out ↔ x ∈ ts
  len : out.length ≤ ts.length
theorem leS_anti {a b : Str} (h1 : leS a b) (h2 : leS b a) : a = b := by
  unfold leS at h1 h2
  have e : a.cps.toList = b.cps.toList := strKind.total _ _ (by rw [ltCps_eq] at h2; exact h2) (by rw [ltCps_eq] at h1; exact h1)
  cases a; cases b
  exact congrArg Str.mk (Array.toList_inj.mp e)
theorem IsNorm.uniq {ts ts' a b : List Str} (h : IsNorm ts a) (h' : IsNorm ts' b) (e : ∀ x, x ∈ ts ↔ x ∈ ts') : a = b :=
  List.Perm.eq_of_pairwise (fun _ _ _ _ h1 h2 => leS_anti h1 h2) h.le h'.le ((List.perm_ext_iff_of_nodup h.nd h'.nd).mpr fun x => ((h.mem x).trans (e x)).trans (h'.mem x).symm)
theorem IsNorm.nil : IsNorm [] [] := ⟨.nil, .nil, fun _ => Iff.rfl, Nat.le_refl _⟩
theorem IsNorm.one (x : Str) : IsNorm [x] [x] := ⟨by simp, by simp, fun _ => Iff.rfl, Nat.le_refl _⟩
theorem IsNorm.cat {a b oa ob out : List Str} (h1 : IsNorm a oa) (h2 : IsNorm b ob) (h : IsNorm (oa ++ ob) out) : IsNorm (a ++ b) out :=
  ⟨h.nd, h.le, fun x => (h.mem x).trans (by rw [List.mem_append, List.mem_append, h1.mem, h2.mem]), by have := h.len; have := h1.len; have := h2.len; rw [List.length_append] at *; omega⟩

section
variable {X : Cx}
def SetO (X : Cx) (a : Addr) (ss : List Str) : HO := HO.ext fun h => ∃ es ep t, NwS.SetT X.prog X.w h a ss es ep t
theorem strs_of_vals : ∀ {ts : List Str} {its : List Value}, Vals (ts.map V.str) its → StrsAre its ts
  | [], its, h => by
    rw [List.map_nil] at h
    rw [h.nil_iff.mpr rfl]; exact .nil
  | b :: bs, its, h => by
    rw [List.map_cons] at h
    cases h with
    | cons r1 r2 =>
      obtain ⟨t, e⟩ := r1
      rw [e]
      exact .cons _ _ (strs_of_vals r2)
theorem strs_vals : ∀ {ts : List Str} {its : List Value}, StrsAre its ts → Vals (ts.map V.str) its
  | _, _, .nil => .nil
  | _, _, .cons x t h => .cons ⟨t, rfl⟩ (strs_vals h)
def metS (ts : List Str) : List Str := NwS.metT (fun i => ts.getD i ⟨#[]⟩) ts.length
theorem metS_mem (ts : List Str) (x : Str) : x ∈ metS ts ↔ x ∈ ts := by
  unfold metS
  rw [NwS.metT_mem, List.mem_iff_getElem?]
  constructor
  · rintro ⟨j, h1, h2⟩
    refine ⟨j, ?_⟩
    rw [List.getD_eq_getElem?_getD, List.getElem?_eq_getElem h1] at h2
    rw [List.getElem?_eq_getElem h1, ← h2]; rfl
  · rintro ⟨j, h⟩
    have hj : j < ts.length := by
      rcases Nat.lt_or_ge j ts.length with h' | h'
      · exact h'
      · rw [List.getElem?_eq_none h'] at h; cases h
    exact ⟨j, hj, by rw [List.getD_eq_getElem?_getD, h]; rfl⟩
theorem metS_nodup (ts : List Str) : (metS ts).Nodup := NwS.metT_nodup _ _
theorem metS_length (ts : List Str) : (metS ts).length ≤ ts.length := NwS.metT_length _ _
theorem IsNorm.of_met {ts out : List Str} (h : IsNorm (metS ts) out) : IsNorm ts out := ⟨h.nd, h.le, fun x => (h.mem x).trans (metS_mem ts x), Nat.le_trans h.len (metS_length ts)⟩
/-- set(xs), xs a list of texts -/
theorem call_setS (hc : X.calm = true) : CallR X (.type "set") (fun xs H Q => ∃ (p : Addr) (ts : List Str), xs = [.ref p] ∧ SqL X.K H p (ts.map V.str) ∧ ts.length + 1 < scanBound ∧ ∀ l, H l = none → Q (.ref l) (upd H l (SetO X l (metS ts)))) := by
  intro pins s σ H xs us Q I r h
  obtain ⟨p, ts, rfl, hx, hb, q⟩ := h
  obtain ⟨u, rfl, ru⟩ := vals1 r
  cases ru
  obtain ⟨its, rv, ht, hz⟩ := I.list hx
  have hlen : its.length = ts.length := by have := rv.length; rw [List.length_map] at this; exact this.symm
  refine NwS.call_set_strs (I.ok.hd hc) ht.isList (xs := ts) (by simpa using strs_of_vals rv) (by simp only [List.size_toArray]; omega) fun h' tk hS hk => ?_
  have e : its.toArray.size = ts.length := by rw [List.size_toArray, hlen]
  rw [e] at hS
  refine ⟨.ref s.heap.objs.size, _, I.laid (fun b o e => hk b o (Heap.lt_size e) e) (Nat.le_refl _) (show ObjOk X.prog X.w _ h' _ (SetO X s.heap.objs.size (metS ts)) from ?_), rfl, q _ (I.hok.fresh (Nat.le_refl _))⟩
  refine ⟨hS, ?_, fun h1 h2 p k => ?_⟩
  · obtain ⟨es, ep, t, hS⟩ := hS; exact ⟨_, hS.obj⟩
  · obtain ⟨es, ep, t, p⟩ := p; exact ⟨es, ep, t, { p with obj := k _ p.obj }⟩
/-- sorted(a), a a set of texts -/
theorem call_sortedS (hc : X.calm = true) : CallR X (.builtin "sorted") (fun xs H Q => ∃ (p : Addr) (ss : List Str), xs = [.ref p] ∧ H p = some (SetO X p ss) ∧ ss.Nodup ∧ ss.length < 64 ∧ ∀ l out, H l = none → IsNorm ss out → Q (.ref l) (upd H l (.lst (out.map V.str)))) := by
  intro pins s σ H xs us Q I r h
  obtain ⟨p, ss, rfl, hx, hnd, hb, q⟩ := h
  obtain ⟨u, rfl, ru⟩ := vals1 r
  cases ru
  obtain ⟨⟨es, ep, t, hS⟩, _, _⟩ := I.hok p _ hx
  refine NwS.sorted_set (I.ok.hd hc) hS hb fun h1 h' d tk n out ss' a1 a2 a3 a4 a5 a6 => ?_
  have I1 : Inv X pins σ H { s with heap := h1, toks := tk } := I.kept a5
  have I2 : Inv X pins σ (upd H h1.objs.size (.lst (ss'.map V.str))) { s with heap := h', toks := tk } :=
    I1.laid (t' := tk) a6 (Nat.le_refl _) (show ObjOk X.prog X.w _ _ _ (.lst (ss'.map V.str)) from ⟨by rw [List.length_map, a2.length_eq]; rw [sizeLine_eq]; omega, out.toList, n, strs_vals a1, a4⟩)
  have I3 : Inv X pins σ (upd H h1.objs.size (.lst (ss'.map V.str))) { s with heap := h', drawn := d, toks := tk } :=
    ⟨I2.ok, I2.os, I2.bare, I2.base, I2.loc, I2.cell, I2.free, I2.freeC, I2.pin, I2.hok, I2.len⟩
  exact ⟨.ref h1.objs.size, _, I3, rfl, q _ _ (I1.hok.fresh (Nat.le_refl _)) ⟨a2.nodup_iff.mpr hnd, a3, fun x => a2.mem_iff, Nat.le_of_eq a2.length_eq⟩⟩
end
end L2

set_option Elab.async false
set_option linter.all false
set_option maxRecDepth 100000
set_option maxHeartbeats 4000000
namespace Nw
open PySem L2
def top (i : Nat) : Stmt := PySem.Challenge.pw_nearerwork_k05_names_and_texts.main.body.getD i (.Pass ⟨0, 0, 0, 0⟩)
abbrev sNumI : Stmt := inClass (top 6) 0
abbrev sNumS : Stmt := inClass (top 6) 2
abbrev sNamI : Stmt := inClass (top 7) 0
abbrev sNamS : Stmt := inClass (top 7) 3
abbrev sNamN : Stmt := inClass (top 7) 2
abbrev sTwoI : Stmt := inClass (top 8) 0
abbrev sTwoN : Stmt := inClass (top 8) 1
abbrev sPluS : Stmt := inClass (top 9) 1
abbrev sMinS : Stmt := inClass (top 10) 1
abbrev sTimS : Stmt := inClass (top 11) 1
abbrev sSumN : Stmt := inClass (top 5) 1
abbrev sTwoO : Stmt := top 4
abbrev sCmp : Stmt := top 13
abbrev sSayS : Stmt := inClass (top 16) 2
abbrev sSayN : Stmt := inClass (top 16) 1
abbrev sPaiI : Stmt := inClass (top 17) 0
abbrev sPaiN : Stmt := inClass (top 17) 1
abbrev sLesS : Stmt := inClass (top 18) 1
abbrev sAtmS : Stmt := inClass (top 19) 1
abbrev sEquS : Stmt := inClass (top 20) 1
abbrev sUnlS : Stmt := inClass (top 21) 1
abbrev sBotS : Stmt := inClass (top 22) 1
abbrev sEitS : Stmt := inClass (top 23) 1
abbrev sNotI : Stmt := inClass (top 24) 0
abbrev sNotS : Stmt := inClass (top 24) 3
abbrev sNotN : Stmt := inClass (top 24) 2
abbrev sCell : Stmt := top 26
abbrev sMix : Stmt := top 27
abbrev sOwn : Stmt := top 28
abbrev sPool : Stmt := top 29
abbrev sLeaf : Stmt := top 30
abbrev sSum : Stmt := top 31
abbrev sText : Stmt := top 32
abbrev sSaying : Stmt := top 33
abbrev sTxy : Stmt := top 34
abbrev sHand : Stmt := top 35
abbrev sTold : Stmt := top 36
abbrev sNm : Stmt := top 37
abbrev sRight : Stmt := top 38
abbrev sLaw : Stmt := top 39
abbrev sBra : Stmt := top 2
abbrev sBrs : Stmt := top 14
structure Bl (mg : Str → Option Value) : Prop where
  len : mg "len" = none
  range : mg "range" = none
  isinstance : mg "isinstance" = none
  str : mg "str" = none
  list : mg "list" = none
  tuple : mg "tuple" = none
  sorted : mg "sorted" = none
  set : mg "set" = none
/-! ### small facts -/
theorem hu60 {A : Around} {k : Nat} (hr : Room k A) : A.units + 60 < cLine := by have := hr.un; omega
theorem same_new {H : Hp} {p : Addr} (h : H p = none) (o : HO) : Same H (upd H p o) := fun b u q => by rw [upd_ne (ne_of_none q h)]; exact q
def cps (l : List Nat) : Str := ⟨l.toArray⟩
theorem cps_length (l : List Nat) : (cps l).length = l.length := by show l.toArray.size = l.length; simp
theorem str_len (x y : Str) : (x ++ y).length = x.length + y.length := by
  show (x.cps ++ y.cps).size = x.cps.size + y.cps.size
  simp
theorem alpha : ("abcdefghijklmnopqrstuvwxyz" : Str) = cps ((List.range 26).map (97 + ·)) := by decide +kernel
theorem letter_at {i : Int} (h0 : 0 ≤ i) (h1 : i < 26) : atI (("abcdefghijklmnopqrstuvwxyz" : Str).cps.toList) i = some (97 + i.toNat) := by
  rw [alpha]
  obtain ⟨k, rfl⟩ : ∃ k : Nat, i = k := ⟨i.toNat, by omega⟩
  refine atI_nat ?_
  show (((List.range 26).map (97 + ·)).toArray.toList)[k]? = _
  have hi : k < 26 := by omega
  simp [hi]
theorem letter_ix : ∀ i : _root_.Fin 26, Builtin.Str.occurrences ("abcdefghijklmnopqrstuvwxyz" : Str) ⟨#[97 + i.val]⟩ 0 ("abcdefghijklmnopqrstuvwxyz" : Str).length 1 = [i.val] := by decide +kernel
theorem join_signs : ∀ cs : List Nat, Str.join ⟨#[]⟩ (cs.map fun c => (⟨#[c]⟩ : Str)) = cps cs
  | [] => rfl
  | c :: cs => by
    rw [List.map_cons, PyProof.Rows.join_nil_cons, join_signs cs]
    show (⟨#[c] ++ cs.toArray⟩ : Str) = ⟨(c :: cs).toArray⟩
    simp
theorem join_eq (sep : Str) (l : List Str) : Txt.join sep l = Str.join sep l := eq_of_beq (PyProof.Rows.join_plain_closes sep l)
section
variable {P : Program} {w : World} {K : PySem.W.Frag} {mg : Str → Option Value} {base : Heap}
/-! ### a cell: some int -/
def spCell (K : PySem.W.Frag) : Sp := fun vs H Q _ => ∃ (a : Addr) (ns : List Int) (k : Int), vs = [.ref a, .int k] ∧ SqL K H a (ns.map V.int) ∧ ns.length ≤ 63 ∧ 0 ≤ k ∧ k ≤ 100 ∧ ∀ (r : Int) (H' : Hp), Same H H' → Q (.int r) H'
theorem scCell : FnScope ["_law_script", "_law_k"] ["_law_script", "_law_k"] (defScope sCell) := ⟨rfl, rfl, rfl, by decide +kernel, rfl, by decide +kernel, by decide +kernel⟩
theorem ok_cell {f : Addr} {fd : FuncData} (B : Bl mg) (F : Fun K "_law_cell_at" "_law_cell_at" sCell f fd) : FnOk P w K mg base CX0 1 f fd ["_law_script", "_law_k"] (spCell K) := by
  refine F.ok scCell (fun vs H Q E h => ?_) (fun cdv A outer s H vs Q E hr h => ?_)
  · obtain ⟨a, ns, k, rfl, _⟩ := h
    rfl
  obtain ⟨a, ns, k, rfl, hS, hl, k0, k1, q⟩ := h
  refine ⟨_, (@pss_cons _ _ _ _ _ (@ps_if _ _ _ _ _ _ _ _ (@pt_cmpR _ _ _ _ _ _ _ _ op_lt (pv 1) (pe_callB call_len_seq (by rfl) B.len PySem.boot_len (@pa_cons _ _ _ _ _ (pv 0) pa_nil (by rfl))) (nomark _)) (@pss_one _ _ _ (@ps_ret _ _ _ _ (@pe_ix _ _ _ _ _ _ (rIxL K) ix_list (pv 0) (pv 1) (fun _ _ => rfl)))) pss_nil) (@pss_one _ _ _ (@ps_ret _ _ _ _ (@pe_op _ _ _ _ _ _ _ _ op_mod (@pe_op _ _ _ _ _ _ _ _ op_mul (@pe_op _ _ _ _ _ _ _ _ op_add (@pe_op _ _ _ _ _ _ _ _ op_mod (@pe_ix _ _ _ _ _ _ (rIxL K) ix_list (@pe_op _ _ _ _ _ _ _ _ op_catL (pv 0) (@pe_lst _ _ _ _ (@pa_cons _ _ _ _ _ pe_int pa_nil (by rfl)))) pe_int (fun _ _ => rfl)) pe_int) pe_int) (@pe_op _ _ _ _ _ _ _ _ op_add (@pe_op _ _ _ _ _ _ _ _ op_mul (pv 1) (pv 1)) pe_int)) pe_int)))), ?_⟩
  refine ⟨_, rfl, _, rfl, a, _, rfl, .inl hS, _, _, rfl, rfl, _, rfl, ?_⟩
  refine ite2 (fun c => ?_) (fun c => ?_)
  · have c' : k < (((ns.map V.int).length : Nat) : Int) := of_decide_eq_true c
    rw [List.length_map] at c'
    obtain ⟨j, rfl⟩ : ∃ j : Nat, k = j := ⟨k.toNat, by omega⟩
    have hj : j < ns.length := by omega
    exact ⟨_, rfl, _, rfl, a, _, _, _, rfl, rfl, hS, atI_nat (by rw [List.getElem?_map, List.getElem?_eq_getElem hj]; rfl), q _ H (Same.refl H)⟩
  · refine ⟨_, rfl, by decide, fun p hp => ⟨a, p, _, _, rfl, rfl, (same_new hp _).seq hS, SqL.of upd_same, ?_, fun z hz => ?_⟩⟩
    · rw [List.length_map]
      exact Nat.le_of_lt (small1000 (by show ns.length + 1 ≤ 1000; omega))
    have hat : ∃ x : Int, atI (ns.map V.int ++ [V.int 0]) 0 = some (.int x) := by
      cases ns with
      | nil => exact ⟨0, atI_nat (j := 0) rfl⟩
      | cons n r => exact ⟨n, atI_nat (j := 0) rfl⟩
    obtain ⟨x, hx⟩ := hat
    have b1 := Int.emod_nonneg x (b := 1000003) (by decide)
    have b2 := Int.emod_lt_of_pos x (b := 1000003) (by decide)
    have kk : 0 ≤ k * k ∧ k * k ≤ 10000 := ⟨Int.mul_nonneg k0 k0, by
      calc k * k ≤ 100 * k := Int.mul_le_mul_of_nonneg_right k1 k0
        _ ≤ 100 * 100 := Int.mul_le_mul_of_nonneg_left k1 (by decide)
        _ ≤ 10000 := by decide⟩
    refine ⟨z, _, _, _, rfl, rfl, SqL.of upd_same, hx, _, _, rfl, rfl, (by show (0 : Int) < 1000003; decide), _, _, rfl, rfl, _, rfl, _, rfl, _, _, rfl, rfl, .inl ⟨by omega, by omega⟩, _, _, rfl, rfl, _, _, rfl, rfl, .inl ⟨?_, ?_⟩, _, _, rfl, rfl, (by show (0 : Int) < 2147483647; decide), ?_⟩
    · show -(2 ^ 64) < x % 1000003 + 7; omega
    · show x % 1000003 + 7 < 2 ^ 64; omega
    exact q _ _ ((same_new hp _).trans (same_new hz _))
/-! ### a mixed cell: 0 or more -/
def spMix : Sp := fun vs H Q _ => ∃ (c k : Int), vs = [.int c, .int k] ∧ 0 ≤ k ∧ k ≤ 100 ∧ ∀ r : Int, 0 ≤ r → r < 2147483647 → Q (.int r) H
theorem scMix : FnScope ["_law_cell", "_law_k", "_law_number", "_law_j"] ["_law_cell", "_law_k"] (defScope sMix) := ⟨rfl, rfl, rfl, by decide +kernel, rfl, by decide +kernel, by decide +kernel⟩
theorem ok_mix {f : Addr} {fd : FuncData} (B : Bl mg) (F : Fun K "_law_mix" "_law_mix" sMix f fd) : FnOk P w K mg base CX0 1 f fd ["_law_cell", "_law_k"] spMix := by
  refine F.ok scMix (fun vs H Q E h => ?_) (fun cdv A outer s H vs Q E hr h => ?_)
  · obtain ⟨c, k, rfl, _⟩ := h
    rfl
  obtain ⟨c, k, rfl, k0, k1, q⟩ := h
  refine ⟨_, (@pss_cons _ _ _ _ _ (@ps_if _ _ _ _ _ _ _ _ (@pt_cmpR _ _ _ _ _ _ _ _ op_eq (@pe_op _ _ _ _ _ _ _ _ op_mod (pv 0) pe_int) pe_int (nomark _)) (@pss_cons _ _ _ _ _ (@ps_set _ _ 2 _ _ _ _ scMix.nd rfl (Or.inl rfl) (@pe_op _ _ _ _ _ _ _ _ op_fdiv (pv 0) pe_int) rfl (Or.inl rfl)) (@pss_cons _ _ _ _ _ (@ps_for _ _ _ _ _ _ _ _ PassesOwn.never rfl (pi_range1 rfl B.range (@pa_cons _ _ _ _ _ (pv 1) pa_nil (by rfl))) (pg_name (i := 3) scMix.nd rfl (Or.inl rfl)) (@pss_one _ _ _ (@ps_set _ _ 2 _ _ _ _ scMix.nd rfl (Or.inl rfl) (@pe_op _ _ _ _ _ _ _ _ op_fdiv (pv 2) pe_int) rfl (Or.inl rfl))) (by intro _; rfl)) (@pss_one _ _ _ (@ps_ret _ _ _ _ (@pe_op _ _ _ _ _ _ _ _ op_mod (pv 2) pe_int))))) pss_nil) (@pss_cons _ _ _ _ _ (@ps_set _ _ 2 _ _ _ _ scMix.nd rfl (Or.inl rfl) (@pe_op _ _ _ _ _ _ _ _ op_mod (@pe_op _ _ _ _ _ _ _ _ op_mul (@pe_op _ _ _ _ _ _ _ _ op_add (@pe_op _ _ _ _ _ _ _ _ op_add (@pe_op _ _ _ _ _ _ _ _ op_mod (pv 0) pe_int) (@pe_op _ _ _ _ _ _ _ _ op_mul pe_int (pv 1))) pe_int) pe_int) pe_int) rfl (Or.inl rfl)) (@pss_one _ _ _ (@ps_ret _ _ _ _ (@pe_op _ _ _ _ _ _ _ _ op_mod (@pe_op _ _ _ _ _ _ _ _ op_mul (@pe_op _ _ _ _ _ _ _ _ op_add (@pe_op _ _ _ _ _ _ _ _ op_mod (@pe_op _ _ _ _ _ _ _ _ op_mul (pv 2) (pv 2)) pe_int) (@pe_op _ _ _ _ _ _ _ _ op_mul pe_int (pv 1))) pe_int) pe_int))))), ?_⟩
  refine ⟨_, rfl, _, _, rfl, rfl, (by show (0 : Int) < 2; decide), rfl, _, rfl, ite2 (fun _ => ?_) (fun _ => ?_)⟩
  · refine ⟨_, rfl, _, _, rfl, rfl, ⟨by decide, by decide⟩, ?_⟩
    refine ⟨_, rfl, k, rfl, by omega, by omega, for_range (n := k.toNat) (fun i σ H2 => ∃ (n : Int) (v : Option V), σ = [some (.int c), some (.int k), some (.int n), v] ∧ H2 = H) ⟨_, _, rfl, rfl⟩ ?_ ?_⟩
    · rintro i σ H2 hi ⟨n, v, rfl, rfl⟩
      exact ⟨_, rfl, _, _, rfl, rfl, ⟨by decide, by decide⟩, _, _, rfl, rfl⟩
    · rintro σ H2 ⟨n, v, rfl, rfl⟩
      refine ⟨_, rfl, _, _, rfl, rfl, (by show (0 : Int) < 1009; decide), q _ (Int.emod_nonneg _ (by decide)) (Int.lt_trans (Int.emod_lt_of_pos _ (by decide)) (by decide))⟩
  · have b1 := Int.emod_nonneg c (b := 1000000007) (by decide)
    have b2 := Int.emod_lt_of_pos c (b := 1000000007) (by decide)
    refine ⟨_, rfl, _, _, rfl, rfl, (by show (0 : Int) < 1000000007; decide), _, rfl, _, _, rfl, rfl, .inl ⟨by decide, by decide⟩, _, _, rfl, rfl, _, _, rfl, rfl, _, _, rfl, rfl, .inl ⟨?_, ?_⟩, _, _, rfl, rfl, (by show (0 : Int) < 2147483647; decide), ?_⟩
    · show -(2 ^ 64) < c % 1000000007 + 11 * k + 5; omega
    · show c % 1000000007 + 11 * k + 5 < 2 ^ 64; omega
    have f0 : ∀ x : Int, 0 ≤ x % 2147483647 ∧ x % 2147483647 < 2147483647 := fun x => ⟨Int.emod_nonneg _ (by decide), Int.emod_lt_of_pos _ (by decide)⟩
    have f1 : ∀ x : Int, 0 ≤ x % 2147483629 ∧ x % 2147483629 < 2147483629 := fun x => ⟨Int.emod_nonneg _ (by decide), Int.emod_lt_of_pos _ (by decide)⟩
    refine ⟨_, rfl, _, rfl, _, _, rfl, rfl, .inl ⟨Int.lt_of_lt_of_le (by decide) (f0 _).1, Int.lt_trans (f0 _).2 (by decide)⟩, _, _, rfl, rfl, (by show (0 : Int) < 2147483629; decide), _, rfl, _, _, rfl, rfl, .inl ⟨by decide, by decide⟩, _, _, rfl, rfl, _, _, rfl, rfl, .inr ⟨by decide, by decide⟩, _, _, rfl, rfl, (by show (0 : Int) < 2147483587; decide), ?_⟩
    exact q _ (Int.emod_nonneg _ (by decide)) (Int.lt_trans (Int.emod_lt_of_pos _ (by decide)) (by decide))
/-! ### the own words -/
def ownW : List Str := ["name", "from", "to", "at", "keep", "deed", "when", "do", "any", "and", "or", "not", "yes", "tie", "step", "for", "none", "falls"]
def spOwn : Sp := fun vs H Q _ => vs = [] ∧ ∀ (p : Addr) (H' : Hp), Same H H' → H p = none → H' p = some (.lst (ownW.map V.str)) → Q (.ref p) H'
theorem scOwn : FnScope ["_law_own_here"] [] (defScope sOwn) := ⟨rfl, rfl, rfl, by decide +kernel, rfl, by decide +kernel, by decide +kernel⟩
theorem own_eq : ([V.str "name", V.str "from", V.str "to", V.str "at", V.str "keep", V.str "deed", V.str "when", V.str "do", V.str "any", V.str "and", V.str "or", V.str "not", V.str "yes", V.str "tie", V.str "step"] ++ [V.str "for", V.str "none", V.str "falls"]) = ownW.map V.str := by
  simp only [ownW, List.map_cons, List.map_nil, List.cons_append, List.nil_append]
theorem ok_own {f : Addr} {fd : FuncData} (F : Fun K "_law_own" "_law_own" sOwn f fd) : FnOk P w K mg base CX0 1 f fd [] spOwn := by
  refine F.ok scOwn (fun vs H Q E h => ?_) (fun cdv A outer s H vs Q E hr h => ?_)
  · rw [h.1]
    rfl
  obtain ⟨rfl, k⟩ := h
  refine ⟨_, (@pss_cons _ _ _ _ _ (@ps_set _ _ 0 _ _ _ _ scOwn.nd rfl (Or.inl rfl) (@pe_lst _ _ _ _ (@pa_strs _ _ ["name", "from", "to", "at", "keep", "deed", "when", "do", "any", "and", "or", "not", "yes", "tie", "step"] rfl)) rfl (Or.inl rfl)) (@pss_one _ _ _ (@ps_ret _ _ _ _ (@pe_op _ _ _ _ _ _ _ _ op_cat (pv 0) (@pe_lst _ _ _ _ (@pa_cons _ _ _ _ _ pe_str (@pa_cons _ _ _ _ _ pe_str (@pa_cons _ _ _ _ _ pe_str pa_nil (by rfl)) (by rfl)) (by rfl))))))), ?_⟩
  refine ⟨by decide, fun p1 hp1 => ⟨_, rfl, by decide, fun p2 hp2 => ⟨p1, p2, _, _, rfl, rfl, by rw [upd_ne (ne_of_none upd_same hp2), upd_same], upd_same, by decide, fun p3 hp3 => ?_⟩⟩⟩
  have s2 := (same_new hp1 _).trans (same_new hp2 (.lst [V.str "for", V.str "none", V.str "falls"]))
  exact k p3 _ (s2.trans (same_new hp3 _)) (s2.free hp3) (by rw [upd_same]; exact congrArg (fun l => some (HO.lst l)) own_eq)
end
end Nw

set_option Elab.async false
set_option linter.all false
set_option maxRecDepth 100000
set_option maxHeartbeats 4000000
namespace Nw
open PySem L2
section
variable {P : Program} {w : World} {K : PySem.W.Frag} {mg : Str → Option Value} {base : Heap}
theorem flat_strs : ∀ l : List Str, (l.map V.str).all flatV = true
  | [] => rfl
  | y :: l => by rw [List.map_cons, List.all_cons, flat_strs l]; rfl
theorem sum_ones : ∀ cs : List Nat, ((cs.map fun c => (⟨#[c]⟩ : Str)).map (·.length)).sum = cs.length
  | [] => rfl
  | c :: cs => by
    rw [List.map_cons, List.map_cons, List.sum_cons, sum_ones cs, List.length_cons]
    show 1 + cs.length = cs.length + 1
    omega
/-! ### the pool: three texts -/
def spPool : Sp := fun vs H Q _ => ∃ (c o : Int), vs = [.int c, .int o] ∧ ∀ (p : Addr) (H' : Hp) (l : List Str), Same H H' → H p = none → H' p = some (.lst (l.map V.str)) → l.length = 3 → (∀ x ∈ l, x.length ≤ 30) → Q (.ref p) H'
theorem scPool : FnScope ["_law_cell", "_law_other", "_law_letters", "_law_size", "_law_base", "_law_at", "_law_pool_here", "_law_k", "_law_turned", "_law_name"] ["_law_cell", "_law_other"] (defScope sPool) := ⟨rfl, rfl, rfl, by decide +kernel, rfl, by decide +kernel, by decide +kernel⟩
theorem nd_scPool1 : (["_law_cell", "_law_other", "_law_letters", "_law_size", "_law_base", "_law_at", "_law_pool_here", "_law_k", "_law_turned", "_law_name"] : List Str).Nodup := by decide +kernel
theorem ok_pool {f fM fO : Addr} {fd fdM fdO : FuncData} (B : Bl mg) (F : Fun K "_law_pool" "_law_pool" sPool f fd) (FM : Fun K "_law_mix" "_law_mix" sMix fM fdM) (bM : Binds K fdM ["_law_cell", "_law_k"] []) (mM : mg "_law_mix" = some (.ref fM))
    (FO : Fun K "_law_own" "_law_own" sOwn fO fdO) (bO : Binds K fdO [] []) (mO : mg "_law_own" = some (.ref fO)) : FnOk P w K mg base CX0 2 f fd ["_law_cell", "_law_other"] spPool := by
  have GM : FnOk P w K mg base CX0 1 fM fdM ["_law_cell", "_law_k"] spMix := ok_mix B FM
  have GO : FnOk P w K mg base CX0 1 fO fdO [] spOwn := ok_own FO
  refine F.ok scPool (fun vs H Q E h => ?_) (fun cdv A outer s H vs Q E hr h => ?_)
  · obtain ⟨c, o, rfl, _⟩ := h
    rfl
  obtain ⟨c, o, rfl, q⟩ := h
  refine ⟨_, (@pss_cons _ _ _ _ _ (@ps_set _ _ 2 _ _ _ _ scPool.nd rfl (Or.inr rfl) pe_str rfl (Or.inl rfl)) (@pss_cons _ _ _ _ _ (@ps_set _ _ 3 _ _ _ _ scPool.nd rfl (Or.inl rfl) (@pe_op _ _ _ _ _ _ _ _ op_add pe_int (@pe_op _ _ _ _ _ _ _ _ op_mod (pv 0) pe_int)) rfl (Or.inl rfl)) (@pss_cons _ _ _ _ _ (@ps_set _ _ 4 _ _ _ _ scPool.nd rfl (Or.inl rfl) (pe_bm (r := rJoin K) PySem.F.plainAttrs_str PySem.F.slot_str_join PySem.F.type_str_join mt_join pe_str (@pa_cons _ _ _ _ _ (pe_comp (NX := ["_law_cell", "_law_other", "_law_letters", "_law_size", "_law_base", "_law_at", "_law_pool_here", "_law_k", "_law_turned", "_law_name"]) (N := ["_law_cell", "_law_other", "_law_letters", "_law_size", "_law_base", "_law_at", "_law_pool_here", "_law_k", "_law_turned", "_law_name"]) (ms := [true, true, true, true, true, true, true, false, true, true]) (ks := [7]) (out := defScope sPool) (by exact ⟨rfl, by decide +kernel, by decide +kernel, by decide +kernel, by decide +kernel, by decide +kernel⟩) rfl rfl rfl (pi_range1 rfl B.range (@pa_cons _ _ _ _ _ (pv 3) pa_nil (by rfl))) (@sets_name 7) (by decide) (fun C ex s H => (pg_name (i := 7) nd_scPool1 rfl (Or.inl rfl))) (fun C ex s H => pts_nil) (fun C ex s H => (@pe_ix _ _ _ _ _ _ _ ix_str (pv 2) (@pe_op _ _ _ _ _ _ _ _ op_mod (pe_call GM hr (by rfl) mM FM.kp bM .nil pass0 (@pa_cons _ _ _ _ _ (pv 0) (@pa_cons _ _ _ _ _ (@pe_op _ _ _ _ _ _ _ _ op_add (pv 7) pe_int) pa_nil (by rfl)) (by rfl))) pe_int) (fun _ _ => rfl)))) pa_nil (by rfl))) rfl (Or.inl rfl)) (@pss_cons _ _ _ _ _ (@ps_set _ _ 5 _ _ _ _ scPool.nd rfl (Or.inl rfl) (@pe_op _ _ _ _ _ _ _ _ op_mod (pv 1) (pv 3)) rfl (Or.inl rfl)) (@pss_cons _ _ _ _ _ (@ps_set _ _ 6 _ _ _ _ scPool.nd rfl (Or.inl rfl) (@pe_lst _ _ _ _ pa_nil) rfl (Or.inl rfl)) (@pss_cons _ _ _ _ _ (@ps_for _ _ _ _ _ _ _ _ PassesOwn.never rfl (pi_range1 rfl B.range (@pa_cons _ _ _ _ _ pe_int pa_nil (by rfl))) (pg_name (i := 7) scPool.nd rfl (Or.inl rfl)) (@pss_cons _ _ _ _ _ (@ps_set _ _ 8 _ _ _ _ scPool.nd rfl (Or.inl rfl) (@pe_op _ _ _ _ _ _ _ _ op_mod (@pe_op _ _ _ _ _ _ _ _ op_add (pe_bm PySem.F.plainAttrs_str PySem.F.slot_str_index PySem.F.type_str_index mt_indexS (pv 2) (@pa_cons _ _ _ _ _ (@pe_ix _ _ _ _ _ _ _ ix_str (pv 4) (pv 5) (fun _ _ => rfl)) pa_nil (by rfl))) (@pe_op _ _ _ _ _ _ _ _ op_mul (pv 7) (@pe_op _ _ _ _ _ _ _ _ op_add pe_int (@pe_op _ _ _ _ _ _ _ _ op_mod (@pe_op _ _ _ _ _ _ _ _ op_fdiv (pv 1) pe_int) pe_int)))) pe_int) rfl (Or.inl rfl)) (@pss_cons _ _ _ _ _ (@ps_set _ _ 9 _ _ _ _ scPool.nd rfl (Or.inl rfl) (@pe_op _ _ _ _ _ _ _ _ op_add_str (@pe_op _ _ _ _ _ _ _ _ op_add_str (@pe_slice _ _ _ _ _ _ _ _ _ _ sl_str (pv 4) po_none (@po_some _ _ _ (pv 5))) (@pe_ix _ _ _ _ _ _ _ ix_str (pv 2) (pv 8) (fun _ _ => rfl))) (@pe_slice _ _ _ _ _ _ _ _ _ _ sl_str (pv 4) (@po_some _ _ _ (@pe_op _ _ _ _ _ _ _ _ op_add (pv 5) pe_int)) po_none)) rfl (Or.inl rfl)) (@pss_cons _ _ _ _ _ (@ps_cut _ _ _ (@ps_if _ _ _ _ _ _ _ _ (@pt_cmpR _ _ _ _ _ _ _ _ op_in_seq (pv 9) (pe_call0 GO hr (by rfl) mO FO.kp bO .nil pass0) (by with_unfolding_all rfl)) (@pss_one _ _ _ (@ps_set _ _ 9 _ _ _ _ scPool.nd rfl (Or.inl rfl) (@pe_op _ _ _ _ _ _ _ _ op_add_str (pv 9) pe_str) rfl (Or.inl rfl))) pss_nil)) (@pss_one _ _ _ (@ps_expr _ _ _ _ (pe_bm PySem.F.plainAttrs_list PySem.F.slot_list_append PySem.F.type_list_append mt_append (pv 6) (@pa_cons _ _ _ _ _ (pv 9) pa_nil (by rfl))) (by rfl)))))) (by intro _; rfl)) (@pss_one _ _ _ (@ps_ret _ _ _ _ (pv 6))))))))), ?_⟩
  have b1 := Int.emod_nonneg c (b := 8) (by decide)
  have b2 := Int.emod_lt_of_pos c (b := 8) (by decide)
  refine ⟨_, rfl, _, _, rfl, rfl, (by show (0 : Int) < 8; decide), _, _, rfl, rfl, ?_⟩
  refine ⟨rfl, _, rfl, 1 + c % 8, rfl, by omega, by omega, comp_range (n := (1 + c % 8).toNat) (fun i ys H' => ∃ cs : List Nat, ys = (cs.map fun c => (⟨#[c]⟩ : Str)).map V.str ∧ cs.length = i ∧ (∀ c ∈ cs, ∃ j : _root_.Fin 26, c = 97 + j.val) ∧ H' = H) ⟨[], rfl, rfl, by simp, rfl⟩ (fun i ys H' hi ⟨cs, e1, e2, _⟩ => by rw [e1, List.length_map, List.length_map, e2]; exact small1000 (by omega)) ?_ ?_⟩
  · rintro i ys H' hi ⟨cs, rfl, e2, e3, rfl⟩
    refine ⟨_, rfl, _, rfl, _, rfl, _, _, rfl, rfl, c, _, rfl, by omega, by omega, fun r r0 r1 => ?_⟩
    have d1 := Int.emod_nonneg r (b := 26) (by decide)
    have d2 := Int.emod_lt_of_pos r (b := 26) (by decide)
    refine ⟨_, _, rfl, rfl, (by show (0 : Int) < 26; decide), _, _, _, rfl, rfl, by decide, letter_at d1 d2, ?_⟩
    refine ⟨cs ++ [97 + (r % 26).toNat], by rw [List.map_append, List.map_append]; rfl, by rw [List.length_append, e2]; rfl, fun x hx => ?_, rfl⟩
    rcases List.mem_append.mp hx with z | z
    · exact e3 x z
    · rw [List.mem_singleton.mp z]
      exact ⟨⟨(r % 26).toNat, by omega⟩, rfl⟩
  · rintro ys H' ⟨cs, rfl, e2, e3, rfl⟩ D hD
    refine ⟨_, D, cs.map fun c => (⟨#[c]⟩ : Str), rfl, rfl, SqL.of upd_same, ?_, ?_⟩
    · rw [sum_ones, List.length_map]
      show cs.length + cs.length * 0 ≤ 16777216
      omega
    rw [join_eq, show ("" : Str) = ⟨#[]⟩ from rfl, join_signs]
    have s1 := same_new hD (.lst ((cs.map fun c => (⟨#[c]⟩ : Str)).map V.str))
    have a1 := Int.emod_nonneg o (b := 1 + c % 8) (by omega)
    have a2 := Int.emod_lt_of_pos o (b := 1 + c % 8) (by omega)
    have hcs : (o % (1 + c % 8)).toNat < cs.length := by omega
    have lcs : cs.length ≤ 8 := by omega
    have lb : (cps cs).length ≤ sizeLine := by rw [cps_length]; exact Nat.le_of_lt (small1000 (by omega))
    obtain ⟨j, hj⟩ := e3 _ (List.getElem_mem hcs)
    have hat : atI (cps cs).cps.toList (o % (1 + c % 8)) = some (97 + j.val) := by
      have ea : o % (1 + c % 8) = (((o % (1 + c % 8)).toNat : Nat) : Int) := by omega
      rw [ea]
      refine atI_nat ?_
      show cs.toArray.toList[_]? = _
      rw [List.toList_toArray, List.getElem?_eq_getElem hcs, hj]
    refine ⟨_, rfl, _, rfl, _, _, rfl, rfl, (by show (0 : Int) < 1 + c % 8; omega), ?_⟩
    refine ⟨by decide, fun pl hpl => ?_⟩
    have s2 := s1.trans (same_new hpl (.lst []))
    have npl : H' pl = none := s1.free hpl
    refine ⟨3, rfl, by decide, by decide, for_range (n := 3) (fun i σ H2 => ∃ (v1 v2 v3 : Option V) (l : List Str), σ = [some (.int c), some (.int o), some (.str "abcdefghijklmnopqrstuvwxyz"), some (.int (1 + c % 8)), some (.str (cps cs)), some (.int (o % (1 + c % 8))), some (.ref pl), v1, v2, v3] ∧ l.length = i ∧ (∀ x ∈ l, x.length ≤ 30) ∧ Same H' H2 ∧ H2 pl = some (.lst (l.map V.str))) ⟨none, none, none, [], rfl, rfl, by simp, s2, upd_same⟩ ?_ ?_⟩
    · rintro i σ H2 hi ⟨v1, v2, v3, l, rfl, f1, f2, f3, f4⟩
      refine ⟨_, rfl, rfl, _, rfl, _, rfl, _, _, _, rfl, rfl, lb, hat, _, _, _, _, rfl, rfl, letter_ix j, ?_⟩
      have d1 := Int.emod_nonneg (o / 8) (b := 8) (by decide)
      have d2 := Int.emod_lt_of_pos (o / 8) (b := 8) (by decide)
      refine ⟨_, rfl, _, rfl, _, _, rfl, rfl, ⟨by decide, by decide⟩, _, _, rfl, rfl, (by show (0 : Int) < 8; decide), _, _, rfl, rfl, _, _, rfl, rfl, .inl ⟨by omega, by omega⟩, _, _, rfl, rfl, _, _, rfl, rfl, (by show (0 : Int) < 26; decide), ?_⟩
      have f26 : ∀ x : Int, 0 ≤ x % 26 ∧ x % 26 < 26 := fun x => ⟨Int.emod_nonneg _ (by decide), Int.emod_lt_of_pos _ (by decide)⟩
      have l1 := Txt.slice_le (cps cs) none (some (o % (1 + c % 8)))
      have l2 := Txt.slice_le (cps cs) (some (o % (1 + c % 8) + 1)) none
      rw [cps_length] at l1 l2
      refine ⟨_, rfl, _, rfl, _, rfl, _, rfl, lb, _, rfl, _, rfl, _, _, _, rfl, rfl, by decide, letter_at (f26 _).1 (f26 _).2, _, _, rfl, rfl, ?_, ?_⟩
      · exact Nat.le_of_lt (small1000 (by show _ + 1 ≤ 1000; omega))
      refine ⟨_, rfl, _, rfl, _, _, rfl, rfl, _, rfl, _, rfl, lb, _, _, rfl, rfl, ?_, ?_⟩
      · rw [str_len]
        exact Nat.le_of_lt (small1000 (by show _ + 1 + _ ≤ 1000; omega))
      refine ⟨fun σ' H3 => ∃ (v1 v2 : Option V) (nm : Str), σ' = [some (.int c), some (.int o), some (.str "abcdefghijklmnopqrstuvwxyz"), some (.int (1 + c % 8)), some (.str (cps cs)), some (.int (o % (1 + c % 8))), some (.ref pl), v1, v2, some (.str nm)] ∧ nm.length ≤ 30 ∧ Same H' H3 ∧ H3 pl = some (.lst (l.map V.str)), ?_, ?_⟩
      · refine ⟨_, rfl, rfl, fun po Ho so no eo => ⟨po, _, rfl, .inl (SqL.of eo), rfl, flat_strs _, _, rfl, ite2 (fun _ => ?_) (fun _ => ?_)⟩⟩
        · refine ⟨_, rfl, _, _, rfl, rfl, ?_, ?_⟩
          · rw [str_len, str_len]
            exact Nat.le_of_lt (small1000 (by show _ + 1 + _ + 1 ≤ 1000; omega))
          · refine ⟨_, _, _, rfl, ?_, f3.trans so, so _ _ f4⟩
            rw [str_len, str_len, str_len]
            show _ + 1 + _ + 1 ≤ 30
            omega
        · refine ⟨_, _, _, rfl, ?_, f3.trans so, so _ _ f4⟩
          rw [str_len, str_len]
          show _ + 1 + _ ≤ 30
          omega
      · rintro σ' H3 ⟨v1, v2, nm, rfl, g1, g2, g3⟩
        refine ⟨_, rfl, .inl ⟨rfl, _, SqL.of g3⟩, _, rfl, pl, _, _, rfl, rfl, g3, by rw [List.length_map]; exact small1000 (by omega), ?_⟩
        refine ⟨_, _, _, l ++ [nm], rfl, by rw [List.length_append, f1]; rfl, fun x hx => ?_, fun b u e => ?_, by rw [upd_same, List.map_append]; rfl⟩
        · rcases List.mem_append.mp hx with z | z
          · exact f2 x z
          · rw [List.mem_singleton.mp z]; exact g1
        · rw [upd_ne (ne_of_none e npl)]
          exact g2 b u e
    · rintro σ H2 ⟨v1, v2, v3, l, rfl, f1, f2, f3, f4⟩
      exact ⟨_, rfl, q pl H2 l f3 npl f4 f1 f2⟩
end
end Nw

set_option Elab.async false
set_option linter.all false
set_option maxRecDepth 100000
set_option maxHeartbeats 4000000
namespace Nw
open PySem L2
/-! ### trees -/
inductive Sg where
  | plus | minus | times
inductive Tr where
  | num (n : Int) | nam (x : Str) | op (s : Sg) (l r : Tr)
def sgS : Sg → Str
  | .plus => "+"
  | .minus => "-"
  | .times => "*"
def trD : Tr → Dt
  | .num n => .tup [.str "number", .int n]
  | .nam x => .tup [.str "name", .str x]
  | .op s l r => .tup [.str (sgS s), trD l, trD r]
def lv : Tr → Nat
  | .num _ => 1
  | .nam _ => 1
  | .op _ l r => lv l + lv r
def dp : Tr → Nat
  | .num _ => 0
  | .nam _ => 0
  | .op _ l r => max (dp l) (dp r) + 1
theorem lv_pos : ∀ t : Tr, 0 < lv t
  | .num _ => Nat.one_pos
  | .nam _ => Nat.one_pos
  | .op _ l r => Nat.add_pos_left (lv_pos l) _
theorem dp_lt : ∀ t : Tr, dp t < lv t
  | .num _ => Nat.one_pos
  | .nam _ => Nat.one_pos
  | .op _ l r => by
    have h1 := dp_lt l
    have h2 := dp_lt r
    show max (dp l) (dp r) + 1 < lv l + lv r
    omega
def Fits (l : List Str) : Tr → Prop
  | .num n => 0 ≤ n ∧ n ≤ 99
  | .nam x => ∃ y ∈ l, x = ("" : Str) ++ y ∨ x = ("@" : Str) ++ y
  | .op _ a b => Fits l a ∧ Fits l b
def Sb (d : Addr) (H H' : Hp) : Prop := ∀ b o, b ≠ d → H b = some o → H' b = some o
theorem Sb.trans {d : Addr} {H H1 H2 : Hp} (a : Sb d H H1) (b : Sb d H1 H2) : Sb d H H2 := fun c o hc e => b c o hc (a c o hc e)
theorem Sb.of {d : Addr} {H H' : Hp} (s : Same H H') : Sb d H H' := fun b o _ e => s b o e
theorem Sb.upd (d : Addr) (H : Hp) (o : HO) : Sb d H (upd H d o) := fun b u hb e => by rw [upd_ne hb]; exact e
theorem SqT.sb {K : PySem.W.Frag} {a r : Addr} {H H' : Hp} {xs ys : List V} (h : SqT K H r xs) (ha : H a = some (.lst ys)) (s : Sb a H H') : SqT K H' r xs := by
  rcases h with (h | ⟨o, h⟩) | h
  · exact .inl (.inl (s _ _ (ne_of h ha (by intro z; cases z)) h))
  · exact .inl (.inr ⟨o, s _ _ (ne_of h ha (by intro z; cases z)) h⟩)
  · exact .inr h
theorem tr_sb {K : PySem.W.Frag} {a : Addr} {H H' : Hp} {ys : List V} (ha : H a = some (.lst ys)) (s : Sb a H H') : ∀ {t : Tr} {v : V}, Is K H (trD t) v → Is K H' (trD t) v
  | .num n, v, h => by
    rw [trD, Is] at h ⊢
    obtain ⟨p, xs, e, h1, h2⟩ := h
    refine ⟨p, xs, e, SqT.sb h1 ha s, ?_⟩
    simp only [Iss, Is] at h2 ⊢
    exact h2
  | .nam n, v, h => by
    rw [trD, Is] at h ⊢
    obtain ⟨p, xs, e, h1, h2⟩ := h
    refine ⟨p, xs, e, SqT.sb h1 ha s, ?_⟩
    simp only [Iss, Is] at h2 ⊢
    exact h2
  | .op g l r, v, h => by
    rw [trD, Is] at h ⊢
    obtain ⟨p, xs, e, h1, h2⟩ := h
    refine ⟨p, xs, e, SqT.sb h1 ha s, ?_⟩
    simp only [Iss] at h2 ⊢
    obtain ⟨v1, r1, e1, i1, v2, r2, e2, i2, v3, r3, e3, i3, e4⟩ := h2
    refine ⟨v1, r1, e1, ?_, v2, r2, e2, tr_sb ha s i2, v3, r3, e3, tr_sb ha s i3, e4⟩
    rw [Is] at i1 ⊢
    exact i1
/-- a tree of data, opened -/
theorem is_num {K : PySem.W.Frag} {H : Hp} {n : Int} {v : V} (h : Is K H (trD (.num n)) v) : ∃ p, v = .ref p ∧ SqT K H p [.str "number", .int n] := by
  rw [trD, Is] at h
  obtain ⟨p, xs, e, h1, h2⟩ := h
  simp only [Iss, Is] at h2
  obtain ⟨v1, r1, rfl, rfl, v2, r2, rfl, rfl, rfl⟩ := h2
  exact ⟨p, e, h1⟩
theorem is_nam {K : PySem.W.Frag} {H : Hp} {n : Str} {v : V} (h : Is K H (trD (.nam n)) v) : ∃ p, v = .ref p ∧ SqT K H p [.str "name", .str n] := by
  rw [trD, Is] at h
  obtain ⟨p, xs, e, h1, h2⟩ := h
  simp only [Iss, Is] at h2
  obtain ⟨v1, r1, rfl, rfl, v2, r2, rfl, rfl, rfl⟩ := h2
  exact ⟨p, e, h1⟩
theorem is_op {K : PySem.W.Frag} {H : Hp} {g : Sg} {l r : Tr} {v : V} (h : Is K H (trD (.op g l r)) v) : ∃ p a b, v = .ref p ∧ SqT K H p [.str (sgS g), a, b] ∧ Is K H (trD l) a ∧ Is K H (trD r) b := by
  rw [trD, Is] at h
  obtain ⟨p, xs, e, h1, h2⟩ := h
  simp only [Iss] at h2
  obtain ⟨v1, r1, rfl, i1, v2, r2, rfl, i2, v3, r3, rfl, i3, rfl⟩ := h2
  rw [Is] at i1
  subst i1
  exact ⟨p, v2, v3, e, h1, i2, i3⟩
theorem four_at {x k : Int} (h0 : 0 ≤ x) (h1 : x ≤ 99) (k0 : 0 ≤ k) (k1 : k < 4) : ∃ n : Int, atI [V.int 0, V.int 1, V.int 99, V.int x] k = some (.int n) ∧ 0 ≤ n ∧ n ≤ 99 := by
  have : k = 0 ∨ k = 1 ∨ k = 2 ∨ k = 3 := by omega
  rcases this with rfl | rfl | rfl | rfl
  · exact ⟨0, atI_nat (j := 0) rfl, by decide, by decide⟩
  · exact ⟨1, atI_nat (j := 1) rfl, by decide, by decide⟩
  · exact ⟨99, atI_nat (j := 2) rfl, by decide, by decide⟩
  · exact ⟨x, atI_nat (j := 3) rfl, h0, h1⟩
theorem two_at {k : Int} (k0 : 0 ≤ k) (k1 : k < 2) : ∃ s : Str, atI [V.str "", V.str "@"] k = some (.str s) ∧ (s = "" ∨ s = "@") ∧ s.length ≤ 1 := by
  have : k = 0 ∨ k = 1 := by omega
  rcases this with rfl | rfl
  · exact ⟨"", atI_nat (j := 0) rfl, .inl rfl, by decide⟩
  · exact ⟨"@", atI_nat (j := 1) rfl, .inr rfl, by decide⟩
theorem sign_at {k : Int} (k0 : 0 ≤ k) (k1 : k < 3) : ∃ g : Sg, atI [V.str "+", V.str "-", V.str "*"] k = some (.str (sgS g)) := by
  have : k = 0 ∨ k = 1 ∨ k = 2 := by omega
  rcases this with rfl | rfl | rfl
  · exact ⟨.plus, atI_nat (j := 0) rfl⟩
  · exact ⟨.minus, atI_nat (j := 1) rfl⟩
  · exact ⟨.times, atI_nat (j := 2) rfl⟩
section
variable {P : Program} {w : World} {K : PySem.W.Frag} {mg : Str → Option Value} {base : Heap}
/-! ### a leaf -/
structure PoolAt (H : Hp) (b : Addr) (l : List Str) : Prop where
  at_ : H b = some (.lst (l.map V.str))
  len : l.length = 3
  few : ∀ x ∈ l, x.length ≤ 30
theorem PoolAt.same {H H' : Hp} {b : Addr} {l : List Str} (T : PoolAt H b l) (s : Same H H') : PoolAt H' b l := ⟨s _ _ T.at_, T.len, T.few⟩
theorem PoolAt.sb {H H' : Hp} {a b : Addr} {l : List Str} (T : PoolAt H b l) (hab : b ≠ a) (s : Sb a H H') : PoolAt H' b l := ⟨s _ _ hab T.at_, T.len, T.few⟩
theorem PoolAt.get {H : Hp} {b : Addr} {l : List Str} (T : PoolAt H b l) {k : Int} (k0 : 0 ≤ k) (k1 : k < 3) : ∃ y ∈ l, atI (l.map V.str) k = some (.str y) ∧ y.length ≤ 30 := by
  obtain ⟨j, rfl⟩ : ∃ j : Nat, k = j := ⟨k.toNat, by omega⟩
  have hj : j < l.length := by rw [T.len]; omega
  exact ⟨l[j], List.getElem_mem hj, atI_nat (by rw [List.getElem?_map, List.getElem?_eq_getElem hj]; rfl), T.few _ (List.getElem_mem hj)⟩
def spLeaf (K : PySem.W.Frag) : Sp := fun vs H Q _ => ∃ (c : Int) (b : Addr) (l : List Str), vs = [.int c, .ref b] ∧ PoolAt H b l ∧ ∀ (p : Addr) (H' : Hp) (t : Tr), Same H H' → Is K H' (trD t) (.ref p) → Fits l t → lv t = 1 → Q (.ref p) H'
theorem scLeaf : FnScope ["_law_cell", "_law_pool_here"] ["_law_cell", "_law_pool_here"] (defScope sLeaf) := ⟨rfl, rfl, rfl, by decide +kernel, rfl, by decide +kernel, by decide +kernel⟩
theorem ok_leaf {f : Addr} {fd : FuncData} (B : Bl mg) (F : Fun K "_law_leaf" "_law_leaf" sLeaf f fd) : FnOk P w K mg base CX0 1 f fd ["_law_cell", "_law_pool_here"] (spLeaf K) := by
  refine F.ok scLeaf (fun vs H Q E h => ?_) (fun cdv A outer s H vs Q E hr h => ?_)
  · obtain ⟨c, b, l, rfl, _⟩ := h
    rfl
  obtain ⟨c, b, l, rfl, T, q⟩ := h
  refine ⟨_, (@pss_cons _ _ _ _ _ (@ps_if _ _ _ _ _ _ _ _ (@pt_cmpR _ _ _ _ _ _ _ _ op_eq (@pe_op _ _ _ _ _ _ _ _ op_mod (pv 0) pe_int) pe_int (nomark _)) (@pss_one _ _ _ (@ps_ret _ _ _ _ (@pe_tup _ _ _ _ _ (@pa_cons _ _ _ _ _ pe_str (@pa_cons _ _ _ _ _ (@pe_ix _ _ _ _ _ _ (rIxL K) ix_list (@pe_lst _ _ _ _ (@pa_cons _ _ _ _ _ pe_int (@pa_cons _ _ _ _ _ pe_int (@pa_cons _ _ _ _ _ pe_int (@pa_cons _ _ _ _ _ (@pe_op _ _ _ _ _ _ _ _ op_mod (@pe_op _ _ _ _ _ _ _ _ op_fdiv (pv 0) pe_int) pe_int) pa_nil (by rfl)) (by rfl)) (by rfl)) (by rfl))) (@pe_op _ _ _ _ _ _ _ _ op_mod (@pe_op _ _ _ _ _ _ _ _ op_fdiv (pv 0) pe_int) pe_int) (fun _ _ => rfl)) pa_nil (by rfl)) (by rfl))))) pss_nil) (@pss_one _ _ _ (@ps_ret _ _ _ _ (@pe_tup _ _ _ _ _ (@pa_cons _ _ _ _ _ pe_str (@pa_cons _ _ _ _ _ (@pe_op _ _ _ _ _ _ _ _ op_add_str (@pe_ix _ _ _ _ _ _ (rIxL K) ix_list (@pe_lst _ _ _ _ (@pa_cons _ _ _ _ _ pe_str (@pa_cons _ _ _ _ _ pe_str pa_nil (by rfl)) (by rfl))) (@pe_op _ _ _ _ _ _ _ _ op_fdiv (@pe_op _ _ _ _ _ _ _ _ op_mod (@pe_op _ _ _ _ _ _ _ _ op_fdiv (pv 0) pe_int) pe_int) pe_int) (fun _ _ => rfl)) (@pe_ix _ _ _ _ _ _ (rIxL K) ix_list (pv 1) (@pe_op _ _ _ _ _ _ _ _ op_mod (@pe_op _ _ _ _ _ _ _ _ op_fdiv (pv 0) pe_int) (pe_callB call_len_seq (by rfl) B.len PySem.boot_len (@pa_cons _ _ _ _ _ (pv 1) pa_nil (by rfl)))) (fun _ _ => rfl))) pa_nil (by rfl)) (by rfl)))))), ?_⟩
  have m100 : ∀ x : Int, 0 ≤ x % 100 ∧ x % 100 < 100 := fun x => ⟨Int.emod_nonneg _ (by decide), Int.emod_lt_of_pos _ (by decide)⟩
  have m4 : ∀ x : Int, 0 ≤ x % 4 ∧ x % 4 < 4 := fun x => ⟨Int.emod_nonneg _ (by decide), Int.emod_lt_of_pos _ (by decide)⟩
  refine ⟨_, rfl, _, _, rfl, rfl, (by show (0 : Int) < 2; decide), rfl, _, rfl, ite2 (fun _ => ?_) (fun _ => ?_)⟩
  · refine ⟨_, rfl, _, _, rfl, rfl, ⟨by decide, by decide⟩, _, _, rfl, rfl, (by show (0 : Int) < 100; decide), by show 4 ≤ sizeLine; decide, fun z hz => ?_⟩
    obtain ⟨n, hn, n0, n1⟩ := four_at (m100 (c / 8)).1 (Int.le_of_lt_add_one (m100 (c / 8)).2) (m4 (c / 2)).1 (m4 (c / 2)).2
    refine ⟨_, rfl, _, _, rfl, rfl, ⟨by decide, by decide⟩, _, _, rfl, rfl, (by show (0 : Int) < 4; decide), z, _, _, _, rfl, rfl, SqL.of upd_same, hn, by show 2 ≤ sizeLine; decide, fun p hp => ?_⟩
    refine q p _ (.num n) ((same_new hz _).trans (same_new hp _)) ?_ ⟨n0, n1⟩ rfl
    rw [trD, Is]
    exact ⟨p, _, rfl, SqT.of upd_same, .cons (by rw [Is]) (.cons (by rw [Is]) .nil)⟩
  · have d3 : 0 ≤ c / 2 % 4 / 3 ∧ c / 2 % 4 / 3 < 2 := by have := m4 (c / 2); omega
    obtain ⟨s', hs', hs2, hs3⟩ := two_at d3.1 d3.2
    refine ⟨by show 2 ≤ sizeLine; decide, fun z hz => ?_⟩
    have T' := T.same (same_new hz (.lst [V.str "", V.str "@"]))
    have m3 : 0 ≤ c / 8 % 3 ∧ c / 8 % 3 < 3 := ⟨Int.emod_nonneg _ (by decide), Int.emod_lt_of_pos _ (by decide)⟩
    obtain ⟨y, hy, hy2, hy3⟩ := T'.get m3.1 m3.2
    refine ⟨_, rfl, _, _, rfl, rfl, ⟨by decide, by decide⟩, _, _, rfl, rfl, (by show (0 : Int) < 4; decide), _, _, rfl, rfl, ⟨by decide, by decide⟩, z, _, _, _, rfl, rfl, SqL.of upd_same, hs', ?_⟩
    have el : (((l.map V.str).length : Nat) : Int) = 3 := by rw [List.length_map, T.len]; rfl
    refine ⟨_, rfl, _, rfl, _, _, rfl, rfl, ⟨by decide, by decide⟩, _, rfl, b, _, rfl, .inl (SqL.of T'.at_), _, _, rfl, rfl, (by show (0 : Int) < (((l.map V.str).length : Nat) : Int); rw [el]; decide), b, _, _, _, rfl, rfl, SqL.of T'.at_, (by rw [el]; exact hy2), _, _, rfl, rfl, ?_, by show 2 ≤ sizeLine; decide, fun p hp => ?_⟩
    · exact Nat.le_of_lt (small1000 (by omega))
    refine q p _ (.nam (s' ++ y)) ((same_new hz _).trans (same_new hp _)) ?_ ⟨y, hy, ?_⟩ rfl
    · rw [trD, Is]
      exact ⟨p, _, rfl, SqT.of upd_same, .cons (by rw [Is]) (.cons (by rw [Is]) .nil)⟩
    · rcases hs2 with e | e
      · rw [e]; exact .inl rfl
      · rw [e]; exact .inr rfl
end
end Nw

set_option Elab.async false
set_option linter.all false
set_option maxRecDepth 100000
set_option maxHeartbeats 4000000
namespace Nw
open PySem L2
theorem is_ints {K : PySem.W.Frag} {H : Hp} {a : Addr} {cs : List Int} (h : H a = some (.lst (cs.map V.int))) : Is K H (.lst (cs.map Dt.int)) (.ref a) := by
  rw [Is]
  exact ⟨a, _, rfl, SqL.of h, .ints cs⟩
theorem is_nil {K : PySem.W.Frag} {H : Hp} {a : Addr} (h : H a = some (.lst [])) : Is K H (.lst []) (.ref a) := by
  rw [Is]
  exact ⟨a, _, rfl, SqL.of h, .nil⟩
theorem dep_ints (cs : List Int) : dep (.lst (cs.map Dt.int)) ≤ 50 := by
  have : ∀ cs : List Int, deps (cs.map Dt.int) = 0 := by
    intro cs
    induction cs with
    | nil => rfl
    | cons c cs ih =>
      rw [List.map_cons, deps, ih, dep]
      · rfl
      · intro l z; cases z
      · intro l z; cases z
  rw [dep, this]
  decide
theorem dEq_nil (cs : List Int) : dEq (.lst (cs.map Dt.int)) (.lst []) = cs.isEmpty := by
  cases cs with
  | nil => rw [List.map_nil, dEq, dEqs]; rfl
  | cons c cs =>
    rw [List.map_cons, dEq, dEqs]
    · rfl
    · intro h; cases h
    · intro _ _ _ _ _ z; cases z
section
variable {P : Program} {w : World} {K : PySem.W.Frag} {mg : Str → Option Value} {base : Heap}
def spSum (K : PySem.W.Frag) (n : Nat) : Sp := fun vs H Q _ => ∃ (a b : Addr) (cs : List Int) (l : List Str), vs = [.ref a, .ref b] ∧ H a = some (.lst (cs.map V.int)) ∧ b ≠ a ∧ PoolAt H b l ∧ 0 < cs.length ∧ cs.length ≤ n ∧
  ∀ (p : Addr) (H' : Hp) (t : Tr) (cs' : List Int), Sb a H H' → H' a = some (.lst (cs'.map V.int)) → Is K H' (trD t) (.ref p) → Fits l t → cs'.length + lv t ≤ cs.length → Q (.ref p) H'
theorem scSum : FnScope ["_law_cells", "_law_pool_here", "_law_cell", "_law_one", "_law_other"] ["_law_cells", "_law_pool_here"] (defScope sSum) := ⟨rfl, rfl, rfl, by decide +kernel, rfl, by decide +kernel, by decide +kernel⟩
theorem ok_sum {f fL : Addr} {fd fdL : FuncData} (B : Bl mg) (F : Fun K "_law_sum" "_law_sum" sSum f fd) (bS : Binds K fd ["_law_cells", "_law_pool_here"] []) (mS : mg "_law_sum" = some (.ref f))
    (FL : Fun K "_law_leaf" "_law_leaf" sLeaf fL fdL) (bL : Binds K fdL ["_law_cell", "_law_pool_here"] []) (mL : mg "_law_leaf" = some (.ref fL)) : ∀ n : Nat, FnOk P w K mg base CX0 (n + 1) f fd ["_law_cells", "_law_pool_here"] (spSum K n)
  | 0 => ⟨fun vs H Q E h => by obtain ⟨a, b, cs, l, _, _, _, _, h1, h2, _⟩ := h; omega, fun _ _ _ _ _ _ _ _ _ _ _ _ _ h => by obtain ⟨a, b, cs, l, _, _, _, _, h1, h2, _⟩ := h; omega⟩
  | n + 1 => by
    have GL : FnOk P w K mg base CX0 1 fL fdL ["_law_cell", "_law_pool_here"] (spLeaf K) := ok_leaf B FL
    have GS := ok_sum B F bS mS FL bL mL n
    refine F.ok scSum (fun vs H Q E h => ?_) (fun cdv A outer s H vs Q E hr h => ?_)
    · obtain ⟨a, b, cs, l, rfl, _⟩ := h
      rfl
    obtain ⟨a, b, cs, l, rfl, ha, hab, T, h1, h2, q⟩ := h
    have hrL := hr.mono (Nat.le_add_left 1 n)
    have hu := hu60 hr
    refine ⟨_, (@pss_cons _ _ _ _ _ (@ps_set _ _ 2 _ _ _ _ scSum.nd rfl (Or.inl rfl) (pe_bm PySem.F.plainAttrs_list PySem.F.slot_list_pop PySem.F.type_list_pop mt_popAt (pv 0) (@pa_cons _ _ _ _ _ pe_int pa_nil (by rfl))) rfl (Or.inl rfl)) (@pss_cons _ _ _ _ _ (@ps_if _ _ _ _ _ _ _ _ ((@pw_or _ _ _ _ _ _ _ (@pt_cmpR _ _ _ _ _ _ _ _ (@op_eqD _ hu) (pv 0) (@pe_lst _ _ _ _ pa_nil) (nomark _)) (pw_or1 (@pt_cmpR _ _ _ _ _ _ _ _ op_lt (@pe_op _ _ _ _ _ _ _ _ op_mod (pv 2) pe_int) pe_int (nomark _))))).pt (@pss_one _ _ _ (@ps_ret _ _ _ _ (pe_call GL hrL (by rfl) mL FL.kp bL .nil pass0 (@pa_cons _ _ _ _ _ (@pe_op _ _ _ _ _ _ _ _ op_fdiv (pv 2) pe_int) (@pa_cons _ _ _ _ _ (pv 1) pa_nil (by rfl)) (by rfl))))) pss_nil) (@pss_cons _ _ _ _ _ (@ps_set _ _ 3 _ _ _ _ scSum.nd rfl (Or.inl rfl) (pe_call GS hr (by rfl) mS F.kp bS .nil pass0 (@pa_cons _ _ _ _ _ (pv 0) (@pa_cons _ _ _ _ _ (pv 1) pa_nil (by rfl)) (by rfl))) rfl (Or.inl rfl)) (@pss_cons _ _ _ _ _ (@ps_set _ _ 4 _ _ _ _ scSum.nd rfl (Or.inl rfl) (pe_call GL hrL (by rfl) mL FL.kp bL .nil pass0 (@pa_cons _ _ _ _ _ (@pe_op _ _ _ _ _ _ _ _ op_fdiv (pv 2) pe_int) (@pa_cons _ _ _ _ _ (pv 1) pa_nil (by rfl)) (by rfl))) rfl (Or.inl rfl)) (@pss_cons _ _ _ _ _ (@ps_cut _ _ _ (@ps_if _ _ _ _ _ _ _ _ (@pt_cmpR _ _ _ _ _ _ _ _ (@op_neD _ hu) (pv 0) (@pe_lst _ _ _ _ pa_nil) (nomark _)) (@pss_one _ _ _ (@ps_set _ _ 4 _ _ _ _ scSum.nd rfl (Or.inl rfl) (pe_call GS hr (by rfl) mS F.kp bS .nil pass0 (@pa_cons _ _ _ _ _ (pv 0) (@pa_cons _ _ _ _ _ (pv 1) pa_nil (by rfl)) (by rfl))) rfl (Or.inl rfl))) pss_nil)) (@pss_one _ _ _ (@ps_ret _ _ _ _ (@pe_tup _ _ _ _ _ (@pa_cons _ _ _ _ _ (@pe_ix _ _ _ _ _ _ (rIxL K) ix_list (@pe_lst _ _ _ _ (@pa_cons _ _ _ _ _ pe_str (@pa_cons _ _ _ _ _ pe_str (@pa_cons _ _ _ _ _ pe_str pa_nil (by rfl)) (by rfl)) (by rfl))) (@pe_op _ _ _ _ _ _ _ _ op_sub (@pe_op _ _ _ _ _ _ _ _ op_mod (pv 2) pe_int) pe_int) (fun _ _ => rfl)) (@pa_cons _ _ _ _ _ (pv 3) (@pa_cons _ _ _ _ _ (pv 4) pa_nil (by rfl)) (by rfl)) (by rfl)))))))))), ?_⟩
    obtain ⟨c, cs, rfl⟩ : ∃ c cs', cs = c :: cs' := by
      cases cs with
      | nil => cases h1
      | cons c cs => exact ⟨c, cs, rfl⟩
    have ix0 : seqIndex? 0 ((c :: cs).map V.int).length = some 0 := by
      rw [List.length_map, List.length_cons]
      unfold seqIndex?
      have e1 : ((0 : Int) < 0) = False := by simp
      simp only [e1, if_false]
      rw [if_pos]
      · rfl
      · rw [Bool.and_eq_true]
        exact ⟨rfl, decide_eq_true (by omega)⟩
    refine ⟨_, rfl, .inl ⟨rfl, _, SqL.of ha⟩, a, _, (0 : Int), 0, _, rfl, rfl, ha, by decide, by decide, ix0, rfl, ?_⟩
    have s1 : Sb a H (upd H a (.lst (cs.map V.int))) := Sb.upd a H _
    have a1 : upd H a (.lst (cs.map V.int)) a = some (.lst (cs.map V.int)) := upd_same
    have T1 := T.sb hab s1
    refine ⟨_, rfl, Nat.zero_le _, fun z hz => ⟨_, _, is_ints ((same_new hz _) _ _ a1), is_nil upd_same, rfl, rfl, dep_ints cs, _, rfl, ?_⟩⟩
    have s2 := s1.trans (.of (same_new hz (.lst [])))
    have a2 := (same_new hz (.lst [])) _ _ a1
    have T2 := T1.same (same_new hz (.lst []))
    refine ite2 (fun g => ?_) (fun g => ?_)
    · refine ⟨_, rfl, _, _, rfl, rfl, ⟨by decide, by decide⟩, _, rfl, c / 5, b, l, rfl, T2, fun p H' t sm it ft lt => ?_⟩
      refine q p H' t cs (s2.trans (.of sm)) (sm _ _ a2) it ft ?_
      rw [lt]
      exact Nat.le_refl _
    rw [dEq_nil] at g
    have hne : 0 < cs.length := by
      cases cs with
      | nil => exact absurd rfl g
      | cons _ _ => exact Nat.succ_pos _
    refine ⟨_, rfl, _, _, rfl, rfl, (by show (0 : Int) < 5; decide), _, _, rfl, rfl, _, rfl, ite2 (fun g2 => ?_) (fun g2 => ?_)⟩
    · refine ⟨_, rfl, _, _, rfl, rfl, ⟨by decide, by decide⟩, _, rfl, c / 5, b, l, rfl, T2, fun p H' t sm it ft lt => ?_⟩
      refine q p H' t cs (s2.trans (.of sm)) (sm _ _ a2) it ft ?_
      rw [lt]
      exact Nat.le_refl _
    have g3 : 2 ≤ c % 5 := by
      have := of_decide_eq_false (Bool.eq_false_iff.mpr g2)
      omega
    refine ⟨_, rfl, _, rfl, a, b, cs, l, rfl, a2, hab, T2, hne, by have h2 : cs.length + 1 ≤ n + 1 := h2; omega, fun p1 H1 t1 cs1 b1 c1 i1 f1 l1 => ?_⟩
    have s3 := s2.trans b1
    have T3 := T2.sb hab b1
    refine ⟨_, rfl, _, _, rfl, rfl, ⟨by decide, by decide⟩, _, rfl, c / 15, b, l, rfl, T3, fun p2 H2 t2 b2 i2 f2 l2 => ?_⟩
    have s4 := s3.trans (.of b2)
    have T4 := T3.same b2
    have c2 := b2 _ _ c1
    have i1' := i1.same b2
    have hh : c % 5 - 2 = 0 ∨ True := .inr trivial
    obtain ⟨g, hg⟩ := sign_at (k := c % 5 - 2) (by omega) (by omega)
    refine ⟨fun σ H' => ∃ (p3 : Addr) (t3 : Tr) (cs3 : List Int), σ = [some (.ref a), some (.ref b), some (.int c), some (.ref p1), some (.ref p3)] ∧ Sb a H H' ∧ H' a = some (.lst (cs3.map V.int)) ∧ Is K H' (trD t1) (.ref p1) ∧ Is K H' (trD t3) (.ref p3) ∧ Fits l t3 ∧ cs3.length + (lv t1 + lv t3) ≤ cs.length + 1, ?_, ?_⟩
    · refine ⟨_, rfl, Nat.zero_le _, fun y hy => ⟨_, _, is_ints ((same_new hy _) _ _ c2), is_nil upd_same, rfl, rfl, dep_ints cs1, _, rfl, ?_⟩⟩
      have s5 := s4.trans (.of (same_new hy (.lst [])))
      have c3 := (same_new hy (.lst [])) _ _ c2
      have T5 := T4.same (same_new hy (.lst []))
      have i3 := i1'.same (same_new hy (.lst []))
      rw [dEq_nil]
      refine ite2 (fun g4 => ?_) (fun g4 => ?_)
      · have hn1 : 0 < cs1.length := by
          cases cs1 with
          | nil => cases g4
          | cons _ _ => exact Nat.succ_pos _
        have l0 := lv_pos t1
        refine ⟨_, rfl, _, rfl, a, b, cs1, l, rfl, c3, hab, T5, hn1, by have h2 : cs.length + 1 ≤ n + 1 := h2; omega, fun p3 H3 t3 cs3 b3 c4 i4 f4 l4 => ?_⟩
        exact ⟨p3, t3, cs3, rfl, s5.trans b3, c4, tr_sb c3 b3 i3, i4, f4, by omega⟩
      · exact ⟨p2, t2, cs1, rfl, s5, c3, i3, i2.same (same_new hy (.lst [])), f2, by omega⟩
    · rintro σ' H3 ⟨p3, t3, cs3, rfl, e1, e2, e3, e4, e5, e6⟩
      refine ⟨by show 3 ≤ sizeLine; decide, fun y hy => ?_⟩
      refine ⟨_, rfl, _, _, rfl, rfl, (by show (0 : Int) < 5; decide), _, _, rfl, rfl, y, _, _, _, rfl, rfl, SqL.of upd_same, hg, _, rfl, _, rfl, by show 3 ≤ sizeLine; decide, fun p hp => ?_⟩
      have sy := same_new hy (.lst [V.str "+", V.str "-", V.str "*"])
      have sp := same_new hp (.tup [V.str (sgS g), .ref p1, .ref p3])
      have sm := sy.trans sp
      refine q p _ (.op g t1 t3) cs3 (e1.trans (.of sm)) (sm _ _ e2) ?_ ⟨f1, e5⟩ e6
      rw [trD, Is]
      exact ⟨p, _, rfl, SqT.of upd_same, .cons (by rw [Is]) (.cons (e3.same sm) (.cons (e4.same sm) .nil))⟩
end
end Nw

set_option Elab.async false
set_option linter.all false
set_option maxRecDepth 100000
set_option maxHeartbeats 4000000
namespace Nw
open PySem L2
/-! ### the text of a tree, its names -/
theorem fn_none {P : Program} {w : World} {K : PySem.W.Frag} {mg : Str → Option Value} {base : Heap} {f : Addr} {fd : FuncData} {ps : List Str} {k : Nat} {sp : Sp} (h : ∀ vs H Q E, ¬ sp vs H Q E) : FnOk P w K mg base CX0 k f fd ps sp := ⟨fun vs H Q E q => absurd q (h _ _ _ _), fun _ _ _ _ _ _ _ _ _ _ _ _ _ q => absurd q (h _ _ _ _)⟩
theorem same_put {H H' : Hp} {p : Addr} (s : Same H H') (h : H p = none) (o : HO) : Same H (upd H' p o) := fun b u q => by rw [upd_ne (ne_of_none q h)]; exact s b u q
theorem inV_strs (x : Str) : ∀ l : List Str, inV (.str x) (l.map V.str) = decide (x ∈ l)
  | [] => rfl
  | y :: l => by
    have q := inV_strs x l
    unfold inV at q ⊢
    rw [List.map_cons, List.any_cons, q]
    by_cases e : x = y
    · subst e
      simp [eqV]
    · have e' : ¬ y = x := fun z => e z.symm
      simp [eqV, e, e']
theorem deps_strs : ∀ ns : List Str, deps (ns.map Dt.str) = 0
  | [] => by simp [deps]
  | n :: ns => by simp [deps, dep, deps_strs ns]

def txt : Tr → Str
  | .num n => (toString n : String)
  | .nam x => x
  | .op g a b => "( " ++ txt a ++ " " ++ sgS g ++ " " ++ txt b ++ " )"
def nmT : Tr → List Str
  | .num _ => []
  | .nam x => [x]
  | .op _ a b => nmT a ++ nmT b
theorem nmT_len : ∀ t : Tr, (nmT t).length ≤ lv t
  | .num _ => Nat.zero_le _
  | .nam _ => Nat.le_refl _
  | .op _ a b => by
    have h1 := nmT_len a
    have h2 := nmT_len b
    show (nmT a ++ nmT b).length ≤ lv a + lv b
    rw [List.length_append]; omega
theorem num2 : ∀ k : Fin 100, ((toString ((k.val : Nat) : Int) : String) : Str).length ≤ 2 := by decide +kernel
theorem num_len {n : Int} (h : 0 ≤ n ∧ n ≤ 99) : ((toString n : String) : Str).length ≤ 2 := by
  have := num2 ⟨n.toNat, by omega⟩
  have e : ((n.toNat : Nat) : Int) = n := by omega
  simp only [e] at this
  exact this
theorem sg_len (g : Sg) : (sgS g).length = 1 := by cases g <;> decide +kernel
theorem sp_len : (" " : Str).length = 1 ∧ ("( " : Str).length = 2 ∧ (" )" : Str).length = 2 := by decide +kernel
theorem txt_len {l : List Str} (hl : ∀ x ∈ l, x.length ≤ 30) : ∀ {t : Tr}, Fits l t → (txt t).length + 7 ≤ 47 * lv t
  | .num n, h => by
    have := num_len h
    show ((toString n : String) : Str).length + 7 ≤ 47 * 1
    omega
  | .nam x, h => by
    obtain ⟨y, hy, e⟩ := h
    have := hl y hy
    have e1 : ("" : Str).length = 0 := by decide +kernel
    have e2 : ("@" : Str).length = 1 := by decide +kernel
    show x.length + 7 ≤ 47 * 1
    rcases e with e | e <;> rw [e, str_len] <;> omega
  | .op g a b, h => by
    obtain ⟨h1, h2⟩ : Fits l a ∧ Fits l b := h
    have i1 := txt_len hl h1
    have i2 := txt_len hl h2
    have s1 := sg_len g
    obtain ⟨s2, s3, s4⟩ := sp_len
    show ("( " ++ txt a ++ " " ++ sgS g ++ " " ++ txt b ++ " )" : Str).length + 7 ≤ 47 * (lv a + lv b)
    simp only [str_len, s1, s2, s3, s4]
    omega
theorem small9 {n : Nat} (h : n ≤ 9000) : n ≤ sizeLine := by rw [sizeLine_eq]; omega
section
variable {P : Program} {w : World} {K : PySem.W.Frag} {mg : Str → Option Value} {base : Heap}
def spText (K : PySem.W.Frag) (n : Nat) : Sp := fun vs H Q _ => ∃ (v : V) (t : Tr) (l : List Str), vs = [v] ∧ Is K H (trD t) v ∧ (∀ x ∈ l, x.length ≤ 30) ∧ Fits l t ∧ lv t ≤ 100 ∧ dp t < n ∧ Q (.str (txt t)) H
theorem scText : FnScope ["_law_some"] ["_law_some"] (defScope sText) := ⟨rfl, rfl, rfl, by decide +kernel, rfl, by decide +kernel, by decide +kernel⟩
theorem ok_text {f : Addr} {fd : FuncData} (B : Bl mg) (F : Fun K "_law_sum_text" "_law_sum_text" sText f fd) (bT : Binds K fd ["_law_some"] []) (mT : mg "_law_sum_text" = some (.ref f)) : ∀ n : Nat, FnOk P w K mg base CX0 (n + 1) f fd ["_law_some"] (spText K n)
  | 0 => fn_none fun vs H Q E h => by obtain ⟨v, t, l, _, _, _, _, _, h1, _⟩ := h; omega
  | n + 1 => by
    have GT := ok_text B F bT mT n
    refine F.ok scText (fun vs H Q E h => ?_) (fun cdv A outer s H vs Q E hr h => ?_)
    · obtain ⟨v, t, l, rfl, _⟩ := h
      rfl
    obtain ⟨v, t, l, rfl, it, hl, ft, l100, hn, q⟩ := h
    refine ⟨_, (@pss_cons _ _ _ _ _ (@ps_if _ _ _ _ _ _ _ _ (@pt_cmpR _ _ _ _ _ _ _ _ op_eq (@pe_ix _ _ _ _ _ _ (rIxT K) ix_tup (pv 0) pe_int (fun _ _ => rfl)) pe_str (nomark _)) (@pss_one _ _ _ (@ps_ret _ _ _ _ (pe_callTy call_str_int (by rfl) B.str PyProof.Rows.boot_str (@pa_cons _ _ _ _ _ (@pe_ix _ _ _ _ _ _ (rIxT K) ix_tup (pv 0) pe_int (fun _ _ => rfl)) pa_nil (by rfl))))) pss_nil) (@pss_cons _ _ _ _ _ (@ps_if _ _ _ _ _ _ _ _ (@pt_cmpR _ _ _ _ _ _ _ _ op_eq (@pe_ix _ _ _ _ _ _ (rIxT K) ix_tup (pv 0) pe_int (fun _ _ => rfl)) pe_str (nomark _)) (@pss_one _ _ _ (@ps_ret _ _ _ _ (@pe_ix _ _ _ _ _ _ (rIxT K) ix_tup (pv 0) pe_int (fun _ _ => rfl)))) pss_nil) (@pss_one _ _ _ (@ps_ret _ _ _ _ (@pe_op _ _ _ _ _ _ _ _ op_add_str (@pe_op _ _ _ _ _ _ _ _ op_add_str (@pe_op _ _ _ _ _ _ _ _ op_add_str (@pe_op _ _ _ _ _ _ _ _ op_add_str (@pe_op _ _ _ _ _ _ _ _ op_add_str (@pe_op _ _ _ _ _ _ _ _ op_add_str pe_str (pe_call GT hr (by rfl) mT F.kp bT .nil pass0 (@pa_cons _ _ _ _ _ (@pe_ix _ _ _ _ _ _ (rIxT K) ix_tup (pv 0) pe_int (fun _ _ => rfl)) pa_nil (by rfl)))) pe_str) (@pe_ix _ _ _ _ _ _ (rIxT K) ix_tup (pv 0) pe_int (fun _ _ => rfl))) pe_str) (pe_call GT hr (by rfl) mT F.kp bT .nil pass0 (@pa_cons _ _ _ _ _ (@pe_ix _ _ _ _ _ _ (rIxT K) ix_tup (pv 0) pe_int (fun _ _ => rfl)) pa_nil (by rfl)))) pe_str))))), ?_⟩
    cases t with
    | num m =>
      obtain ⟨p, rfl, ht⟩ := is_num it
      obtain ⟨m0, m1⟩ : 0 ≤ m ∧ m ≤ 99 := ft
      refine ⟨_, rfl, p, _, _, _, rfl, rfl, ht, atI_nat (j := 0) rfl, rfl, _, rfl, ite2 (fun _ => ?_) (fun c => absurd (decide_eq_true rfl) c)⟩
      exact ⟨_, rfl, p, _, _, _, rfl, rfl, ht, atI_nat (j := 1) rfl, m, rfl, Nat.lt_of_le_of_lt (Nat.log2_le_self _) (by omega), q⟩
    | nam x =>
      obtain ⟨p, rfl, ht⟩ := is_nam it
      refine ⟨_, rfl, p, _, _, _, rfl, rfl, ht, atI_nat (j := 0) rfl, rfl, _, rfl, ite2 (fun c => absurd (of_decide_eq_true c) (by decide +kernel)) (fun _ => ?_)⟩
      refine ⟨_, rfl, p, _, _, _, rfl, rfl, ht, atI_nat (j := 0) rfl, rfl, _, rfl, ite2 (fun _ => ?_) (fun c => absurd (decide_eq_true rfl) c)⟩
      exact ⟨_, rfl, p, _, _, _, rfl, rfl, ht, atI_nat (j := 1) rfl, q⟩
    | op g a b =>
      obtain ⟨p, va, vb, rfl, ht, ia, ib⟩ := is_op it
      obtain ⟨fa, fb⟩ : Fits l a ∧ Fits l b := ft
      have hn : max (dp a) (dp b) + 1 < n + 1 := hn
      have l100 : lv a + lv b ≤ 100 := l100
      have n1 : ¬ V.str (sgS g) = V.str "number" := by cases g <;> decide +kernel
      have n2 : ¬ V.str (sgS g) = V.str "name" := by cases g <;> decide +kernel
      have i1 := txt_len hl fa
      have i2 := txt_len hl fb
      have s1 := sg_len g
      obtain ⟨s2, s3, s4⟩ := sp_len
      refine ⟨_, rfl, p, _, _, _, rfl, rfl, ht, atI_nat (j := 0) rfl, rfl, _, rfl, ite2 (fun c => absurd (of_decide_eq_true c) n1) (fun _ => ?_)⟩
      refine ⟨_, rfl, p, _, _, _, rfl, rfl, ht, atI_nat (j := 0) rfl, rfl, _, rfl, ite2 (fun c => absurd (of_decide_eq_true c) n2) (fun _ => ?_)⟩
      refine ⟨_, rfl, p, _, _, _, rfl, rfl, ht, atI_nat (j := 1) rfl, va, a, l, rfl, ia, hl, fa, by omega, by omega, ?_⟩
      refine ⟨_, _, rfl, rfl, small9 (by rw [s3]; omega), _, _, rfl, rfl, small9 (by simp only [str_len, s2, s3]; omega), _, rfl, p, _, _, _, rfl, rfl, ht, atI_nat (j := 0) rfl, _, _, rfl, rfl, small9 (by simp only [str_len, s1, s2, s3]; omega), _, _, rfl, rfl, small9 (by simp only [str_len, s1, s2, s3]; omega), ?_⟩
      refine ⟨_, rfl, p, _, _, _, rfl, rfl, ht, atI_nat (j := 2) rfl, vb, b, l, rfl, ib, hl, fb, by omega, by omega, ?_⟩
      exact ⟨_, _, rfl, rfl, small9 (by simp only [str_len, s1, s2, s3]; omega), _, _, rfl, rfl, small9 (by simp only [str_len, s1, s2, s3, s4]; omega), q⟩
end
end Nw

set_option Elab.async false
set_option linter.all false
set_option maxRecDepth 100000
set_option maxHeartbeats 4000000
namespace Nw
open PySem L2
/-! ### what is shown, what is named, whatever the class -/
section
variable (P : Program) (w : World) (K : PySem.W.Frag) (mg : Str → Option Value) (base : Heap) (r : Nat)
def ShownBy (H : Hp) (v : V) (x : Str) : Prop := ∃ (a C dx : Addr) (fs : List (Str × V)) (sp : Sp), v = .ref a ∧ H a = some (.ins C dx fs) ∧ fs.lookup ("shown" : Str) = none ∧ MOk P w K mg base r C "shown" sp ∧
  ∀ (H' : Hp) (Q : VK), Same H H' → (∀ H'', Same H' H'' → Q (.str x) H'') → sp [.ref a] H' Q E0
def NamedBy (H : Hp) (v : V) (ts : List Str) : Prop := ∃ (a C dx : Addr) (fs : List (Str × V)) (sp : Sp), v = .ref a ∧ H a = some (.ins C dx fs) ∧ fs.lookup ("named" : Str) = none ∧ MOk P w K mg base r C "named" sp ∧
  ∀ (H' : Hp) (Q : VK), Same H H' → (∀ (p : Addr) (H'' : Hp) (out : List Str), Same H' H'' → H' p = none → IsNorm ts out → H'' p = some (.lst (out.map V.str)) → Q (.ref p) H'') → sp [.ref a] H' Q E0
end
section
variable {P : Program} {w : World} {K : PySem.W.Frag} {mg : Str → Option Value} {base : Heap} {r : Nat}
theorem str_assoc (a b c : Str) : a ++ b ++ c = a ++ (b ++ c) := by
  cases a; cases b; cases c
  exact congrArg Str.mk (Array.append_assoc)
theorem join5 (a b c : Str) : Txt.join " " ["(", a, b, c, ")"] = "( " ++ a ++ " " ++ b ++ " " ++ c ++ " )" := by
  rw [join_eq]
  show "(" ++ " " ++ (a ++ " " ++ (b ++ " " ++ (c ++ " " ++ ")"))) = _
  have e1 : ("(" : Str) ++ " " = "( " := by decide +kernel
  have e2 : (" " : Str) ++ ")" = " )" := by decide +kernel
  rw [e1, str_assoc c, e2]
  simp only [str_assoc]
theorem join5s (a b c : Str) : Txt.join " " ["[", a, b, c, "]"] = "[ " ++ a ++ " " ++ b ++ " " ++ c ++ " ]" := by
  rw [join_eq]
  show "[" ++ " " ++ (a ++ " " ++ (b ++ " " ++ (c ++ " " ++ "]"))) = _
  have e1 : ("[" : Str) ++ " " = "[ " := by decide +kernel
  have e2 : (" " : Str) ++ "]" = " ]" := by decide +kernel
  rw [e1, str_assoc c, e2]
  simp only [str_assoc]
theorem join4 (a : Str) : Txt.join " " ["[", "not", a, "]"] = "[ not " ++ a ++ " ]" := by
  rw [join_eq]
  show "[" ++ " " ++ ("not" ++ " " ++ (a ++ " " ++ "]")) = _
  have e1 : ("[" : Str) ++ " " ++ ("not" ++ " ") = "[ not " := by decide +kernel
  have e2 : (" " : Str) ++ "]" = " ]" := by decide +kernel
  rw [← e1, ← e2]
  simp only [str_assoc]
theorem join3 (a b c : Str) : Txt.join " " [a, b, c] = a ++ " " ++ b ++ " " ++ c := by
  rw [join_eq]
  show a ++ " " ++ (b ++ " " ++ c) = _
  simp only [str_assoc]
/-! ### bracketed, compared -/
def spBra (P : Program) (w : World) (K : PySem.W.Frag) (mg : Str → Option Value) (base : Heap) (r : Nat) (o c : Str) : Sp := fun vs H Q _ => ∃ (va vb : V) (x s y : Str), vs = [va, .str s, vb] ∧ ShownBy P w K mg base r H va x ∧ ShownBy P w K mg base r H vb y ∧ x.length + s.length + y.length ≤ 2000000 ∧ ∀ H', Same H H' → Q (.str (o ++ x ++ " " ++ s ++ " " ++ y ++ c)) H'
theorem scBra : FnScope ["one", "sign", "other"] ["one", "sign", "other"] (defScope sBra) := ⟨rfl, rfl, rfl, by decide +kernel, rfl, by decide +kernel, by decide +kernel⟩
theorem ok_bra {f : Addr} {fd : FuncData} (F : Fun K "bracketed" "bracketed" sBra f fd) : FnOk P w K mg base CX0 (r + 1) f fd ["one", "sign", "other"] (spBra P w K mg base r "( " " )") := by
  refine F.ok scBra (fun vs H Q E h => ?_) (fun cdv A outer s H vs Q E hr h => ?_)
  · obtain ⟨va, vb, x, sg, y, rfl, _⟩ := h
    rfl
  obtain ⟨va, vb, x, sg, y, rfl, ⟨pa, Ca, dxa, fsa, spa, rfl, ha, la, Ma, qa⟩, ⟨pb, Cb, dxb, fsb, spb, rfl, hb, lb, Mb, qb⟩, hl, q⟩ := h
  refine ⟨_, (@pss_one _ _ _ (@ps_ret _ _ _ _ (pe_bm (r := rJoin K) PySem.F.plainAttrs_str PySem.F.slot_str_join PySem.F.type_str_join mt_join pe_str (@pa_cons _ _ _ _ _ (@pe_lst _ _ _ _ (@pa_cons _ _ _ _ _ pe_str (@pa_cons _ _ _ _ _ (pe_methP0 (pv 0) hr) (@pa_cons _ _ _ _ _ (pv 1) (@pa_cons _ _ _ _ _ (pe_methP0 (pv 2) hr) (@pa_cons _ _ _ _ _ pe_str pa_nil (by rfl)) (by rfl)) (by rfl)) (by rfl)) (by rfl))) pa_nil (by rfl))))), ?_⟩
  refine ⟨rfl, _, rfl, pa, _, dxa, fsa, _, rfl, ha, la, Ma, qa _ _ (Same.refl _) fun H1 t1 => ?_⟩
  refine ⟨_, rfl, _, rfl, pb, _, dxb, fsb, _, rfl, t1 _ _ hb, lb, Mb, qb _ _ t1 fun H2 t2 => ?_⟩
  refine ⟨by show 5 ≤ sizeLine; decide, fun z hz => ⟨_, z, ["(", x, sg, y, ")"], rfl, rfl, SqL.of upd_same, ?_, ?_⟩⟩
  · have e1 : ("(" : Str).length = 1 := by decide +kernel
    have e2 : (")" : Str).length = 1 := by decide +kernel
    have e3 := sp_len.1
    simp only [List.map_cons, List.map_nil, List.sum_cons, List.sum_nil, List.length_cons, List.length_nil, e1, e2, e3]
    omega
  · rw [join5]
    exact q _ (t1.trans (t2.trans (same_new hz _)))
theorem scBrs : FnScope ["one", "word", "other"] ["one", "word", "other"] (defScope sBrs) := ⟨rfl, rfl, rfl, by decide +kernel, rfl, by decide +kernel, by decide +kernel⟩
theorem ok_brs {f : Addr} {fd : FuncData} (F : Fun K "bracketed" "bracketed" sBrs f fd) : FnOk P w K mg base CX0 (r + 1) f fd ["one", "word", "other"] (spBra P w K mg base r "[ " " ]") := by
  refine F.ok scBrs (fun vs H Q E h => ?_) (fun cdv A outer s H vs Q E hr h => ?_)
  · obtain ⟨va, vb, x, sg, y, rfl, _⟩ := h
    rfl
  obtain ⟨va, vb, x, sg, y, rfl, ⟨pa, Ca, dxa, fsa, spa, rfl, ha, la, Ma, qa⟩, ⟨pb, Cb, dxb, fsb, spb, rfl, hb, lb, Mb, qb⟩, hl, q⟩ := h
  refine ⟨_, (@pss_one _ _ _ (@ps_ret _ _ _ _ (pe_bm (r := rJoin K) PySem.F.plainAttrs_str PySem.F.slot_str_join PySem.F.type_str_join mt_join pe_str (@pa_cons _ _ _ _ _ (@pe_lst _ _ _ _ (@pa_cons _ _ _ _ _ pe_str (@pa_cons _ _ _ _ _ (pe_methP0 (pv 0) hr) (@pa_cons _ _ _ _ _ (pv 1) (@pa_cons _ _ _ _ _ (pe_methP0 (pv 2) hr) (@pa_cons _ _ _ _ _ pe_str pa_nil (by rfl)) (by rfl)) (by rfl)) (by rfl)) (by rfl))) pa_nil (by rfl))))), ?_⟩
  refine ⟨rfl, _, rfl, pa, _, dxa, fsa, _, rfl, ha, la, Ma, qa _ _ (Same.refl _) fun H1 t1 => ?_⟩
  refine ⟨_, rfl, _, rfl, pb, _, dxb, fsb, _, rfl, t1 _ _ hb, lb, Mb, qb _ _ t1 fun H2 t2 => ?_⟩
  refine ⟨by show 5 ≤ sizeLine; decide, fun z hz => ⟨_, z, ["[", x, sg, y, "]"], rfl, rfl, SqL.of upd_same, ?_, ?_⟩⟩
  · have e1 : ("[" : Str).length = 1 := by decide +kernel
    have e2 : ("]" : Str).length = 1 := by decide +kernel
    have e3 := sp_len.1
    simp only [List.map_cons, List.map_nil, List.sum_cons, List.sum_nil, List.length_cons, List.length_nil, e1, e2, e3]
    omega
  · rw [join5s]
    exact q _ (t1.trans (t2.trans (same_new hz _)))
def spCmp (P : Program) (w : World) (K : PySem.W.Frag) (mg : Str → Option Value) (base : Heap) (r : Nat) : Sp := fun vs H Q _ => ∃ (va vb : V) (x s y : Str), vs = [va, .str s, vb] ∧ ShownBy P w K mg base r H va x ∧ ShownBy P w K mg base r H vb y ∧ x.length + s.length + y.length ≤ 2000000 ∧ ∀ H', Same H H' → Q (.str (x ++ " " ++ s ++ " " ++ y)) H'
theorem scCmp : FnScope ["one", "sign", "other"] ["one", "sign", "other"] (defScope sCmp) := ⟨rfl, rfl, rfl, by decide +kernel, rfl, by decide +kernel, by decide +kernel⟩
theorem ok_cmp {f : Addr} {fd : FuncData} (F : Fun K "compared" "compared" sCmp f fd) : FnOk P w K mg base CX0 (r + 1) f fd ["one", "sign", "other"] (spCmp P w K mg base r) := by
  refine F.ok scCmp (fun vs H Q E h => ?_) (fun cdv A outer s H vs Q E hr h => ?_)
  · obtain ⟨va, vb, x, sg, y, rfl, _⟩ := h
    rfl
  obtain ⟨va, vb, x, sg, y, rfl, ⟨pa, Ca, dxa, fsa, spa, rfl, ha, la, Ma, qa⟩, ⟨pb, Cb, dxb, fsb, spb, rfl, hb, lb, Mb, qb⟩, hl, q⟩ := h
  refine ⟨_, (@pss_one _ _ _ (@ps_ret _ _ _ _ (pe_bm (r := rJoin K) PySem.F.plainAttrs_str PySem.F.slot_str_join PySem.F.type_str_join mt_join pe_str (@pa_cons _ _ _ _ _ (@pe_lst _ _ _ _ (@pa_cons _ _ _ _ _ (pe_methP0 (pv 0) hr) (@pa_cons _ _ _ _ _ (pv 1) (@pa_cons _ _ _ _ _ (pe_methP0 (pv 2) hr) pa_nil (by rfl)) (by rfl)) (by rfl))) pa_nil (by rfl))))), ?_⟩
  refine ⟨rfl, _, rfl, pa, _, dxa, fsa, _, rfl, ha, la, Ma, qa _ _ (Same.refl _) fun H1 t1 => ?_⟩
  refine ⟨_, rfl, _, rfl, pb, _, dxb, fsb, _, rfl, t1 _ _ hb, lb, Mb, qb _ _ t1 fun H2 t2 => ?_⟩
  refine ⟨by show 3 ≤ sizeLine; decide, fun z hz => ⟨_, z, [x, sg, y], rfl, rfl, SqL.of upd_same, ?_, ?_⟩⟩
  · have e3 := sp_len.1
    simp only [List.map_cons, List.map_nil, List.sum_cons, List.sum_nil, List.length_cons, List.length_nil, e3]
    omega
  · rw [join3]
    exact q _ (t1.trans (t2.trans (same_new hz _)))
/-! ### names of two -/
def spTwo (P : Program) (w : World) (K : PySem.W.Frag) (mg : Str → Option Value) (base : Heap) (r : Nat) : Sp := fun vs H Q _ => ∃ (va vb : V) (ta tb : List Str), vs = [va, vb] ∧ NamedBy P w K mg base r H va ta ∧ NamedBy P w K mg base r H vb tb ∧ ta.length + tb.length ≤ 60 ∧ ∀ (p : Addr) (H' : Hp) (out : List Str), Same H H' → H p = none → IsNorm (ta ++ tb) out → H' p = some (.lst (out.map V.str)) → Q (.ref p) H'
theorem scTwoO : FnScope ["one", "other"] ["one", "other"] (defScope sTwoO) := ⟨rfl, rfl, rfl, by decide +kernel, rfl, by decide +kernel, by decide +kernel⟩
theorem ok_twoO {f : Addr} {fd : FuncData} (B : Bl mg) (F : Fun K "names_of_two" "names_of_two" sTwoO f fd) : FnOk P w K mg base CX0 (r + 1) f fd ["one", "other"] (spTwo P w K mg base r) := by
  refine F.ok scTwoO (fun vs H Q E h => ?_) (fun cdv A outer s H vs Q E hr h => ?_)
  · obtain ⟨va, vb, ta, tb, rfl, _⟩ := h
    rfl
  obtain ⟨va, vb, ta, tb, rfl, ⟨pa, Ca, dxa, fsa, spa, rfl, ha, la, Ma, qa⟩, ⟨pb, Cb, dxb, fsb, spb, rfl, hb, lb, Mb, qb⟩, hl, q⟩ := h
  refine ⟨_, (@pss_one _ _ _ (@ps_ret _ _ _ _ (pe_callB (call_sortedS rfl) (by rfl) B.sorted rfl (@pa_cons _ _ _ _ _ (pe_callTy (call_setS rfl) (by rfl) B.set rfl (@pa_cons _ _ _ _ _ (@pe_op _ _ _ _ _ _ _ _ op_catL (pe_methP0 (pv 0) hr) (pe_methP0 (pv 1) hr)) pa_nil (by rfl))) pa_nil (by rfl))))), ?_⟩
  refine ⟨_, rfl, pa, _, dxa, fsa, _, rfl, ha, la, Ma, qa _ _ (Same.refl _) fun q1 H1 o1 t1 f1 n1 e1 => ?_⟩
  refine ⟨_, rfl, pb, _, dxb, fsb, _, rfl, t1 _ _ hb, lb, Mb, qb _ _ t1 fun q2 H2 o2 t2 f2 n2 e2 => ?_⟩
  have k1 := n1.len
  have k2 := n2.len
  refine ⟨q1, q2, _, _, rfl, rfl, SqL.of (t2 _ _ e1), SqL.of e2, small9 (by rw [List.length_map, List.length_map]; omega), fun q3 h3 => ?_⟩
  have t3 := same_new h3 (.lst (o1.map V.str ++ o2.map V.str))
  have e3 : upd H2 q3 (.lst (o1.map V.str ++ o2.map V.str)) q3 = some (.lst ((o1 ++ o2).map V.str)) := by rw [upd_same, List.map_append]
  generalize upd H2 q3 (.lst (o1.map V.str ++ o2.map V.str)) = H3 at t3 e3 ⊢
  refine ⟨q3, o1 ++ o2, rfl, SqL.of e3, by rw [List.length_append]; unfold scanBound; omega, fun q4 h4 => ?_⟩
  have k3 := metS_length (o1 ++ o2)
  rw [List.length_append] at k3
  refine ⟨q4, _, rfl, upd_same, metS_nodup _, by omega, fun q5 out h5 n5 => ?_⟩
  have f5 := (same_new h4 _).free h5
  refine q q5 _ out ?_ (t1.free (t2.free (t3.free f5))) (n1.cat n2 n5.of_met) upd_same
  exact t1.trans (t2.trans (t3.trans (same_put (same_new h4 _) f5 _)))
end
end Nw

set_option Elab.async false
set_option linter.all false
set_option maxRecDepth 100000
set_option maxHeartbeats 4000000
namespace Nw
open PySem L2
/-! ### the classes -/
inductive Kd where
  | num | nam | op (g : Sg)
def kd : Tr → Kd
  | .num _ => .num
  | .nam _ => .nam
  | .op g _ _ => .op g
def ckOf (CN CM CP CI CX : Addr) : Kd → Addr
  | .num => CN
  | .nam => CM
  | .op .plus => CP
  | .op .minus => CI
  | .op .times => CX
def numF (v : V) : List (Str × V) := putF "number" v []
def namF (v : V) : List (Str × V) := putF "name" v []
def twoF (a b : V) : List (Str × V) := putF "other" b (putF "one" a [])
theorem num_at (v : V) : (numF v).lookup ("number" : Str) = some v := by unfold numF; rw [lookup_putF, if_pos rfl]
theorem nam_at (v : V) : (namF v).lookup ("name" : Str) = some v := by unfold namF; rw [lookup_putF, if_pos rfl]
theorem two_one (a b : V) : (twoF a b).lookup ("one" : Str) = some a := by unfold twoF; rw [lookup_putF, if_neg (by decide +kernel), lookup_putF, if_pos rfl]
theorem two_oth (a b : V) : (twoF a b).lookup ("other" : Str) = some b := by unfold twoF; rw [lookup_putF, if_pos rfl]
theorem num_s (v : V) : (numF v).lookup ("shown" : Str) = none := by unfold numF; rw [lookup_putF, if_neg (by decide +kernel)]; rfl
theorem nam_s (v : V) : (namF v).lookup ("shown" : Str) = none := by unfold namF; rw [lookup_putF, if_neg (by decide +kernel)]; rfl
theorem two_s (a b : V) : (twoF a b).lookup ("shown" : Str) = none := by unfold twoF; rw [lookup_putF, if_neg (by decide +kernel), lookup_putF, if_neg (by decide +kernel)]; rfl
theorem num_n (v : V) : (numF v).lookup ("named" : Str) = none := by unfold numF; rw [lookup_putF, if_neg (by decide +kernel)]; rfl
theorem nam_n (v : V) : (namF v).lookup ("named" : Str) = none := by unfold namF; rw [lookup_putF, if_neg (by decide +kernel)]; rfl
theorem two_n (a b : V) : (twoF a b).lookup ("named" : Str) = none := by unfold twoF; rw [lookup_putF, if_neg (by decide +kernel), lookup_putF, if_neg (by decide +kernel)]; rfl
structure ClsA (K : PySem.W.Frag) (CK : Kd → Addr) : Prop where
  cl : ∀ k, Cls K (CK k)
  num : NoAttr K (CK .num) "number"
  nam : NoAttr K (CK .nam) "name"
  one : ∀ g, NoAttr K (CK (.op g)) "one"
  oth : ∀ g, NoAttr K (CK (.op g)) "other"
/-- the object made of a tree -/
def Obj (CK : Kd → Addr) (H : Hp) : Tr → V → Prop
  | .num n, v => ∃ p dx, v = .ref p ∧ H p = some (.ins (CK .num) dx (numF (.int n)))
  | .nam x, v => ∃ p dx, v = .ref p ∧ H p = some (.ins (CK .nam) dx (namF (.str x)))
  | .op g l r, v => ∃ p dx a b, v = .ref p ∧ H p = some (.ins (CK (.op g)) dx (twoF a b)) ∧ Obj CK H l a ∧ Obj CK H r b
theorem Obj.same {CK : Kd → Addr} {H H' : Hp} (s : Same H H') : ∀ {t : Tr} {v : V}, Obj CK H t v → Obj CK H' t v
  | .num n, v, h => by
    obtain ⟨p, dx, e, h⟩ := h
    exact ⟨p, dx, e, s _ _ h⟩
  | .nam n, v, h => by
    obtain ⟨p, dx, e, h⟩ := h
    exact ⟨p, dx, e, s _ _ h⟩
  | .op g l r, v, h => by
    obtain ⟨p, dx, a, b, e, h, h1, h2⟩ := h
    exact ⟨p, dx, a, b, e, s _ _ h, h1.same s, h2.same s⟩
theorem Obj.at_ {CK : Kd → Addr} {H : Hp} : ∀ {t : Tr} {v : V}, Obj CK H t v → ∃ p dx fs, v = .ref p ∧ H p = some (.ins (CK (kd t)) dx fs) ∧ fs.lookup ("shown" : Str) = none ∧ fs.lookup ("named" : Str) = none
  | .num n, v, h => by
    obtain ⟨p, dx, e, h⟩ := h
    exact ⟨p, dx, _, e, h, num_s _, num_n _⟩
  | .nam n, v, h => by
    obtain ⟨p, dx, e, h⟩ := h
    exact ⟨p, dx, _, e, h, nam_s _, nam_n _⟩
  | .op g l r, v, h => by
    obtain ⟨p, dx, a, b, e, h, _⟩ := h
    exact ⟨p, dx, _, e, h, two_s _ _, two_n _ _⟩
section
variable {P : Program} {w : World} {K : PySem.W.Frag} {mg : Str → Option Value} {base : Heap} {CK : Kd → Addr}
/-! ### shown -/
def spS (CK : Kd → Addr) (n : Nat) (k : Kd) : Sp := fun vs H Q _ => ∃ (v : V) (t : Tr) (l : List Str), vs = [v] ∧ kd t = k ∧ Obj CK H t v ∧ (∀ x ∈ l, x.length ≤ 30) ∧ Fits l t ∧ lv t ≤ 60 ∧ dp t < n ∧ ∀ H', Same H H' → Q (.str (txt t)) H'
theorem spS_none (k : Kd) : ∀ vs H Q E, ¬ spS CK 0 k vs H Q E := fun vs H Q E h => by
  obtain ⟨v, t, l, _, _, _, _, _, _, h1, _⟩ := h
  omega
theorem scNumS : FnScope ["self"] ["self"] (defScope sNumS) := ⟨rfl, rfl, rfl, by decide +kernel, rfl, by decide +kernel, by decide +kernel⟩
theorem ok_numS {f : Addr} {fd : FuncData} (B : Bl mg) (c : ClsA K CK) (F : Fun K "shown" "Number.shown" sNumS f fd) (n : Nat) : FnOk P w K mg base CX0 1 f fd ["self"] (spS CK n .num) := by
  refine F.ok scNumS (fun vs H Q E h => ?_) (fun cdv A outer s H vs Q E hr h => ?_)
  · obtain ⟨v, t, l, rfl, _⟩ := h
    rfl
  obtain ⟨v, t, l, rfl, kt, ob, hl, ft, l100, hn, q⟩ := h
  refine ⟨_, (@pss_one _ _ _ (@ps_ret _ _ _ _ (pe_callTy call_str_int (by rfl) B.str PyProof.Rows.boot_str (@pa_cons _ _ _ _ _ (@pe_fld _ _ _ _ _ (pv 0) rfl) pa_nil (by rfl))))), ?_⟩
  cases t with
  | num m =>
    obtain ⟨p, dx, rfl, hp⟩ := ob
    obtain ⟨m0, m1⟩ : 0 ≤ m ∧ m ≤ 99 := ft
    exact ⟨_, rfl, p, _, dx, _, _, rfl, hp, c.cl _, c.num, num_at _, m, rfl, Nat.lt_of_le_of_lt (Nat.log2_le_self _) (by omega), q _ (Same.refl _)⟩
  | _ => cases kt
theorem scNamS : FnScope ["self"] ["self"] (defScope sNamS) := ⟨rfl, rfl, rfl, by decide +kernel, rfl, by decide +kernel, by decide +kernel⟩
theorem ok_namS {f : Addr} {fd : FuncData} (c : ClsA K CK) (F : Fun K "shown" "Named.shown" sNamS f fd) (n : Nat) : FnOk P w K mg base CX0 1 f fd ["self"] (spS CK n .nam) := by
  refine F.ok scNamS (fun vs H Q E h => ?_) (fun cdv A outer s H vs Q E hr h => ?_)
  · obtain ⟨v, t, l, rfl, _⟩ := h
    rfl
  obtain ⟨v, t, l, rfl, kt, ob, hl, ft, l100, hn, q⟩ := h
  refine ⟨_, (@pss_one _ _ _ (@ps_ret _ _ _ _ (@pe_fld _ _ _ _ _ (pv 0) rfl))), ?_⟩
  cases t with
  | nam x =>
    obtain ⟨p, dx, rfl, hp⟩ := ob
    exact ⟨_, rfl, p, _, dx, _, _, rfl, hp, c.cl _, c.nam, nam_at _, q _ (Same.refl _)⟩
  | _ => cases kt
theorem Obj.shownBy {H : Hp} {t : Tr} {v : V} {l : List Str} {n r : Nat} (W : ∀ k, MOk P w K mg base r (CK k) "shown" (spS CK n k)) (ob : Obj CK H t v) (hl : ∀ x ∈ l, x.length ≤ 30) (ft : Fits l t) (hv : lv t ≤ 60) (hd : dp t < n) : ShownBy P w K mg base r H v (txt t) := by
  obtain ⟨p, dx, fs, rfl, hp, ls, _⟩ := ob.at_
  exact ⟨p, _, dx, fs, _, rfl, hp, ls, W _, fun H' Q s k => ⟨.ref p, t, l, rfl, rfl, ob.same s, hl, ft, hv, hd, k⟩⟩
theorem scPluS : FnScope ["self"] ["self"] (defScope sPluS) := ⟨rfl, rfl, rfl, by decide +kernel, rfl, by decide +kernel, by decide +kernel⟩
theorem ok_pluS {f fB : Addr} {fd dB : FuncData} (c : ClsA K CK) (F : Fun K "shown" "Plus.shown" sPluS f fd) (FB : Fun K "bracketed" "bracketed" sBra fB dB) (bB : Binds K dB ["one", "sign", "other"] []) (mB : mg "bracketed_sums" = some (.ref fB)) (n : Nat) (W : ∀ k, MOk P w K mg base (2 * n + 1) (CK k) "shown" (spS CK n k)) : FnOk P w K mg base CX0 (2 * (n + 1) + 1) f fd ["self"] (spS CK (n + 1) (.op .plus)) := by
  have GB : FnOk P w K mg base CX0 (2 * n + 2) fB dB ["one", "sign", "other"] (spBra P w K mg base (2 * n + 1) "( " " )") := ok_bra FB
  refine F.ok scPluS (fun vs H Q E h => ?_) (fun cdv A outer s H vs Q E hr h => ?_)
  · obtain ⟨v, t, l, rfl, _⟩ := h
    rfl
  obtain ⟨v, t, l, rfl, kt, ob, hl, ft, l100, hn, q⟩ := h
  have hrB := hr.mono (show 2 * n + 2 ≤ 2 * (n + 1) by omega)
  refine ⟨_, (@pss_one _ _ _ (@ps_ret _ _ _ _ (pe_call GB hrB (by rfl) mB FB.kp bB .nil pass0 (@pa_cons _ _ _ _ _ (@pe_fld _ _ _ _ _ (pv 0) rfl) (@pa_cons _ _ _ _ _ pe_str (@pa_cons _ _ _ _ _ (@pe_fld _ _ _ _ _ (pv 0) rfl) pa_nil (by rfl)) (by rfl)) (by rfl))))), ?_⟩
  cases t with
  | op g a b =>
    cases kt
    obtain ⟨p, dx, va, vb, rfl, hp, oa, ob⟩ := ob
    obtain ⟨fa, fb⟩ : Fits l a ∧ Fits l b := ft
    have hn : max (dp a) (dp b) + 1 < n + 1 := hn
    have l100 : lv a + lv b ≤ 60 := l100
    have i1 := txt_len hl fa
    have i2 := txt_len hl fb
    have s1 := sg_len .plus
    refine ⟨_, rfl, p, _, dx, _, _, rfl, hp, c.cl _, c.one _, two_one _ _, _, rfl, p, _, dx, _, _, rfl, hp, c.cl _, c.oth _, two_oth _ _, ?_⟩
    exact ⟨va, vb, txt a, sgS .plus, txt b, rfl, oa.shownBy W hl fa (by omega) (by omega), ob.shownBy W hl fb (by omega) (by omega), by omega, q⟩
  | _ => cases kt
theorem scMinS : FnScope ["self"] ["self"] (defScope sMinS) := ⟨rfl, rfl, rfl, by decide +kernel, rfl, by decide +kernel, by decide +kernel⟩
theorem ok_minS {f fB : Addr} {fd dB : FuncData} (c : ClsA K CK) (F : Fun K "shown" "Minus.shown" sMinS f fd) (FB : Fun K "bracketed" "bracketed" sBra fB dB) (bB : Binds K dB ["one", "sign", "other"] []) (mB : mg "bracketed_sums" = some (.ref fB)) (n : Nat) (W : ∀ k, MOk P w K mg base (2 * n + 1) (CK k) "shown" (spS CK n k)) : FnOk P w K mg base CX0 (2 * (n + 1) + 1) f fd ["self"] (spS CK (n + 1) (.op .minus)) := by
  have GB : FnOk P w K mg base CX0 (2 * n + 2) fB dB ["one", "sign", "other"] (spBra P w K mg base (2 * n + 1) "( " " )") := ok_bra FB
  refine F.ok scMinS (fun vs H Q E h => ?_) (fun cdv A outer s H vs Q E hr h => ?_)
  · obtain ⟨v, t, l, rfl, _⟩ := h
    rfl
  obtain ⟨v, t, l, rfl, kt, ob, hl, ft, l100, hn, q⟩ := h
  have hrB := hr.mono (show 2 * n + 2 ≤ 2 * (n + 1) by omega)
  refine ⟨_, (@pss_one _ _ _ (@ps_ret _ _ _ _ (pe_call GB hrB (by rfl) mB FB.kp bB .nil pass0 (@pa_cons _ _ _ _ _ (@pe_fld _ _ _ _ _ (pv 0) rfl) (@pa_cons _ _ _ _ _ pe_str (@pa_cons _ _ _ _ _ (@pe_fld _ _ _ _ _ (pv 0) rfl) pa_nil (by rfl)) (by rfl)) (by rfl))))), ?_⟩
  cases t with
  | op g a b =>
    cases kt
    obtain ⟨p, dx, va, vb, rfl, hp, oa, ob⟩ := ob
    obtain ⟨fa, fb⟩ : Fits l a ∧ Fits l b := ft
    have hn : max (dp a) (dp b) + 1 < n + 1 := hn
    have l100 : lv a + lv b ≤ 60 := l100
    have i1 := txt_len hl fa
    have i2 := txt_len hl fb
    have s1 := sg_len .minus
    refine ⟨_, rfl, p, _, dx, _, _, rfl, hp, c.cl _, c.one _, two_one _ _, _, rfl, p, _, dx, _, _, rfl, hp, c.cl _, c.oth _, two_oth _ _, ?_⟩
    exact ⟨va, vb, txt a, sgS .minus, txt b, rfl, oa.shownBy W hl fa (by omega) (by omega), ob.shownBy W hl fb (by omega) (by omega), by omega, q⟩
  | _ => cases kt
theorem scTimS : FnScope ["self"] ["self"] (defScope sTimS) := ⟨rfl, rfl, rfl, by decide +kernel, rfl, by decide +kernel, by decide +kernel⟩
theorem ok_timS {f fB : Addr} {fd dB : FuncData} (c : ClsA K CK) (F : Fun K "shown" "Times.shown" sTimS f fd) (FB : Fun K "bracketed" "bracketed" sBra fB dB) (bB : Binds K dB ["one", "sign", "other"] []) (mB : mg "bracketed_sums" = some (.ref fB)) (n : Nat) (W : ∀ k, MOk P w K mg base (2 * n + 1) (CK k) "shown" (spS CK n k)) : FnOk P w K mg base CX0 (2 * (n + 1) + 1) f fd ["self"] (spS CK (n + 1) (.op .times)) := by
  have GB : FnOk P w K mg base CX0 (2 * n + 2) fB dB ["one", "sign", "other"] (spBra P w K mg base (2 * n + 1) "( " " )") := ok_bra FB
  refine F.ok scTimS (fun vs H Q E h => ?_) (fun cdv A outer s H vs Q E hr h => ?_)
  · obtain ⟨v, t, l, rfl, _⟩ := h
    rfl
  obtain ⟨v, t, l, rfl, kt, ob, hl, ft, l100, hn, q⟩ := h
  have hrB := hr.mono (show 2 * n + 2 ≤ 2 * (n + 1) by omega)
  refine ⟨_, (@pss_one _ _ _ (@ps_ret _ _ _ _ (pe_call GB hrB (by rfl) mB FB.kp bB .nil pass0 (@pa_cons _ _ _ _ _ (@pe_fld _ _ _ _ _ (pv 0) rfl) (@pa_cons _ _ _ _ _ pe_str (@pa_cons _ _ _ _ _ (@pe_fld _ _ _ _ _ (pv 0) rfl) pa_nil (by rfl)) (by rfl)) (by rfl))))), ?_⟩
  cases t with
  | op g a b =>
    cases kt
    obtain ⟨p, dx, va, vb, rfl, hp, oa, ob⟩ := ob
    obtain ⟨fa, fb⟩ : Fits l a ∧ Fits l b := ft
    have hn : max (dp a) (dp b) + 1 < n + 1 := hn
    have l100 : lv a + lv b ≤ 60 := l100
    have i1 := txt_len hl fa
    have i2 := txt_len hl fb
    have s1 := sg_len .times
    refine ⟨_, rfl, p, _, dx, _, _, rfl, hp, c.cl _, c.one _, two_one _ _, _, rfl, p, _, dx, _, _, rfl, hp, c.cl _, c.oth _, two_oth _ _, ?_⟩
    exact ⟨va, vb, txt a, sgS .times, txt b, rfl, oa.shownBy W hl fa (by omega) (by omega), ob.shownBy W hl fb (by omega) (by omega), by omega, q⟩
  | _ => cases kt
/-! ### named -/
def spN (CK : Kd → Addr) (n : Nat) (k : Kd) : Sp := fun vs H Q _ => ∃ (v : V) (t : Tr), vs = [v] ∧ kd t = k ∧ Obj CK H t v ∧ lv t ≤ 60 ∧ dp t < n ∧ ∀ (p : Addr) (H' : Hp) (out : List Str), Same H H' → H p = none → IsNorm (nmT t) out → H' p = some (.lst (out.map V.str)) → Q (.ref p) H'
theorem spN_none (k : Kd) : ∀ vs H Q E, ¬ spN CK 0 k vs H Q E := fun vs H Q E h => by
  obtain ⟨v, t, _, _, _, _, h1, _⟩ := h
  omega
theorem scSumN : FnScope ["self"] ["self"] (defScope sSumN) := ⟨rfl, rfl, rfl, by decide +kernel, rfl, by decide +kernel, by decide +kernel⟩
theorem ok_sumN {f : Addr} {fd : FuncData} (F : Fun K "named" "Sum.named" sSumN f fd) (n : Nat) : FnOk P w K mg base CX0 1 f fd ["self"] (spN CK n .num) := by
  refine F.ok scSumN (fun vs H Q E h => ?_) (fun cdv A outer s H vs Q E hr h => ?_)
  · obtain ⟨v, t, rfl, _⟩ := h
    rfl
  obtain ⟨v, t, rfl, kt, ob, l60, hn, q⟩ := h
  refine ⟨_, (@pss_one _ _ _ (@ps_ret _ _ _ _ (@pe_lst _ _ _ _ pa_nil))), ?_⟩
  cases t with
  | num m => exact ⟨Nat.zero_le _, fun z hz => q z _ [] (same_new hz _) hz IsNorm.nil upd_same⟩
  | _ => cases kt
theorem scNamN : FnScope ["self"] ["self"] (defScope sNamN) := ⟨rfl, rfl, rfl, by decide +kernel, rfl, by decide +kernel, by decide +kernel⟩
theorem ok_namN {f : Addr} {fd : FuncData} (c : ClsA K CK) (F : Fun K "named" "Named.named" sNamN f fd) (n : Nat) : FnOk P w K mg base CX0 1 f fd ["self"] (spN CK n .nam) := by
  refine F.ok scNamN (fun vs H Q E h => ?_) (fun cdv A outer s H vs Q E hr h => ?_)
  · obtain ⟨v, t, rfl, _⟩ := h
    rfl
  obtain ⟨v, t, rfl, kt, ob, l60, hn, q⟩ := h
  refine ⟨_, (@pss_one _ _ _ (@ps_ret _ _ _ _ (@pe_lst _ _ _ _ (@pa_cons _ _ _ _ _ (@pe_fld _ _ _ _ _ (pv 0) rfl) pa_nil (by rfl))))), ?_⟩
  cases t with
  | nam x =>
    obtain ⟨p, dx, rfl, hp⟩ := ob
    exact ⟨_, rfl, p, _, dx, _, _, rfl, hp, c.cl _, c.nam, nam_at _, by show 1 ≤ sizeLine; decide, fun z hz => q z _ [x] (same_new hz _) hz (IsNorm.one x) upd_same⟩
  | _ => cases kt
theorem Obj.namedBy {H : Hp} {t : Tr} {v : V} {n r : Nat} (W : ∀ k, MOk P w K mg base r (CK k) "named" (spN CK n k)) (ob : Obj CK H t v) (hv : lv t ≤ 60) (hd : dp t < n) : NamedBy P w K mg base r H v (nmT t) := by
  obtain ⟨p, dx, fs, rfl, hp, _, ls⟩ := ob.at_
  exact ⟨p, _, dx, fs, _, rfl, hp, ls, W _, fun H' Q s k => ⟨.ref p, t, rfl, rfl, ob.same s, hv, hd, k⟩⟩
theorem scTwoN : FnScope ["self"] ["self"] (defScope sTwoN) := ⟨rfl, rfl, rfl, by decide +kernel, rfl, by decide +kernel, by decide +kernel⟩
theorem ok_twoN {f fB : Addr} {fd dB : FuncData} (B : Bl mg) (c : ClsA K CK) (F : Fun K "named" "Twofold.named" sTwoN f fd) (FB : Fun K "names_of_two" "names_of_two" sTwoO fB dB) (bB : Binds K dB ["one", "other"] []) (mB : mg "names_of_two" = some (.ref fB)) (n : Nat) (W : ∀ k, MOk P w K mg base (2 * n + 1) (CK k) "named" (spN CK n k)) (g : Sg) : FnOk P w K mg base CX0 (2 * (n + 1) + 1) f fd ["self"] (spN CK (n + 1) (.op g)) := by
  have GB : FnOk P w K mg base CX0 (2 * n + 2) fB dB ["one", "other"] (spTwo P w K mg base (2 * n + 1)) := ok_twoO B FB
  refine F.ok scTwoN (fun vs H Q E h => ?_) (fun cdv A outer s H vs Q E hr h => ?_)
  · obtain ⟨v, t, rfl, _⟩ := h
    rfl
  obtain ⟨v, t, rfl, kt, ob, l60, hn, q⟩ := h
  have hrB := hr.mono (show 2 * n + 2 ≤ 2 * (n + 1) by omega)
  refine ⟨_, (@pss_one _ _ _ (@ps_ret _ _ _ _ (pe_call GB hrB (by rfl) mB FB.kp bB .nil pass0 (@pa_cons _ _ _ _ _ (@pe_fld _ _ _ _ _ (pv 0) rfl) (@pa_cons _ _ _ _ _ (@pe_fld _ _ _ _ _ (pv 0) rfl) pa_nil (by rfl)) (by rfl))))), ?_⟩
  cases t with
  | op g' a b =>
    cases kt
    obtain ⟨p, dx, va, vb, rfl, hp, oa, ob⟩ := ob
    have hn : max (dp a) (dp b) + 1 < n + 1 := hn
    have l60 : lv a + lv b ≤ 60 := l60
    have m1 := nmT_len a
    have m2 := nmT_len b
    refine ⟨_, rfl, p, _, dx, _, _, rfl, hp, c.cl _, c.one _, two_one _ _, _, rfl, p, _, dx, _, _, rfl, hp, c.cl _, c.oth _, two_oth _ _, ?_⟩
    exact ⟨va, vb, nmT a, nmT b, rfl, oa.namedBy W (by omega) (by omega), ob.namedBy W (by omega) (by omega), by omega, q⟩
  | _ => cases kt
end
end Nw

set_option Elab.async false
set_option linter.all false
set_option maxRecDepth 100000
set_option maxHeartbeats 4000000
namespace Nw
open PySem L2
section
variable {P : Program} {w : World} {K : PySem.W.Frag} {mg : Str → Option Value} {base : Heap} {CK : Kd → Addr}
/-! ### making -/
def spNumI (C : Addr) : Sp := fun vs H Q _ => ∃ (x dx : Addr) (v : V), vs = [.ref x, v] ∧ H x = some (.ins C dx []) ∧ Q .non (upd H x (.ins C dx (numF v)))
theorem scNumI : FnScope ["self", "number"] ["self", "number"] (defScope sNumI) := ⟨rfl, rfl, rfl, by decide +kernel, rfl, by decide +kernel, by decide +kernel⟩
theorem ok_numI {f : Addr} {fd : FuncData} (c : ClsA K CK) (F : Fun K "__init__" "Number.__init__" sNumI f fd) : FnOk P w K mg base CX0 1 f fd ["self", "number"] (spNumI (CK .num)) := by
  refine F.ok scNumI (fun vs H Q E h => ?_) (fun cdv A outer s H vs Q E hr h => ?_)
  · obtain ⟨x, dx, v, rfl, _⟩ := h
    rfl
  obtain ⟨x, dx, v, rfl, hx, k⟩ := h
  refine ⟨_, (@pss_one _ _ _ (@ps_fld _ _ _ _ _ _ _ _ (pv 0) (pv 1) rfl)), ?_⟩
  exact ⟨_, rfl, _, rfl, x, _, dx, _, rfl, hx, c.cl _, c.num, (by show 0 < 1000; decide), k⟩
def spNamI (C : Addr) : Sp := fun vs H Q _ => ∃ (x dx : Addr) (v : V), vs = [.ref x, v] ∧ H x = some (.ins C dx []) ∧ Q .non (upd H x (.ins C dx (namF v)))
theorem scNamI : FnScope ["self", "name"] ["self", "name"] (defScope sNamI) := ⟨rfl, rfl, rfl, by decide +kernel, rfl, by decide +kernel, by decide +kernel⟩
theorem ok_namI {f : Addr} {fd : FuncData} (c : ClsA K CK) (F : Fun K "__init__" "Named.__init__" sNamI f fd) : FnOk P w K mg base CX0 1 f fd ["self", "name"] (spNamI (CK .nam)) := by
  refine F.ok scNamI (fun vs H Q E h => ?_) (fun cdv A outer s H vs Q E hr h => ?_)
  · obtain ⟨x, dx, v, rfl, _⟩ := h
    rfl
  obtain ⟨x, dx, v, rfl, hx, k⟩ := h
  refine ⟨_, (@pss_one _ _ _ (@ps_fld _ _ _ _ _ _ _ _ (pv 0) (pv 1) rfl)), ?_⟩
  exact ⟨_, rfl, _, rfl, x, _, dx, _, rfl, hx, c.cl _, c.nam, (by show 0 < 1000; decide), k⟩
def spTwoI (C : Addr) : Sp := fun vs H Q _ => ∃ (x dx : Addr) (a b : V), vs = [.ref x, a, b] ∧ H x = some (.ins C dx []) ∧ ∀ H', H' x = some (.ins C dx (twoF a b)) → (∀ b, b ≠ x → H' b = H b) → Q .non H'
theorem scTwoI : FnScope ["self", "one", "other"] ["self", "one", "other"] (defScope sTwoI) := ⟨rfl, rfl, rfl, by decide +kernel, rfl, by decide +kernel, by decide +kernel⟩
theorem ok_twoI {f : Addr} {fd : FuncData} (c : ClsA K CK) (F : Fun K "__init__" "Twofold.__init__" sTwoI f fd) (g : Sg) : FnOk P w K mg base CX0 1 f fd ["self", "one", "other"] (spTwoI (CK (.op g))) := by
  refine F.ok scTwoI (fun vs H Q E h => ?_) (fun cdv A outer s H vs Q E hr h => ?_)
  · obtain ⟨x, dx, a, b, rfl, _⟩ := h
    rfl
  obtain ⟨x, dx, a, b, rfl, hx, k⟩ := h
  refine ⟨_, (@pss_cons _ _ _ _ _ (@ps_fld _ _ _ _ _ _ _ _ (pv 0) (pv 1) rfl) (@pss_one _ _ _ (@ps_fld _ _ _ _ _ _ _ _ (pv 0) (pv 2) rfl))), ?_⟩
  refine ⟨_, rfl, _, rfl, x, _, dx, _, rfl, hx, c.cl _, c.one g, (by show 0 < 1000; decide), ?_⟩
  refine ⟨_, rfl, _, rfl, x, _, dx, _, rfl, upd_same, c.cl _, c.oth g, Nat.lt_of_le_of_lt (length_putF _ _ _) (by show 1 < 1000; decide), ?_⟩
  exact k _ upd_same fun b hb => by rw [upd_ne hb, upd_ne hb]
/-! ### a sum by hand -/
structure Maker (K : PySem.W.Frag) (mg : Str → Option Value) (CK : Kd → Addr) (fN fM fT : Addr) (dN dM dT : FuncData) : Prop where
  cls : ClsA K CK
  mkN : Mk K (CK .num) fN
  mkM : Mk K (CK .nam) fM
  mkT : ∀ g, Mk K (CK (.op g)) fT
  gN : mg "Number" = some (.ref (CK .num))
  gM : mg "Named" = some (.ref (CK .nam))
  gP : mg "Plus" = some (.ref (CK (.op .plus)))
  gI : mg "Minus" = some (.ref (CK (.op .minus)))
  gX : mg "Times" = some (.ref (CK (.op .times)))
  FN : Fun K "__init__" "Number.__init__" sNumI fN dN
  FM : Fun K "__init__" "Named.__init__" sNamI fM dM
  FT : Fun K "__init__" "Twofold.__init__" sTwoI fT dT
  bN : Binds K dN ["self", "number"] []
  bM : Binds K dM ["self", "name"] []
  bT : Binds K dT ["self", "one", "other"] []
def spHand (K : PySem.W.Frag) (CK : Kd → Addr) (n : Nat) : Sp := fun vs H Q _ => ∃ (v : V) (t : Tr), vs = [v] ∧ Is K H (trD t) v ∧ dp t < n ∧ ∀ (p : Addr) (H' : Hp), Same H H' → Obj CK H' t (.ref p) → Q (.ref p) H'
theorem scHand : FnScope ["_law_some", "_law_one", "_law_other"] ["_law_some"] (defScope sHand) := ⟨rfl, rfl, rfl, by decide +kernel, rfl, by decide +kernel, by decide +kernel⟩
theorem same_made {H : Hp} {x dx : Addr} (hx : H x = none) (hd : H dx = none) (n : dx ≠ x) (o o' : HO) : Same H (upd (upd H dx o) x o') := by
  intro b u e
  rw [upd_ne (ne_of_none e hx), upd_ne (ne_of_none e hd)]
  exact e
theorem ok_hand {f fN fM fT : Addr} {fd dN dM dT : FuncData} (T : Maker K mg CK fN fM fT dN dM dT) (F : Fun K "_law_by_hand" "_law_by_hand" sHand f fd) (bH : Binds K fd ["_law_some"] []) (mH : mg "_law_by_hand" = some (.ref f)) :
    ∀ n : Nat, FnOk P w K mg base CX0 (n + 3) f fd ["_law_some"] (spHand K CK n)
  | 0 => fn_none fun vs H Q E h => by obtain ⟨v, t, _, _, h1, _⟩ := h; omega
  | n + 1 => by
    have GH := ok_hand T F bH mH n
    have GN : FnOk P w K mg base CX0 1 fN dN ["self", "number"] (spNumI (CK .num)) := ok_numI T.cls T.FN
    have GM : FnOk P w K mg base CX0 1 fM dM ["self", "name"] (spNamI (CK .nam)) := ok_namI T.cls T.FM
    have GT : ∀ g, FnOk P w K mg base CX0 1 fT dT ["self", "one", "other"] (spTwoI (CK (.op g))) := ok_twoI T.cls T.FT
    refine F.ok scHand (fun vs H Q E h => ?_) (fun cdv A outer s H vs Q E hr h => ?_)
    · obtain ⟨v, t, rfl, _⟩ := h
      rfl
    obtain ⟨v, t, rfl, it, hn, q⟩ := h
    have hr2 := hr.mono (show 1 + 1 ≤ n + 3 by omega)
    refine ⟨_, (@pss_cons _ _ _ _ _ (@ps_if _ _ _ _ _ _ _ _ (@pt_cmpR _ _ _ _ _ _ _ _ op_eq (@pe_ix _ _ _ _ _ _ (rIxT K) ix_tup (pv 0) pe_int (fun _ _ => rfl)) pe_str (nomark _)) (@pss_one _ _ _ (@ps_ret _ _ _ _ (pe_make T.mkN GN hr2 rfl T.gN T.bN .nil pass0 (@pa_cons _ _ _ _ _ (@pe_ix _ _ _ _ _ _ (rIxT K) ix_tup (pv 0) pe_int (fun _ _ => rfl)) pa_nil (by rfl))))) pss_nil) (@pss_cons _ _ _ _ _ (@ps_if _ _ _ _ _ _ _ _ (@pt_cmpR _ _ _ _ _ _ _ _ op_eq (@pe_ix _ _ _ _ _ _ (rIxT K) ix_tup (pv 0) pe_int (fun _ _ => rfl)) pe_str (nomark _)) (@pss_one _ _ _ (@ps_ret _ _ _ _ (pe_make T.mkM GM hr2 rfl T.gM T.bM .nil pass0 (@pa_cons _ _ _ _ _ (@pe_ix _ _ _ _ _ _ (rIxT K) ix_tup (pv 0) pe_int (fun _ _ => rfl)) pa_nil (by rfl))))) pss_nil) (@pss_cons _ _ _ _ _ (@ps_set _ _ 1 _ _ _ _ scHand.nd rfl (Or.inl rfl) (pe_call GH hr (by rfl) mH F.kp bH .nil pass0 (@pa_cons _ _ _ _ _ (@pe_ix _ _ _ _ _ _ (rIxT K) ix_tup (pv 0) pe_int (fun _ _ => rfl)) pa_nil (by rfl))) rfl (Or.inl rfl)) (@pss_cons _ _ _ _ _ (@ps_set _ _ 2 _ _ _ _ scHand.nd rfl (Or.inl rfl) (pe_call GH hr (by rfl) mH F.kp bH .nil pass0 (@pa_cons _ _ _ _ _ (@pe_ix _ _ _ _ _ _ (rIxT K) ix_tup (pv 0) pe_int (fun _ _ => rfl)) pa_nil (by rfl))) rfl (Or.inl rfl)) (@pss_cons _ _ _ _ _ (@ps_if _ _ _ _ _ _ _ _ (@pt_cmpR _ _ _ _ _ _ _ _ op_eq (@pe_ix _ _ _ _ _ _ (rIxT K) ix_tup (pv 0) pe_int (fun _ _ => rfl)) pe_str (nomark _)) (@pss_one _ _ _ (@ps_ret _ _ _ _ (pe_make (T.mkT .plus) (GT .plus) hr2 rfl T.gP T.bT .nil pass0 (@pa_cons _ _ _ _ _ (pv 1) (@pa_cons _ _ _ _ _ (pv 2) pa_nil (by rfl)) (by rfl))))) pss_nil) (@pss_cons _ _ _ _ _ (@ps_if _ _ _ _ _ _ _ _ (@pt_cmpR _ _ _ _ _ _ _ _ op_eq (@pe_ix _ _ _ _ _ _ (rIxT K) ix_tup (pv 0) pe_int (fun _ _ => rfl)) pe_str (nomark _)) (@pss_one _ _ _ (@ps_ret _ _ _ _ (pe_make (T.mkT .minus) (GT .minus) hr2 rfl T.gI T.bT .nil pass0 (@pa_cons _ _ _ _ _ (pv 1) (@pa_cons _ _ _ _ _ (pv 2) pa_nil (by rfl)) (by rfl))))) pss_nil) (@pss_one _ _ _ (@ps_ret _ _ _ _ (pe_make (T.mkT .times) (GT .times) hr2 rfl T.gX T.bT .nil pass0 (@pa_cons _ _ _ _ _ (pv 1) (@pa_cons _ _ _ _ _ (pv 2) pa_nil (by rfl)) (by rfl))))))))))), ?_⟩
    cases t with
    | num m =>
      obtain ⟨p, rfl, ht⟩ := is_num it
      refine ⟨_, rfl, p, _, _, _, rfl, rfl, ht, atI_nat (j := 0) rfl, rfl, _, rfl, ite2 (fun _ => ?_) (fun c => absurd (decide_eq_true rfl) c)⟩
      refine ⟨_, rfl, p, _, _, _, rfl, rfl, ht, atI_nat (j := 1) rfl, fun x dx hx hd hxd => ?_⟩
      refine ⟨x, dx, _, rfl, upd_same, rfl, q x _ ?_ ⟨x, dx, rfl, upd_same⟩⟩
      intro b u e
      rw [upd_ne (ne_of_none e hx)]
      exact same_made hx hd hxd _ _ b u e
    | nam m =>
      obtain ⟨p, rfl, ht⟩ := is_nam it
      refine ⟨_, rfl, p, _, _, _, rfl, rfl, ht, atI_nat (j := 0) rfl, rfl, _, rfl, ite2 (fun c => absurd (of_decide_eq_true c) (by decide +kernel)) (fun _ => ?_)⟩
      refine ⟨_, rfl, p, _, _, _, rfl, rfl, ht, atI_nat (j := 0) rfl, rfl, _, rfl, ite2 (fun _ => ?_) (fun c => absurd (decide_eq_true rfl) c)⟩
      refine ⟨_, rfl, p, _, _, _, rfl, rfl, ht, atI_nat (j := 1) rfl, fun x dx hx hd hxd => ?_⟩
      refine ⟨x, dx, _, rfl, upd_same, rfl, q x _ ?_ ⟨x, dx, rfl, upd_same⟩⟩
      intro b u e
      rw [upd_ne (ne_of_none e hx)]
      exact same_made hx hd hxd _ _ b u e
    | op g a b =>
      obtain ⟨p, va, vb, rfl, ht, ia, ib⟩ := is_op it
      have hn : max (dp a) (dp b) + 1 < n + 1 := hn
      have n1 : ¬ V.str (sgS g) = V.str "number" := by cases g <;> decide +kernel
      have n2 : ¬ V.str (sgS g) = V.str "name" := by cases g <;> decide +kernel
      refine ⟨_, rfl, p, _, _, _, rfl, rfl, ht, atI_nat (j := 0) rfl, rfl, _, rfl, ite2 (fun c => absurd (of_decide_eq_true c) n1) (fun _ => ?_)⟩
      refine ⟨_, rfl, p, _, _, _, rfl, rfl, ht, atI_nat (j := 0) rfl, rfl, _, rfl, ite2 (fun c => absurd (of_decide_eq_true c) n2) (fun _ => ?_)⟩
      refine ⟨_, rfl, p, _, _, _, rfl, rfl, ht, atI_nat (j := 1) rfl, va, a, rfl, ia, by omega, fun p1 H1 s1 o1 => ?_⟩
      refine ⟨_, rfl, p, _, _, _, rfl, rfl, s1.tup ht, atI_nat (j := 2) rfl, vb, b, rfl, ib.same s1, by omega, fun p2 H2 s2 o2 => ?_⟩
      have ht2 := s2.tup (s1.tup ht)
      have fin : ∀ (x dx : Addr), H2 x = none → H2 dx = none → dx ≠ x → spTwoI (CK (.op g)) [.ref x, .ref p1, .ref p2] (upd (upd H2 dx (.own x)) x (.ins (CK (.op g)) dx [])) (fun v H3 => v = .non ∧ Q (.ref x) H3) E0 := by
        intro x dx hx hd hxd
        refine ⟨x, dx, _, _, rfl, upd_same, fun H3 h3 h4 => ⟨rfl, ?_⟩⟩
        have s3 : Same H2 H3 := by
          intro b' u e
          rw [h4 b' (ne_of_none e hx)]
          exact same_made hx hd hxd _ _ b' u e
        exact q x H3 (s1.trans (s2.trans s3)) ⟨x, dx, _, _, rfl, h3, o1.same (s2.trans s3), o2.same s3⟩
      cases g with
      | plus =>
        refine ⟨_, rfl, p, _, _, _, rfl, rfl, ht2, atI_nat (j := 0) rfl, rfl, _, rfl, ite2 (fun _ => ?_) (fun c => absurd (decide_eq_true rfl) c)⟩
        exact ⟨_, rfl, _, rfl, fin⟩
      | minus =>
        refine ⟨_, rfl, p, _, _, _, rfl, rfl, ht2, atI_nat (j := 0) rfl, rfl, _, rfl, ite2 (fun c => absurd (of_decide_eq_true c) (by decide +kernel)) (fun _ => ?_)⟩
        refine ⟨_, rfl, p, _, _, _, rfl, rfl, ht2, atI_nat (j := 0) rfl, rfl, _, rfl, ite2 (fun _ => ?_) (fun c => absurd (decide_eq_true rfl) c)⟩
        exact ⟨_, rfl, _, rfl, fin⟩
      | times =>
        refine ⟨_, rfl, p, _, _, _, rfl, rfl, ht2, atI_nat (j := 0) rfl, rfl, _, rfl, ite2 (fun c => absurd (of_decide_eq_true c) (by decide +kernel)) (fun _ => ?_)⟩
        refine ⟨_, rfl, p, _, _, _, rfl, rfl, ht2, atI_nat (j := 0) rfl, rfl, _, rfl, ite2 (fun c => absurd (of_decide_eq_true c) (by decide +kernel)) (fun _ => ?_)⟩
        exact ⟨_, rfl, _, rfl, fin⟩
end
end Nw

set_option Elab.async false
set_option linter.all false
set_option maxRecDepth 100000
set_option maxHeartbeats 4000000
namespace Nw
open PySem L2
/-! ### sayings -/
inductive Cm where
  | lt | le | eq | ne
inductive Bn where
  | and | or
inductive Sy where
  | yes | cmp (c : Cm) (l r : Tr) | neg (s : Sy) | bin (b : Bn) (l r : Sy)
def cmS : Cm → Str
  | .lt => "<"
  | .le => "<="
  | .eq => "="
  | .ne => "!="
def bnS : Bn → Str
  | .and => "and"
  | .or => "or"
def syD : Sy → Dt
  | .yes => .tup [.str "yes"]
  | .cmp c l r => .tup [.str (cmS c), trD l, trD r]
  | .neg s => .tup [.str "not", syD s]
  | .bin b l r => .tup [.str (bnS b), syD l, syD r]
def dps : Sy → Nat
  | .yes => 0
  | .cmp _ _ _ => 0
  | .neg s => dps s + 1
  | .bin _ l r => max (dps l) (dps r) + 1
/-- how many sums stand in a saying at most -/
def lvs : Sy → Nat
  | .yes => 0
  | .cmp _ a b => lv a + lv b
  | .neg s => lvs s
  | .bin _ a b => lvs a + lvs b
def FitsS (l : List Str) : Sy → Prop
  | .yes => True
  | .cmp _ a b => Fits l a ∧ Fits l b ∧ lv a ≤ 9 ∧ lv b ≤ 9
  | .neg s => FitsS l s
  | .bin _ a b => FitsS l a ∧ FitsS l b
theorem is_yes {K : PySem.W.Frag} {H : Hp} {v : V} (h : Is K H (syD .yes) v) : ∃ p, v = .ref p ∧ SqT K H p [.str "yes"] := by
  rw [syD, Is] at h
  obtain ⟨p, xs, e, h1, h2⟩ := h
  simp only [Iss, Is] at h2
  obtain ⟨v1, r1, rfl, rfl, rfl⟩ := h2
  exact ⟨p, e, h1⟩
theorem is_cmp {K : PySem.W.Frag} {H : Hp} {g : Cm} {l r : Tr} {v : V} (h : Is K H (syD (.cmp g l r)) v) : ∃ p a b, v = .ref p ∧ SqT K H p [.str (cmS g), a, b] ∧ Is K H (trD l) a ∧ Is K H (trD r) b := by
  rw [syD, Is] at h
  obtain ⟨p, xs, e, h1, h2⟩ := h
  simp only [Iss] at h2
  obtain ⟨v1, r1, rfl, i1, v2, r2, rfl, i2, v3, r3, rfl, i3, rfl⟩ := h2
  rw [Is] at i1
  subst i1
  exact ⟨p, v2, v3, e, h1, i2, i3⟩
theorem is_neg {K : PySem.W.Frag} {H : Hp} {s : Sy} {v : V} (h : Is K H (syD (.neg s)) v) : ∃ p a, v = .ref p ∧ SqT K H p [.str "not", a] ∧ Is K H (syD s) a := by
  rw [syD, Is] at h
  obtain ⟨p, xs, e, h1, h2⟩ := h
  simp only [Iss] at h2
  obtain ⟨v1, r1, rfl, i1, v2, r2, rfl, i2, rfl⟩ := h2
  rw [Is] at i1
  subst i1
  exact ⟨p, v2, e, h1, i2⟩
theorem is_bin {K : PySem.W.Frag} {H : Hp} {g : Bn} {l r : Sy} {v : V} (h : Is K H (syD (.bin g l r)) v) : ∃ p a b, v = .ref p ∧ SqT K H p [.str (bnS g), a, b] ∧ Is K H (syD l) a ∧ Is K H (syD r) b := by
  rw [syD, Is] at h
  obtain ⟨p, xs, e, h1, h2⟩ := h
  simp only [Iss] at h2
  obtain ⟨v1, r1, rfl, i1, v2, r2, rfl, i2, v3, r3, rfl, i3, rfl⟩ := h2
  rw [Is] at i1
  subst i1
  exact ⟨p, v2, v3, e, h1, i2, i3⟩
theorem sy_yes {K : PySem.W.Frag} {H : Hp} {p : Addr} (h : SqT K H p [.str "yes"]) : Is K H (syD .yes) (.ref p) := by
  rw [syD, Is]
  exact ⟨p, _, rfl, h, .cons (by rw [Is]) .nil⟩
theorem sy_cmp {K : PySem.W.Frag} {H : Hp} {p : Addr} {g : Cm} {l r : Tr} {a b : V} (h : SqT K H p [.str (cmS g), a, b]) (h1 : Is K H (trD l) a) (h2 : Is K H (trD r) b) : Is K H (syD (.cmp g l r)) (.ref p) := by
  rw [syD, Is]
  exact ⟨p, _, rfl, h, .cons (by rw [Is]) (.cons h1 (.cons h2 .nil))⟩
theorem sy_neg {K : PySem.W.Frag} {H : Hp} {p : Addr} {s : Sy} {a : V} (h : SqT K H p [.str "not", a]) (h1 : Is K H (syD s) a) : Is K H (syD (.neg s)) (.ref p) := by
  rw [syD, Is]
  exact ⟨p, _, rfl, h, .cons (by rw [Is]) (.cons h1 .nil)⟩
theorem sy_bin {K : PySem.W.Frag} {H : Hp} {p : Addr} {g : Bn} {l r : Sy} {a b : V} (h : SqT K H p [.str (bnS g), a, b]) (h1 : Is K H (syD l) a) (h2 : Is K H (syD r) b) : Is K H (syD (.bin g l r)) (.ref p) := by
  rw [syD, Is]
  exact ⟨p, _, rfl, h, .cons (by rw [Is]) (.cons h1 (.cons h2 .nil))⟩
theorem sy_sb {K : PySem.W.Frag} {a : Addr} {H H' : Hp} {ys : List V} (ha : H a = some (.lst ys)) (s : Sb a H H') : ∀ {t : Sy} {v : V}, Is K H (syD t) v → Is K H' (syD t) v
  | .yes, v, h => by
    obtain ⟨p, rfl, h1⟩ := is_yes h
    exact sy_yes (SqT.sb h1 ha s)
  | .cmp g l r, v, h => by
    obtain ⟨p, x, y, rfl, h1, h2, h3⟩ := is_cmp h
    exact sy_cmp (SqT.sb h1 ha s) (tr_sb ha s h2) (tr_sb ha s h3)
  | .neg t, v, h => by
    obtain ⟨p, x, rfl, h1, h2⟩ := is_neg h
    exact sy_neg (SqT.sb h1 ha s) (sy_sb ha s h2)
  | .bin g l r, v, h => by
    obtain ⟨p, x, y, rfl, h1, h2, h3⟩ := is_bin h
    exact sy_bin (SqT.sb h1 ha s) (sy_sb ha s h2) (sy_sb ha s h3)
theorem cm_at {k : Int} (k0 : 0 ≤ k) (k1 : k < 4) : ∃ g : Cm, atI [V.str "<", V.str "<=", V.str "=", V.str "!="] k = some (.str (cmS g)) := by
  have : k = 0 ∨ k = 1 ∨ k = 2 ∨ k = 3 := by omega
  rcases this with rfl | rfl | rfl | rfl
  · exact ⟨.lt, atI_nat (j := 0) rfl⟩
  · exact ⟨.le, atI_nat (j := 1) rfl⟩
  · exact ⟨.eq, atI_nat (j := 2) rfl⟩
  · exact ⟨.ne, atI_nat (j := 3) rfl⟩
theorem bn_at {k : Int} (k0 : 0 ≤ k) (k1 : k < 2) : ∃ g : Bn, atI [V.str "and", V.str "or"] k = some (.str (bnS g)) := by
  have : k = 0 ∨ k = 1 := by omega
  rcases this with rfl | rfl
  · exact ⟨.and, atI_nat (j := 0) rfl⟩
  · exact ⟨.or, atI_nat (j := 1) rfl⟩
section
variable {P : Program} {w : World} {K : PySem.W.Frag} {mg : Str → Option Value} {base : Heap}
def spSay (K : PySem.W.Frag) (n : Nat) : Sp := fun vs H Q _ => ∃ (a b : Addr) (cs : List Int) (l : List Str), vs = [.ref a, .ref b] ∧ H a = some (.lst (cs.map V.int)) ∧ b ≠ a ∧ PoolAt H b l ∧ 0 < cs.length ∧ cs.length ≤ n ∧ cs.length ≤ 9 ∧
  ∀ (p : Addr) (H' : Hp) (t : Sy) (cs' : List Int), Sb a H H' → H' a = some (.lst (cs'.map V.int)) → Is K H' (syD t) (.ref p) → FitsS l t → cs'.length + dps t < cs.length → 2 * cs'.length + lvs t ≤ 2 * cs.length → Q (.ref p) H'
theorem scSay : FnScope ["_law_cells", "_law_pool_here", "_law_cell", "_law_one", "_law_other"] ["_law_cells", "_law_pool_here"] (defScope sSaying) := ⟨rfl, rfl, rfl, by decide +kernel, rfl, by decide +kernel, by decide +kernel⟩
theorem ok_say {f fS fL : Addr} {fd fdS fdL : FuncData} (B : Bl mg) (F : Fun K "_law_saying" "_law_saying" sSaying f fd) (bY : Binds K fd ["_law_cells", "_law_pool_here"] []) (mY : mg "_law_saying" = some (.ref f))
    (FS : Fun K "_law_sum" "_law_sum" sSum fS fdS) (bS : Binds K fdS ["_law_cells", "_law_pool_here"] []) (mS : mg "_law_sum" = some (.ref fS))
    (FL : Fun K "_law_leaf" "_law_leaf" sLeaf fL fdL) (bL : Binds K fdL ["_law_cell", "_law_pool_here"] []) (mL : mg "_law_leaf" = some (.ref fL)) : ∀ n : Nat, FnOk P w K mg base CX0 (n + 11) f fd ["_law_cells", "_law_pool_here"] (spSay K n)
  | 0 => fn_none fun vs H Q E h => by obtain ⟨a, b, cs, l, _, _, _, _, h1, h2, _⟩ := h; omega
  | n + 1 => by
    have GL : FnOk P w K mg base CX0 1 fL fdL ["_law_cell", "_law_pool_here"] (spLeaf K) := ok_leaf B FL
    have GS : FnOk P w K mg base CX0 10 fS fdS ["_law_cells", "_law_pool_here"] (spSum K 9) := ok_sum B FS bS mS FL bL mL 9
    have GY := ok_say B F bY mY FS bS mS FL bL mL n
    refine F.ok scSay (fun vs H Q E h => ?_) (fun cdv A outer s H vs Q E hr h => ?_)
    · obtain ⟨a, b, cs, l, rfl, _⟩ := h
      rfl
    obtain ⟨a, b, cs, l, rfl, ha, hab, T, h1, h2, h9, q⟩ := h
    have hrL := hr.mono (show 1 ≤ n + 11 by omega)
    have hrS := hr.mono (show 10 ≤ n + 11 by omega)
    have hu := hu60 hr
    refine ⟨_, (@pss_cons _ _ _ _ _ (@ps_set _ _ 2 _ _ _ _ scSay.nd rfl (Or.inl rfl) (pe_bm PySem.F.plainAttrs_list PySem.F.slot_list_pop PySem.F.type_list_pop mt_popAt (pv 0) (@pa_cons _ _ _ _ _ pe_int pa_nil (by rfl))) rfl (Or.inl rfl)) (@pss_cons _ _ _ _ _ (@ps_if _ _ _ _ _ _ _ _ (@pt_cmpR _ _ _ _ _ _ _ _ op_eq (@pe_op _ _ _ _ _ _ _ _ op_mod (pv 2) pe_int) pe_int (nomark _)) (@pss_one _ _ _ (@ps_ret _ _ _ _ (@pe_tup _ _ _ _ _ (@pa_cons _ _ _ _ _ pe_str pa_nil (by rfl))))) pss_nil) (@pss_cons _ _ _ _ _ (@ps_if _ _ _ _ _ _ _ _ (@pt_cut _ _ _ ((@pw_or _ _ _ _ _ _ _ (@pt_cmpR _ _ _ _ _ _ _ _ op_lt (@pe_op _ _ _ _ _ _ _ _ op_mod (pv 2) pe_int) pe_int (nomark _)) (pw_or1 (@pt_cmpR _ _ _ _ _ _ _ _ op_lt (pe_callB call_len_seq (by rfl) B.len PySem.boot_len (@pa_cons _ _ _ _ _ (pv 0) pa_nil (by rfl))) pe_int (nomark _))))).pt) (@pss_cons _ _ _ _ _ (@ps_set _ _ 3 _ _ _ _ scSay.nd rfl (Or.inl rfl) (pe_call GL hrL (by rfl) mL FL.kp bL .nil pass0 (@pa_cons _ _ _ _ _ (@pe_op _ _ _ _ _ _ _ _ op_fdiv (pv 2) pe_int) (@pa_cons _ _ _ _ _ (pv 1) pa_nil (by rfl)) (by rfl))) rfl (Or.inl rfl)) (@pss_cons _ _ _ _ _ (@ps_set _ _ 4 _ _ _ _ scSay.nd rfl (Or.inl rfl) (pe_call GL hrL (by rfl) mL FL.kp bL .nil pass0 (@pa_cons _ _ _ _ _ (@pe_op _ _ _ _ _ _ _ _ op_fdiv (pv 2) pe_int) (@pa_cons _ _ _ _ _ (pv 1) pa_nil (by rfl)) (by rfl))) rfl (Or.inl rfl)) (@pss_cons _ _ _ _ _ (@ps_cut _ _ _ (@ps_if _ _ _ _ _ _ _ _ (@pt_cut _ _ _ ((@pw_and _ _ _ _ _ _ _ (@pt_cmpR _ _ _ _ _ _ _ _ (@op_neD _ hu) (pv 0) (@pe_lst _ _ _ _ pa_nil) (nomark _)) (pw_and1 (@pt_cmpR _ _ _ _ _ _ _ _ op_eq (@pe_op _ _ _ _ _ _ _ _ op_mod (pv 2) pe_int) pe_int (nomark _))))).pt) (@pss_one _ _ _ (@ps_set _ _ 3 _ _ _ _ scSay.nd rfl (Or.inl rfl) (pe_call GS hrS (by rfl) mS FS.kp bS .nil pass0 (@pa_cons _ _ _ _ _ (pv 0) (@pa_cons _ _ _ _ _ (pv 1) pa_nil (by rfl)) (by rfl))) rfl (Or.inl rfl))) pss_nil)) (@pss_cons _ _ _ _ _ (@ps_cut _ _ _ (@ps_if _ _ _ _ _ _ _ _ (@pt_cut _ _ _ ((@pw_and _ _ _ _ _ _ _ (@pt_cmpR _ _ _ _ _ _ _ _ (@op_neD _ hu) (pv 0) (@pe_lst _ _ _ _ pa_nil) (nomark _)) (pw_and1 (@pt_cmpR _ _ _ _ _ _ _ _ op_eq (@pe_op _ _ _ _ _ _ _ _ op_mod (pv 2) pe_int) pe_int (nomark _))))).pt) (@pss_one _ _ _ (@ps_set _ _ 4 _ _ _ _ scSay.nd rfl (Or.inl rfl) (pe_call GS hrS (by rfl) mS FS.kp bS .nil pass0 (@pa_cons _ _ _ _ _ (pv 0) (@pa_cons _ _ _ _ _ (pv 1) pa_nil (by rfl)) (by rfl))) rfl (Or.inl rfl))) pss_nil)) (@pss_one _ _ _ (@ps_ret _ _ _ _ (@pe_tup _ _ _ _ _ (@pa_cons _ _ _ _ _ (@pe_ix _ _ _ _ _ _ (rIxL K) ix_list (@pe_lst _ _ _ _ (@pa_strs _ _ ["<", "<=", "=", "!="] rfl)) (@pe_op _ _ _ _ _ _ _ _ op_mod (@pe_op _ _ _ _ _ _ _ _ op_fdiv (pv 2) pe_int) pe_int) (fun _ _ => rfl)) (@pa_cons _ _ _ _ _ (pv 3) (@pa_cons _ _ _ _ _ (pv 4) pa_nil (by rfl)) (by rfl)) (by rfl))))))))) pss_nil) (@pss_cons _ _ _ _ _ (@ps_if _ _ _ _ _ _ _ _ (@pt_cmpR _ _ _ _ _ _ _ _ op_eq (@pe_op _ _ _ _ _ _ _ _ op_mod (pv 2) pe_int) pe_int (nomark _)) (@pss_one _ _ _ (@ps_ret _ _ _ _ (@pe_tup _ _ _ _ _ (@pa_cons _ _ _ _ _ pe_str (@pa_cons _ _ _ _ _ (pe_call GY hr (by rfl) mY F.kp bY .nil pass0 (@pa_cons _ _ _ _ _ (pv 0) (@pa_cons _ _ _ _ _ (pv 1) pa_nil (by rfl)) (by rfl))) pa_nil (by rfl)) (by rfl))))) pss_nil) (@pss_cons _ _ _ _ _ (@ps_set _ _ 3 _ _ _ _ scSay.nd rfl (Or.inl rfl) (pe_call GY hr (by rfl) mY F.kp bY .nil pass0 (@pa_cons _ _ _ _ _ (pv 0) (@pa_cons _ _ _ _ _ (pv 1) pa_nil (by rfl)) (by rfl))) rfl (Or.inl rfl)) (@pss_cons _ _ _ _ _ (@ps_set _ _ 4 _ _ _ _ scSay.nd rfl (Or.inl rfl) (@pe_tup _ _ _ _ _ (@pa_cons _ _ _ _ _ pe_str pa_nil (by rfl))) rfl (Or.inl rfl)) (@pss_cons _ _ _ _ _ (@ps_cut _ _ _ (@ps_if _ _ _ _ _ _ _ _ (@pt_cmpR _ _ _ _ _ _ _ _ (@op_neD _ hu) (pv 0) (@pe_lst _ _ _ _ pa_nil) (nomark _)) (@pss_one _ _ _ (@ps_set _ _ 4 _ _ _ _ scSay.nd rfl (Or.inl rfl) (pe_call GY hr (by rfl) mY F.kp bY .nil pass0 (@pa_cons _ _ _ _ _ (pv 0) (@pa_cons _ _ _ _ _ (pv 1) pa_nil (by rfl)) (by rfl))) rfl (Or.inl rfl))) pss_nil)) (@pss_one _ _ _ (@ps_ret _ _ _ _ (@pe_tup _ _ _ _ _ (@pa_cons _ _ _ _ _ (@pe_ix _ _ _ _ _ _ (rIxL K) ix_list (@pe_lst _ _ _ _ (@pa_cons _ _ _ _ _ pe_str (@pa_cons _ _ _ _ _ pe_str pa_nil (by rfl)) (by rfl))) (@pe_op _ _ _ _ _ _ _ _ op_sub (@pe_op _ _ _ _ _ _ _ _ op_mod (pv 2) pe_int) pe_int) (fun _ _ => rfl)) (@pa_cons _ _ _ _ _ (pv 3) (@pa_cons _ _ _ _ _ (pv 4) pa_nil (by rfl)) (by rfl)) (by rfl)))))))))))), ?_⟩
    obtain ⟨c, cs, rfl⟩ : ∃ c cs', cs = c :: cs' := by
      cases cs with
      | nil => cases h1
      | cons c cs => exact ⟨c, cs, rfl⟩
    have h2 : cs.length + 1 ≤ n + 1 := h2
    have h9 : cs.length + 1 ≤ 9 := h9
    have ix0 : seqIndex? 0 ((c :: cs).map V.int).length = some 0 := by
      rw [List.length_map, List.length_cons]
      unfold seqIndex?
      have e1 : ((0 : Int) < 0) = False := by simp
      simp only [e1, if_false]
      rw [if_pos]
      · rfl
      · rw [Bool.and_eq_true]
        exact ⟨rfl, decide_eq_true (by omega)⟩
    refine ⟨_, rfl, .inl ⟨rfl, _, SqL.of ha⟩, a, _, (0 : Int), 0, _, rfl, rfl, ha, by decide, by decide, ix0, rfl, ?_⟩
    have s1 : Sb a H (upd H a (.lst (cs.map V.int))) := Sb.upd a H _
    have a1 : upd H a (.lst (cs.map V.int)) a = some (.lst (cs.map V.int)) := upd_same
    have T1 := T.sb hab s1
    have m9 : 0 ≤ c % 9 ∧ c % 9 < 9 := ⟨Int.emod_nonneg _ (by decide), Int.emod_lt_of_pos _ (by decide)⟩
    refine ⟨_, rfl, _, _, rfl, rfl, (by show (0 : Int) < 9; decide), rfl, _, rfl, ite2 (fun g => ?_) (fun g0 => ?_)⟩
    · refine ⟨by show 1 ≤ sizeLine; decide, fun p hp => ?_⟩
      have sp := same_new hp (.tup [V.str "yes"])
      exact q p _ .yes cs (s1.trans (.of sp)) (sp _ _ a1) (sy_yes (SqT.of upd_same)) trivial (Nat.lt_succ_self _) (by show 2 * cs.length + 0 ≤ 2 * (cs.length + 1); omega)
    have ec : (((cs.map V.int).length : Nat) : Int) = (cs.length : Int) := by rw [List.length_map]
    refine ⟨fun b' H' => (b' = true ∨ (b' = false ∧ 6 ≤ c % 9 ∧ 2 ≤ cs.length)) ∧ H' = upd H a (.lst (cs.map V.int)), ?_, ?_⟩
    · refine ⟨_, rfl, _, _, rfl, rfl, (by show (0 : Int) < 9; decide), _, _, rfl, rfl, _, rfl, ite2 (fun _ => ⟨.inl rfl, rfl⟩) (fun g1 => ?_)⟩
      refine ⟨_, rfl, a, _, rfl, .inl (SqL.of a1), _, _, rfl, rfl, _, rfl, ?_, rfl⟩
      have g1' : 6 ≤ c % 9 := by
        have := of_decide_eq_false (Bool.eq_false_iff.mpr g1)
        omega
      rw [ec]
      by_cases g2 : (cs.length : Int) < 2
      · exact .inl (decide_eq_true g2)
      · exact .inr ⟨decide_eq_false g2, g1', by omega⟩
    rintro b' H' ⟨hb, rfl⟩
    refine ite2 (fun g1 => ?_) (fun g1 => ?_)
    · refine ⟨_, rfl, _, _, rfl, rfl, ⟨by decide, by decide⟩, _, rfl, c / 9, b, l, rfl, T1, fun p1 H1 t1 b1 i1 f1 l1 => ?_⟩
      refine ⟨_, rfl, _, _, rfl, rfl, ⟨by decide, by decide⟩, _, rfl, c / 45, b, l, rfl, T1.same b1, fun p2 H2 t2 b2 i2 f2 l2 => ?_⟩
      have b12 := b1.trans b2
      refine ⟨fun σ H' => ∃ (p3 : Addr) (t3 : Tr) (cs3 : List Int), σ = [some (.ref a), some (.ref b), some (.int c), some (.ref p3), some (.ref p2)] ∧ Sb a H H' ∧ H' a = some (.lst (cs3.map V.int)) ∧ Is K H' (trD t3) (.ref p3) ∧ Is K H' (trD t2) (.ref p2) ∧ Fits l t3 ∧ lv t3 ≤ 9 ∧ cs3.length ≤ cs.length ∧ 2 * cs3.length + lv t3 ≤ 2 * cs.length + 1, ?_, ?_⟩
      · refine ⟨fun b' H' => Same H2 H' ∧ (b' = true → 0 < cs.length), ?_, ?_⟩
        · refine ⟨_, rfl, Nat.zero_le _, fun y hy => ⟨_, _, is_ints ((same_new hy _) _ _ (b12 _ _ a1)), is_nil upd_same, rfl, rfl, dep_ints cs, _, rfl, ?_⟩⟩
          rw [dEq_nil]
          refine ite2 (fun g4 => ?_) (fun g4 => ⟨same_new hy _, fun z => nomatch z⟩)
          refine ⟨_, rfl, _, _, rfl, rfl, (by show (0 : Int) < 9; decide), rfl, _, rfl, same_new hy _, fun _ => ?_⟩
          cases cs with
          | nil => cases g4
          | cons _ _ => exact Nat.succ_pos _
        · rintro b' H' ⟨sm, hp⟩
          have bm := b12.trans sm
          refine ite2 (fun g4 => ?_) (fun g4 => ?_)
          · refine ⟨_, rfl, _, rfl, a, b, cs, l, rfl, bm _ _ a1, hab, T1.same bm, hp g4, by omega, fun p3 H3 t3 cs3 b3 c3 i3 f3 l3 => ?_⟩
            exact ⟨p3, t3, cs3, rfl, (s1.trans (.of bm)).trans b3, c3, i3, tr_sb (bm _ _ a1) b3 (i2.same sm), f3, by omega, by omega, by omega⟩
          · exact ⟨p1, t1, cs, rfl, s1.trans (.of bm), bm _ _ a1, i1.same (b2.trans sm), i2.same sm, f1, by omega, Nat.le_refl _, by omega⟩
      rintro σ H3 ⟨p3, t3, cs3, rfl, e1, e2, e3, e4, e5, e6, e7, e8⟩
      have T3 := T.sb hab e1
      refine ⟨fun σ H' => ∃ (p4 : Addr) (t4 : Tr) (cs4 : List Int), σ = [some (.ref a), some (.ref b), some (.int c), some (.ref p3), some (.ref p4)] ∧ Sb a H H' ∧ H' a = some (.lst (cs4.map V.int)) ∧ Is K H' (trD t3) (.ref p3) ∧ Is K H' (trD t4) (.ref p4) ∧ Fits l t4 ∧ lv t4 ≤ 9 ∧ cs4.length ≤ cs.length ∧ 2 * cs4.length + lv t4 ≤ 2 * cs3.length + 1, ?_, ?_⟩
      · refine ⟨fun b' H' => Same H3 H' ∧ (b' = true → 0 < cs3.length), ?_, ?_⟩
        · refine ⟨_, rfl, Nat.zero_le _, fun y hy => ⟨_, _, is_ints ((same_new hy _) _ _ e2), is_nil upd_same, rfl, rfl, dep_ints cs3, _, rfl, ?_⟩⟩
          rw [dEq_nil]
          refine ite2 (fun g4 => ?_) (fun g4 => ⟨same_new hy _, fun z => nomatch z⟩)
          refine ⟨_, rfl, _, _, rfl, rfl, (by show (0 : Int) < 9; decide), rfl, _, rfl, same_new hy _, fun _ => ?_⟩
          cases cs3 with
          | nil => cases g4
          | cons _ _ => exact Nat.succ_pos _
        · rintro b' H' ⟨sm, hp⟩
          refine ite2 (fun g4 => ?_) (fun g4 => ?_)
          · refine ⟨_, rfl, _, rfl, a, b, cs3, l, rfl, sm _ _ e2, hab, T3.same sm, hp g4, by omega, fun p4 H4 t4 cs4 b4 c4 i4 f4 l4 => ?_⟩
            exact ⟨p4, t4, cs4, rfl, (e1.trans (.of sm)).trans b4, c4, tr_sb (sm _ _ e2) b4 (e3.same sm), i4, f4, by omega, by omega, by omega⟩
          · exact ⟨p2, t2, cs3, rfl, e1.trans (.of sm), sm _ _ e2, e3.same sm, e4.same sm, f2, by omega, e7, by omega⟩
      rintro σ H4 ⟨p4, t4, cs4, rfl, g1, g2, g3, g4, g5, g6, g7, g8⟩
      obtain ⟨g, hg⟩ := cm_at (k := c / 9 % 4) (Int.emod_nonneg _ (by decide)) (Int.emod_lt_of_pos _ (by decide))
      refine ⟨by show 4 ≤ sizeLine; decide, fun y hy => ?_⟩
      refine ⟨_, rfl, _, _, rfl, rfl, ⟨by decide, by decide⟩, _, _, rfl, rfl, (by show (0 : Int) < 4; decide), y, _, _, _, rfl, rfl, SqL.of upd_same, hg, _, rfl, _, rfl, by show 3 ≤ sizeLine; decide, fun p hp => ?_⟩
      have sm := (same_new hy (.lst ([("<" : Str), "<=", "=", "!="].map V.str))).trans (same_new hp (.tup [V.str (cmS g), .ref p3, .ref p4]))
      exact q p _ (.cmp g t3 t4) cs4 (g1.trans (.of sm)) (sm _ _ g2) (sy_cmp (SqT.of upd_same) (g3.same sm) (g4.same sm)) ⟨e5, g5, e6, g6⟩ (Nat.lt_succ_of_le g7) (by show 2 * cs4.length + (lv t3 + lv t4) ≤ 2 * (cs.length + 1); omega)
    have hb : 6 ≤ c % 9 ∧ 2 ≤ cs.length := by
      rcases hb with z | z
      · exact absurd z g1
      · exact z.2
    refine ⟨_, rfl, _, _, rfl, rfl, (by show (0 : Int) < 9; decide), rfl, _, rfl, ite2 (fun g => ?_) (fun g8 => ?_)⟩
    · refine ⟨_, rfl, _, rfl, a, b, cs, l, rfl, a1, hab, T1, by omega, by omega, by omega, fun p1 H1 t1 cs1 b1 c1 i1 f1 l1 k1 => ?_⟩
      refine ⟨by show 2 ≤ sizeLine; decide, fun p hp => ?_⟩
      have sp := same_new hp (.tup [V.str "not", .ref p1])
      exact q p _ (.neg t1) cs1 ((s1.trans b1).trans (.of sp)) (sp _ _ c1) (sy_neg (SqT.of upd_same) (i1.same sp)) f1 (by show cs1.length + (dps t1 + 1) < cs.length + 1; omega) (by show 2 * cs1.length + lvs t1 ≤ 2 * (cs.length + 1); omega)
    have n8 : c % 9 ≠ 8 := fun z => g8 (decide_eq_true (show V.int (c % 9) = V.int 8 by rw [z]))
    refine ⟨_, rfl, _, rfl, a, b, cs, l, rfl, a1, hab, T1, by omega, by omega, by omega, fun p1 H1 t1 cs1 b1 c1 i1 f1 l1 k1 => ?_⟩
    have s2 := s1.trans b1
    have T2 := T.sb hab s2
    refine ⟨by show 1 ≤ sizeLine; decide, fun p2 hp2 => ?_⟩
    have b2 := same_new hp2 (.tup [V.str "yes"])
    refine ⟨fun σ H' => ∃ (p3 : Addr) (t3 : Sy) (cs3 : List Int), σ = [some (.ref a), some (.ref b), some (.int c), some (.ref p1), some (.ref p3)] ∧ Sb a H H' ∧ H' a = some (.lst (cs3.map V.int)) ∧ Is K H' (syD t1) (.ref p1) ∧ Is K H' (syD t3) (.ref p3) ∧ FitsS l t3 ∧ cs3.length + max (dps t1) (dps t3) < cs.length ∧ 2 * cs3.length + (lvs t1 + lvs t3) ≤ 2 * cs.length, ?_, ?_⟩
    · refine ⟨_, rfl, Nat.zero_le _, fun y hy => ⟨_, _, is_ints ((same_new hy _) _ _ (b2 _ _ c1)), is_nil upd_same, rfl, rfl, dep_ints cs1, _, rfl, ?_⟩⟩
      have sm := b2.trans (same_new hy (.lst []))
      rw [dEq_nil]
      refine ite2 (fun g4 => ?_) (fun g4 => ?_)
      · have hn1 : 0 < cs1.length := by
          cases cs1 with
          | nil => cases g4
          | cons _ _ => exact Nat.succ_pos _
        refine ⟨_, rfl, _, rfl, a, b, cs1, l, rfl, sm _ _ c1, hab, T2.same sm, hn1, by omega, by omega, fun p3 H3 t3 cs3 b3 c4 i4 f4 l4 k4 => ?_⟩
        exact ⟨p3, t3, cs3, rfl, (s2.trans (.of sm)).trans b3, c4, sy_sb (sm _ _ c1) b3 (i1.same sm), i4, f4, by omega, by omega⟩
      · exact ⟨p2, .yes, cs1, rfl, s2.trans (.of sm), sm _ _ c1, i1.same sm, (sy_yes (SqT.of upd_same)).same (same_new hy _), trivial, by show cs1.length + max (dps t1) 0 < cs.length; omega, by show 2 * cs1.length + (lvs t1 + 0) ≤ 2 * cs.length; omega⟩
    rintro σ H3 ⟨p3, t3, cs3, rfl, e1, e2, e3, e4, e5, e6, e7⟩
    obtain ⟨g, hg⟩ := bn_at (k := c % 9 - 6) (by omega) (by omega)
    refine ⟨by show 2 ≤ sizeLine; decide, fun y hy => ?_⟩
    refine ⟨_, rfl, _, _, rfl, rfl, (by show (0 : Int) < 9; decide), _, _, rfl, rfl, y, _, _, _, rfl, rfl, SqL.of upd_same, hg, _, rfl, _, rfl, by show 3 ≤ sizeLine; decide, fun p hp => ?_⟩
    have sm := (same_new hy (.lst [V.str "and", V.str "or"])).trans (same_new hp (.tup [V.str (bnS g), .ref p1, .ref p3]))
    exact q p _ (.bin g t1 t3) cs3 (e1.trans (.of sm)) (sm _ _ e2) (sy_bin (SqT.of upd_same) (e3.same sm) (e4.same sm)) ⟨f1, e5⟩ (by show cs3.length + (max (dps t1) (dps t3) + 1) < cs.length + 1; omega) (by show 2 * cs3.length + (lvs t1 + lvs t3) ≤ 2 * (cs.length + 1); omega)
end
end Nw

set_option Elab.async false
set_option linter.all false
set_option maxRecDepth 100000
set_option maxHeartbeats 4000000
namespace Nw
open PySem L2
theorem call_isinstT {X : Cx} : CallR X (.builtin "isinstance") (fun xs H Q => ∃ a ys n b, xs = [.ref a, .ty n] ∧ SqT X.K H a ys ∧ PySem.W.kitOne X.K (.type "tuple") (.type n) = some b ∧ Q (.bl b) H) := by
  intro pins s σ H xs us Q I r h
  obtain ⟨a, ys, n, b, rfl, hs, e, q⟩ := h
  obtain ⟨u, w', rfl, ru, rw'⟩ := vals2 r
  cases (show w' = Value.type n from rw')
  cases (show u = Value.ref a from ru)
  obtain ⟨its, _, p, _⟩ := I.tuple hs
  obtain ⟨o, h1, h2, _⟩ := p
  exact PySem.W.kia_one PySem.W.kitx_tuple I.kIn ⟨o, h1, h2⟩ e (fun z => nomatch z) fun tk => ⟨.bl b, H, I.tok tk, rfl, q⟩
/-! ### the text of a saying, its names -/
def txy : Sy → Str
  | .yes => "yes"
  | .cmp c a b => txt a ++ " " ++ cmS c ++ " " ++ txt b
  | .neg s => "[ not " ++ txy s ++ " ]"
  | .bin g a b => "[ " ++ txy a ++ " " ++ bnS g ++ " " ++ txy b ++ " ]"
def nmY : Sy → List Str
  | .yes => []
  | .cmp _ a b => nmT a ++ nmT b
  | .neg s => nmY s
  | .bin _ a b => nmY a ++ nmY b
theorem nmY_len : ∀ t : Sy, (nmY t).length ≤ lvs t
  | .yes => Nat.zero_le _
  | .cmp _ a b => by
    have h1 := nmT_len a
    have h2 := nmT_len b
    show (nmT a ++ nmT b).length ≤ lv a + lv b
    rw [List.length_append]; omega
  | .neg s => nmY_len s
  | .bin _ a b => by
    have h1 := nmY_len a
    have h2 := nmY_len b
    show (nmY a ++ nmY b).length ≤ lvs a + lvs b
    rw [List.length_append]; omega
theorem cm_len (c : Cm) : (cmS c).length ≤ 2 := by cases c <;> decide +kernel
theorem bn_len (c : Bn) : (bnS c).length ≤ 3 := by cases c <;> decide +kernel
theorem sq_len : ("yes" : Str).length = 3 ∧ ("[ not " : Str).length = 6 ∧ (" ]" : Str).length = 2 ∧ ("[ " : Str).length = 2 := by decide +kernel
theorem txy_len {l : List Str} (hl : ∀ x ∈ l, x.length ≤ 30) : ∀ {t : Sy}, FitsS l t → (txy t).length + 20 ≤ 1000 * 2 ^ dps t
  | .yes, _ => by
    show ("yes" : Str).length + 20 ≤ 1000 * 2 ^ 0
    rw [sq_len.1]; decide
  | .cmp c a b, h => by
    obtain ⟨fa, fb, la, lb⟩ : Fits l a ∧ Fits l b ∧ lv a ≤ 9 ∧ lv b ≤ 9 := h
    have i1 := txt_len hl fa
    have i2 := txt_len hl fb
    have c1 := cm_len c
    show (txt a ++ " " ++ cmS c ++ " " ++ txt b : Str).length + 20 ≤ 1000 * 2 ^ 0
    simp only [str_len, sp_len.1]
    omega
  | .neg s, h => by
    have i := txy_len hl (t := s) h
    show ("[ not " ++ txy s ++ " ]" : Str).length + 20 ≤ 1000 * 2 ^ (dps s + 1)
    simp only [str_len, sq_len.2.1, sq_len.2.2.1]
    rw [Nat.pow_succ]
    omega
  | .bin g a b, h => by
    obtain ⟨fa, fb⟩ : FitsS l a ∧ FitsS l b := h
    have i1 := txy_len hl fa
    have i2 := txy_len hl fb
    have c1 := bn_len g
    have p1 := Nat.pow_le_pow_right (n := 2) (by decide) (Nat.le_max_left (dps a) (dps b))
    have p2 := Nat.pow_le_pow_right (n := 2) (by decide) (Nat.le_max_right (dps a) (dps b))
    show ("[ " ++ txy a ++ " " ++ bnS g ++ " " ++ txy b ++ " ]" : Str).length + 20 ≤ 1000 * 2 ^ (max (dps a) (dps b) + 1)
    simp only [str_len, sp_len.1, sq_len.2.2.1, sq_len.2.2.2]
    rw [Nat.pow_succ]
    omega
theorem txy_len' {l : List Str} (hl : ∀ x ∈ l, x.length ≤ 30) {t : Sy} (h : FitsS l t) (hd : dps t < 10) : (txy t).length ≤ 600000 := by
  have h1 := txy_len hl h
  have h2 := Nat.pow_le_pow_right (n := 2) (by decide) (show dps t ≤ 9 by omega)
  have h3 : 2 ^ 9 = 512 := by decide
  omega
theorem big {n : Nat} (h : n ≤ 9000000) : n ≤ sizeLine := by rw [sizeLine_eq]; omega
inductive Zd where
  | s (t : Tr) | y (t : Sy)
def zD : Zd → Dt
  | .s t => trD t
  | .y t => syD t
def zN : Zd → List Str
  | .s t => nmT t
  | .y t => nmY t
def zl : Zd → Nat
  | .s t => lv t
  | .y t => lvs t
def ydp : Sy → Nat
  | .yes => 0
  | .cmp _ a b => max (dp a) (dp b) + 1
  | .neg s => ydp s + 1
  | .bin _ a b => max (ydp a) (ydp b) + 1
def zdp : Zd → Nat
  | .s t => dp t
  | .y t => ydp t
theorem ydp_le {l : List Str} : ∀ {t : Sy}, FitsS l t → ydp t ≤ dps t + 9
  | .yes, _ => Nat.zero_le _
  | .cmp c a b, h => by
    obtain ⟨fa, fb, la, lb⟩ : Fits l a ∧ Fits l b ∧ lv a ≤ 9 ∧ lv b ≤ 9 := h
    have h1 := dp_lt a
    have h2 := dp_lt b
    show max (dp a) (dp b) + 1 ≤ 0 + 9
    omega
  | .neg s, h => by
    have := ydp_le (t := s) h
    show ydp s + 1 ≤ dps s + 1 + 9
    omega
  | .bin g a b, h => by
    obtain ⟨fa, fb⟩ : FitsS l a ∧ FitsS l b := h
    have h1 := ydp_le fa
    have h2 := ydp_le fb
    show max (ydp a) (ydp b) + 1 ≤ max (dps a) (dps b) + 1 + 9
    omega
theorem zN_len (z : Zd) : (zN z).length ≤ zl z := by
  cases z with
  | s t => exact nmT_len t
  | y t => exact nmY_len t
theorem ref_tr {K : PySem.W.Frag} {H : Hp} {t : Tr} {v : V} (h : Is K H (trD t) v) : ∃ q, v = .ref q := by
  cases t with
  | num n => obtain ⟨p, e, _⟩ := is_num h; exact ⟨p, e⟩
  | nam n => obtain ⟨p, e, _⟩ := is_nam h; exact ⟨p, e⟩
  | op g a b => obtain ⟨p, _, _, e, _⟩ := is_op h; exact ⟨p, e⟩
theorem tup_tr {K : PySem.W.Frag} {H : Hp} {t : Tr} {q : Addr} (h : Is K H (trD t) (.ref q)) : ∃ ys, SqT K H q ys := by
  cases t with
  | num n => obtain ⟨p, e, h⟩ := is_num h; cases e; exact ⟨_, h⟩
  | nam n => obtain ⟨p, e, h⟩ := is_nam h; cases e; exact ⟨_, h⟩
  | op g a b => obtain ⟨p, _, _, e, h, _⟩ := is_op h; cases e; exact ⟨_, h⟩
theorem ref_sy {K : PySem.W.Frag} {H : Hp} {t : Sy} {v : V} (h : Is K H (syD t) v) : ∃ q ys, v = .ref q ∧ SqT K H q ys := by
  cases t with
  | yes => obtain ⟨p, e, h⟩ := is_yes h; exact ⟨p, _, e, h⟩
  | cmp g a b => obtain ⟨p, _, _, e, h, _⟩ := is_cmp h; exact ⟨p, _, e, h⟩
  | neg s => obtain ⟨p, _, e, h, _⟩ := is_neg h; exact ⟨p, _, e, h⟩
  | bin g a b => obtain ⟨p, _, _, e, h, _⟩ := is_bin h; exact ⟨p, _, e, h⟩
theorem ref_z {K : PySem.W.Frag} {H : Hp} {z : Zd} {v : V} (h : Is K H (zD z) v) : ∃ q ys, v = .ref q ∧ SqT K H q ys := by
  cases z with
  | s t =>
    obtain ⟨q, rfl⟩ := ref_tr (t := t) h
    obtain ⟨ys, hy⟩ := tup_tr (t := t) h
    exact ⟨q, ys, rfl, hy⟩
  | y t => exact ref_sy h
structure Parts (K : PySem.W.Frag) (H : Hp) (z : Zd) (p : Addr) (tag : Str) (xs : List V) (ls : List (List Str)) : Prop where
  at_ : SqT K H p (.str tag :: xs)
  ne : ¬ V.str tag = V.str "name"
  len : ls.length = xs.length
  few : xs.length ≤ 2
  nms : zN z = ls.flatten
  kid : ∀ (i : Nat) (x : V), xs[i]? = some x → (∃ n, x = .int n ∧ ls[i]? = some []) ∨ ∃ c : Zd, Is K H (zD c) x ∧ ls[i]? = some (zN c) ∧ zdp c < zdp z ∧ zl c ≤ zl z
theorem parts {K : PySem.W.Frag} {H : Hp} : ∀ {z : Zd} {v : V}, Is K H (zD z) v → (∀ x, z ≠ .s (.nam x)) → ∃ p tag xs ls, v = .ref p ∧ Parts K H z p tag xs ls
  | .s (.nam x), v, h, n => absurd rfl (n x)
  | .s (.num m), v, h, n => by
    obtain ⟨p, rfl, ht⟩ := is_num h
    refine ⟨p, _, _, [[]], rfl, ht, by decide +kernel, rfl, by show 1 ≤ 2; decide, rfl, fun i x hx => .inl ?_⟩
    match i, hx with
    | 0, hx => cases hx; exact ⟨m, rfl, rfl⟩
  | .s (.op g a b), v, h, n => by
    obtain ⟨p, va, vb, rfl, ht, ia, ib⟩ := is_op h
    refine ⟨p, _, _, [nmT a, nmT b], rfl, ht, by cases g <;> decide +kernel, rfl, Nat.le_refl _, by show nmT a ++ nmT b = nmT a ++ (nmT b ++ []); rw [List.append_nil], fun i x hx => .inr ?_⟩
    match i, hx with
    | 0, hx => cases hx; exact ⟨.s a, ia, rfl, by show dp a < max (dp a) (dp b) + 1; omega, by show lv a ≤ lv a + lv b; omega⟩
    | 1, hx => cases hx; exact ⟨.s b, ib, rfl, by show dp b < max (dp a) (dp b) + 1; omega, by show lv b ≤ lv a + lv b; omega⟩
  | .y .yes, v, h, n => by
    obtain ⟨p, rfl, ht⟩ := is_yes h
    exact ⟨p, _, [], [], rfl, ht, by decide +kernel, rfl, Nat.zero_le _, rfl, fun i x hx => by simp at hx⟩
  | .y (.cmp g a b), v, h, n => by
    obtain ⟨p, va, vb, rfl, ht, ia, ib⟩ := is_cmp h
    refine ⟨p, _, _, [nmT a, nmT b], rfl, ht, by cases g <;> decide +kernel, rfl, Nat.le_refl _, by show nmT a ++ nmT b = nmT a ++ (nmT b ++ []); rw [List.append_nil], fun i x hx => .inr ?_⟩
    match i, hx with
    | 0, hx => cases hx; exact ⟨.s a, ia, rfl, by show dp a < max (dp a) (dp b) + 1; omega, by show lv a ≤ lv a + lv b; omega⟩
    | 1, hx => cases hx; exact ⟨.s b, ib, rfl, by show dp b < max (dp a) (dp b) + 1; omega, by show lv b ≤ lv a + lv b; omega⟩
  | .y (.neg s), v, h, n => by
    obtain ⟨p, va, rfl, ht, ia⟩ := is_neg h
    refine ⟨p, _, _, [nmY s], rfl, ht, by decide +kernel, rfl, by show 1 ≤ 2; decide, by show nmY s = nmY s ++ []; rw [List.append_nil], fun i x hx => .inr ?_⟩
    match i, hx with
    | 0, hx => cases hx; exact ⟨.y s, ia, rfl, by show ydp s < ydp s + 1; omega, Nat.le_refl _⟩
  | .y (.bin g a b), v, h, n => by
    obtain ⟨p, va, vb, rfl, ht, ia, ib⟩ := is_bin h
    refine ⟨p, _, _, [nmY a, nmY b], rfl, ht, by cases g <;> decide +kernel, rfl, Nat.le_refl _, by show nmY a ++ nmY b = nmY a ++ (nmY b ++ []); rw [List.append_nil], fun i x hx => .inr ?_⟩
    match i, hx with
    | 0, hx => cases hx; exact ⟨.y a, ia, rfl, by show ydp a < max (ydp a) (ydp b) + 1; omega, by show lvs a ≤ lvs a + lvs b; omega⟩
    | 1, hx => cases hx; exact ⟨.y b, ib, rfl, by show ydp b < max (ydp a) (ydp b) + 1; omega, by show lvs b ≤ lvs a + lvs b; omega⟩
theorem cut1 (a : V) (xs : List V) : cutV (a :: xs) (some 1) none = xs := by
  unfold cutV
  have e1 : HT.sIx (a :: xs).length 0 (some 1) = 1 := by
    have := HT.sIx_nat (a :: xs).length 0 1
    rw [List.length_cons] at *
    rw [show (some (1 : Int)) = some ((1 : Nat) : Int) from rfl, this]
    omega
  rw [e1, HT.sIx_none, List.length_cons, Nat.add_sub_cancel]
  show (xs.take xs.length) = xs
  exact List.take_length
theorem take_flat {α : Type} {ls : List (List α)} {i : Nat} {l : List α} (h : ls[i]? = some l) : (ls.take (i + 1)).flatten = (ls.take i).flatten ++ l := by
  rw [List.take_add_one, h, List.flatten_append]
  show _ ++ (l ++ []) = _
  rw [List.append_nil]
section
variable {P : Program} {w : World} {K : PySem.W.Frag} {mg : Str → Option Value} {base : Heap}
def spNm (K : PySem.W.Frag) (n : Nat) : Sp := fun vs H Q _ => ∃ (v : V) (z : Zd), vs = [v] ∧ Is K H (zD z) v ∧ zl z ≤ 60 ∧ zdp z < n ∧ ∀ (p : Addr) (H' : Hp), Same H H' → H p = none → H' p = some (.lst ((zN z).map V.str)) → Q (.ref p) H'
theorem scNm : FnScope ["_law_some", "_law_names_here", "_law_part"] ["_law_some"] (defScope sNm) := ⟨rfl, rfl, rfl, by decide +kernel, rfl, by decide +kernel, by decide +kernel⟩
theorem ok_nm {f : Addr} {fd : FuncData} (B : Bl mg) (F : Fun K "_law_names" "_law_names" sNm f fd) (bT : Binds K fd ["_law_some"] []) (mT : mg "_law_names" = some (.ref f)) : ∀ n : Nat, FnOk P w K mg base CX0 (n + 1) f fd ["_law_some"] (spNm K n)
  | 0 => fn_none fun vs H Q E h => by obtain ⟨v, z, _, _, _, h1, _⟩ := h; omega
  | n + 1 => by
    have GT := ok_nm B F bT mT n
    refine F.ok scNm (fun vs H Q E h => ?_) (fun cdv A outer s H vs Q E hr h => ?_)
    · obtain ⟨v, z, rfl, _⟩ := h
      rfl
    obtain ⟨v, z, rfl, it, l60, hn, q⟩ := h
    refine ⟨_, (@pss_cons _ _ _ _ _ (@ps_if _ _ _ _ _ _ _ _ (@pt_cmpR _ _ _ _ _ _ _ _ op_eq (@pe_ix _ _ _ _ _ _ (rIxT K) ix_tup (pv 0) pe_int (fun _ _ => rfl)) pe_str (nomark _)) (@pss_one _ _ _ (@ps_ret _ _ _ _ (@pe_lst _ _ _ _ (@pa_cons _ _ _ _ _ (@pe_ix _ _ _ _ _ _ (rIxT K) ix_tup (pv 0) pe_int (fun _ _ => rfl)) pa_nil (by rfl))))) pss_nil) (@pss_cons _ _ _ _ _ (@ps_set _ _ 1 _ _ _ _ scNm.nd rfl (Or.inl rfl) (@pe_lst _ _ _ _ pa_nil) rfl (Or.inl rfl)) (@pss_cons _ _ _ _ _ (@ps_for _ _ _ _ _ _ _ _ PassesOwn.never rfl (@pi_tup _ _ _ _ (@pe_slice _ _ _ _ _ _ _ _ _ _ sl_tupA (pv 0) (@po_some _ _ _ pe_int) po_none)) (pg_name (i := 2) scNm.nd rfl (Or.inl rfl)) (@pss_one _ _ _ (@ps_if _ _ _ _ _ _ _ _ (pt_val (pe_callB (CallR.or call_isinst call_isinstT) (by rfl) B.isinstance PyProof.Rows.boot_isinstance (@pa_cons _ _ _ _ _ (pv 2) (@pa_cons _ _ _ _ _ (pe_bltn (v := V.ty "tuple") (by rfl) B.tuple PyProof.Rows.boot_tuple (by rfl)) pa_nil (by rfl)) (by rfl)))) (@pss_one _ _ _ (@ps_set _ _ 1 _ _ _ _ scNm.nd rfl (Or.inl rfl) (@pe_op _ _ _ _ _ _ _ _ op_catL (pv 1) (pe_call GT hr (by rfl) mT F.kp bT .nil pass0 (@pa_cons _ _ _ _ _ (pv 2) pa_nil (by rfl)))) rfl (Or.inl rfl))) pss_nil)) (by intro _; rfl)) (@pss_one _ _ _ (@ps_ret _ _ _ _ (pv 1)))))), ?_⟩
    by_cases hz : ∃ x, z = .s (.nam x)
    · obtain ⟨x, rfl⟩ := hz
      obtain ⟨p, rfl, ht⟩ := is_nam it
      refine ⟨_, rfl, p, _, _, _, rfl, rfl, ht, atI_nat (j := 0) rfl, rfl, _, rfl, ite2 (fun _ => ?_) (fun c => absurd (decide_eq_true rfl) c)⟩
      exact ⟨_, rfl, p, _, _, _, rfl, rfl, ht, atI_nat (j := 1) rfl, by show 1 ≤ sizeLine; decide, fun y hy => q y _ (same_new hy _) hy upd_same⟩
    obtain ⟨p, tag, xs, ls, rfl, R⟩ := parts it (fun x e => hz ⟨x, e⟩)
    refine ⟨_, rfl, p, _, _, _, rfl, rfl, R.at_, atI_nat (j := 0) rfl, rfl, _, rfl, ite2 (fun c => absurd (of_decide_eq_true c) R.ne) (fun _ => ?_)⟩
    refine ⟨Nat.zero_le _, fun p0 h0 => ?_⟩
    have s0 := same_new h0 (.lst [])
    have e0 : upd H p0 (.lst []) p0 = some (.lst (((ls.take 0).flatten).map V.str)) := upd_same
    generalize upd H p0 (.lst []) = H0 at s0 e0 ⊢
    have zle := zN_len z
    have fle : ∀ i, ((ls.take i).flatten).length ≤ zl z := fun i => by
      refine Nat.le_trans ?_ zle
      rw [R.nms, ← List.take_append_drop i ls, List.flatten_append, List.length_append]
      rw [List.take_append_drop]
      exact Nat.le_add_right _ _
    refine ⟨_, rfl, _, rfl, p, _, rfl, s0.tup R.at_, fun pt H1 s1 ht => ?_⟩
    have ecut := cut1 (V.str tag) xs
    rw [ecut] at ht
    have t1 := s0.trans s1
    refine ⟨pt, rfl, ⟨_, ht⟩, for_tup (xs := xs) (fun i σ H2 => ∃ (v2 : Option V) (pi : Addr), σ = [some (.ref p), some (.ref pi), v2] ∧ Same H1 H2 ∧ H pi = none ∧ H2 pi = some (.lst (((ls.take i).flatten).map V.str))) ⟨none, p0, rfl, Same.refl _, h0, s1 _ _ e0⟩ (fun i σ H2 _ ⟨_, _, _, e, _⟩ => e.tup ht) ?_ ?_⟩
    · rintro i x σ H2 hx ⟨v2, pi, rfl, s2, f2, e2⟩
      have t2 := t1.trans s2
      rcases R.kid i x hx with ⟨m, rfl, hl⟩ | ⟨c, ic, hl, dc, lc⟩
      · refine ⟨_, rfl, .inl ⟨_, _, _, _, rfl, TyOf.int _, rfl, _, rfl, iteF ?_⟩⟩
        refine ⟨_, pi, rfl, s2, f2, ?_⟩
        rw [take_flat hl, List.append_nil]; exact e2
      · obtain ⟨qx, ys, rfl, hy⟩ := ref_z (ic.same t2)
        refine ⟨_, rfl, .inr ⟨qx, ys, _, _, rfl, hy, rfl, _, rfl, iteT ?_⟩⟩
        refine ⟨_, rfl, _, rfl, .ref qx, c, rfl, ic.same t2, by omega, by omega, fun pk Hk sk fk ek => ?_⟩
        have k1 := fle i
        have k2 := zN_len c
        refine ⟨pi, pk, _, _, rfl, rfl, SqL.of (sk _ _ e2), SqL.of ek, small9 (by rw [List.length_map, List.length_map]; omega), fun pn hn => ?_⟩
        refine ⟨_, pn, rfl, s2.trans (sk.trans (same_new hn _)), t2.free (sk.free hn), ?_⟩
        rw [upd_same, take_flat hl, List.map_append]
    · rintro σ H2 ⟨v2, pi, rfl, s2, f2, e2⟩
      rw [← R.len, List.take_of_length_le (Nat.le_refl _), ← R.nms] at e2
      exact ⟨_, rfl, q pi H2 (t1.trans s2) f2 e2⟩
end
end Nw

set_option Elab.async false
set_option linter.all false
set_option maxRecDepth 100000
set_option maxHeartbeats 4000000
namespace Nw
open PySem L2
/-! ### the classes of sayings -/
inductive Ks where
  | yes | cmp (c : Cm) | neg | bin (b : Bn)
def ks : Sy → Ks
  | .yes => .yes
  | .cmp c _ _ => .cmp c
  | .neg _ => .neg
  | .bin b _ _ => .bin b
def cyOf (CY CL CA CE CU CB CO CN : Addr) : Ks → Addr
  | .yes => CY
  | .cmp .lt => CL
  | .cmp .le => CA
  | .cmp .eq => CE
  | .cmp .ne => CU
  | .bin .and => CB
  | .bin .or => CO
  | .neg => CN
def oneF (a : V) : List (Str × V) := putF "one" a []
theorem one_at (a : V) : (oneF a).lookup ("one" : Str) = some a := by unfold oneF; rw [lookup_putF, if_pos rfl]
theorem one_s (a : V) : (oneF a).lookup ("shown" : Str) = none := by unfold oneF; rw [lookup_putF, if_neg (by decide +kernel)]; rfl
theorem one_n (a : V) : (oneF a).lookup ("named" : Str) = none := by unfold oneF; rw [lookup_putF, if_neg (by decide +kernel)]; rfl
structure ClsS (K : PySem.W.Frag) (CY : Ks → Addr) : Prop where
  cl : ∀ k, Cls K (CY k)
  c1 : ∀ c, NoAttr K (CY (.cmp c)) "one"
  c2 : ∀ c, NoAttr K (CY (.cmp c)) "other"
  b1 : ∀ c, NoAttr K (CY (.bin c)) "one"
  b2 : ∀ c, NoAttr K (CY (.bin c)) "other"
  n1 : NoAttr K (CY .neg) "one"
def ObjS (CK : Kd → Addr) (CY : Ks → Addr) (H : Hp) : Sy → V → Prop
  | .yes, v => ∃ p dx, v = .ref p ∧ H p = some (.ins (CY .yes) dx [])
  | .cmp c l r, v => ∃ p dx a b, v = .ref p ∧ H p = some (.ins (CY (.cmp c)) dx (twoF a b)) ∧ Obj CK H l a ∧ Obj CK H r b
  | .neg s, v => ∃ p dx a, v = .ref p ∧ H p = some (.ins (CY .neg) dx (oneF a)) ∧ ObjS CK CY H s a
  | .bin g l r, v => ∃ p dx a b, v = .ref p ∧ H p = some (.ins (CY (.bin g)) dx (twoF a b)) ∧ ObjS CK CY H l a ∧ ObjS CK CY H r b
theorem ObjS.same {CK : Kd → Addr} {CY : Ks → Addr} {H H' : Hp} (s : Same H H') : ∀ {t : Sy} {v : V}, ObjS CK CY H t v → ObjS CK CY H' t v
  | .yes, v, h => by
    obtain ⟨p, dx, e, h⟩ := h
    exact ⟨p, dx, e, s _ _ h⟩
  | .cmp c l r, v, h => by
    obtain ⟨p, dx, a, b, e, h, h1, h2⟩ := h
    exact ⟨p, dx, a, b, e, s _ _ h, h1.same s, h2.same s⟩
  | .neg t, v, h => by
    obtain ⟨p, dx, a, e, h, h1⟩ := h
    exact ⟨p, dx, a, e, s _ _ h, h1.same s⟩
  | .bin g l r, v, h => by
    obtain ⟨p, dx, a, b, e, h, h1, h2⟩ := h
    exact ⟨p, dx, a, b, e, s _ _ h, h1.same s, h2.same s⟩
theorem ObjS.at_ {CK : Kd → Addr} {CY : Ks → Addr} {H : Hp} : ∀ {t : Sy} {v : V}, ObjS CK CY H t v → ∃ p dx fs, v = .ref p ∧ H p = some (.ins (CY (ks t)) dx fs) ∧ fs.lookup ("shown" : Str) = none ∧ fs.lookup ("named" : Str) = none
  | .yes, v, h => by
    obtain ⟨p, dx, e, h⟩ := h
    exact ⟨p, dx, _, e, h, rfl, rfl⟩
  | .cmp c l r, v, h => by
    obtain ⟨p, dx, a, b, e, h, h1, h2⟩ := h
    exact ⟨p, dx, _, e, h, two_s _ _, two_n _ _⟩
  | .neg t, v, h => by
    obtain ⟨p, dx, a, e, h, h1⟩ := h
    exact ⟨p, dx, _, e, h, one_s _, one_n _⟩
  | .bin g l r, v, h => by
    obtain ⟨p, dx, a, b, e, h, h1, h2⟩ := h
    exact ⟨p, dx, _, e, h, two_s _ _, two_n _ _⟩
section
variable {P : Program} {w : World} {K : PySem.W.Frag} {mg : Str → Option Value} {base : Heap} {CK : Kd → Addr} {CY : Ks → Addr}
/-! ### shown -/
def spYS (CK : Kd → Addr) (CY : Ks → Addr) (n : Nat) (k : Ks) : Sp := fun vs H Q _ => ∃ (v : V) (t : Sy) (l : List Str), vs = [v] ∧ ks t = k ∧ ObjS CK CY H t v ∧ (∀ x ∈ l, x.length ≤ 30) ∧ FitsS l t ∧ dps t < n ∧ dps t < 10 ∧ ∀ H', Same H H' → Q (.str (txy t)) H'
theorem spYS_none (k : Ks) : ∀ vs H Q E, ¬ spYS CK CY 0 k vs H Q E := fun vs H Q E h => by
  obtain ⟨v, t, l, _, _, _, _, _, h1, _⟩ := h
  omega
theorem ObjS.shownBy {H : Hp} {t : Sy} {v : V} {l : List Str} {n r : Nat} (W : ∀ k, MOk P w K mg base r (CY k) "shown" (spYS CK CY n k)) (ob : ObjS CK CY H t v) (hl : ∀ x ∈ l, x.length ≤ 30) (ft : FitsS l t) (hd : dps t < n) (h10 : dps t < 10) : ShownBy P w K mg base r H v (txy t) := by
  obtain ⟨p, dx, fs, rfl, hp, ls, _⟩ := ob.at_
  exact ⟨p, _, dx, fs, _, rfl, hp, ls, W _, fun H' Q s k => ⟨.ref p, t, l, rfl, rfl, ob.same s, hl, ft, hd, h10, k⟩⟩
theorem scSayS : FnScope ["self"] ["self"] (defScope sSayS) := ⟨rfl, rfl, rfl, by decide +kernel, rfl, by decide +kernel, by decide +kernel⟩
theorem ok_sayS {f : Addr} {fd : FuncData} (F : Fun K "shown" "Saying.shown" sSayS f fd) (n : Nat) : FnOk P w K mg base CX0 1 f fd ["self"] (spYS CK CY n .yes) := by
  refine F.ok scSayS (fun vs H Q E h => ?_) (fun cdv A outer s H vs Q E hr h => ?_)
  · obtain ⟨v, t, l, rfl, _⟩ := h
    rfl
  obtain ⟨v, t, l, rfl, kt, ob, hl, ft, hn, h10, q⟩ := h
  refine ⟨_, (@pss_one _ _ _ (@ps_ret _ _ _ _ pe_str)), ?_⟩
  cases t with
  | yes => exact q _ (Same.refl _)
  | _ => cases kt
theorem scLesS : FnScope ["self"] ["self"] (defScope sLesS) := ⟨rfl, rfl, rfl, by decide +kernel, rfl, by decide +kernel, by decide +kernel⟩
theorem ok_lesS {f fB : Addr} {fd dB : FuncData} (c : ClsS K CY) (F : Fun K "shown" "Less.shown" sLesS f fd) (FB : Fun K "compared" "compared" sCmp fB dB) (bB : Binds K dB ["one", "sign", "other"] []) (mB : mg "compared" = some (.ref fB)) (W : ∀ k, MOk P w K mg base 19 (CK k) "shown" (spS CK 9 k)) (n : Nat) : FnOk P w K mg base CX0 21 f fd ["self"] (spYS CK CY n (.cmp .lt)) := by
  have GB : FnOk P w K mg base CX0 20 fB dB ["one", "sign", "other"] (spCmp P w K mg base 19) := ok_cmp FB
  refine F.ok scLesS (fun vs H Q E h => ?_) (fun cdv A outer s H vs Q E hr h => ?_)
  · obtain ⟨v, t, l, rfl, _⟩ := h
    rfl
  obtain ⟨v, t, l, rfl, kt, ob, hl, ft, hn, h10, q⟩ := h
  refine ⟨_, (@pss_one _ _ _ (@ps_ret _ _ _ _ (pe_call GB hr (by rfl) mB FB.kp bB .nil pass0 (@pa_cons _ _ _ _ _ (@pe_fld _ _ _ _ _ (pv 0) rfl) (@pa_cons _ _ _ _ _ pe_str (@pa_cons _ _ _ _ _ (@pe_fld _ _ _ _ _ (pv 0) rfl) pa_nil (by rfl)) (by rfl)) (by rfl))))), ?_⟩
  cases t with
  | cmp g a b =>
    cases kt
    obtain ⟨p, dx, va, vb, rfl, hp, oa, ob⟩ := ob
    obtain ⟨fa, fb, la, lb⟩ : Fits l a ∧ Fits l b ∧ lv a ≤ 9 ∧ lv b ≤ 9 := ft
    have da := dp_lt a
    have db := dp_lt b
    have i1 := txt_len hl fa
    have i2 := txt_len hl fb
    have s1 := cm_len .lt
    refine ⟨_, rfl, p, _, dx, _, _, rfl, hp, c.cl _, c.c1 _, two_one _ _, _, rfl, p, _, dx, _, _, rfl, hp, c.cl _, c.c2 _, two_oth _ _, ?_⟩
    exact ⟨va, vb, txt a, cmS .lt, txt b, rfl, oa.shownBy W hl fa (by omega) (by omega), ob.shownBy W hl fb (by omega) (by omega), by omega, q⟩
  | _ => cases kt
theorem scAtmS : FnScope ["self"] ["self"] (defScope sAtmS) := ⟨rfl, rfl, rfl, by decide +kernel, rfl, by decide +kernel, by decide +kernel⟩
theorem ok_atmS {f fB : Addr} {fd dB : FuncData} (c : ClsS K CY) (F : Fun K "shown" "AtMost.shown" sAtmS f fd) (FB : Fun K "compared" "compared" sCmp fB dB) (bB : Binds K dB ["one", "sign", "other"] []) (mB : mg "compared" = some (.ref fB)) (W : ∀ k, MOk P w K mg base 19 (CK k) "shown" (spS CK 9 k)) (n : Nat) : FnOk P w K mg base CX0 21 f fd ["self"] (spYS CK CY n (.cmp .le)) := by
  have GB : FnOk P w K mg base CX0 20 fB dB ["one", "sign", "other"] (spCmp P w K mg base 19) := ok_cmp FB
  refine F.ok scAtmS (fun vs H Q E h => ?_) (fun cdv A outer s H vs Q E hr h => ?_)
  · obtain ⟨v, t, l, rfl, _⟩ := h
    rfl
  obtain ⟨v, t, l, rfl, kt, ob, hl, ft, hn, h10, q⟩ := h
  refine ⟨_, (@pss_one _ _ _ (@ps_ret _ _ _ _ (pe_call GB hr (by rfl) mB FB.kp bB .nil pass0 (@pa_cons _ _ _ _ _ (@pe_fld _ _ _ _ _ (pv 0) rfl) (@pa_cons _ _ _ _ _ pe_str (@pa_cons _ _ _ _ _ (@pe_fld _ _ _ _ _ (pv 0) rfl) pa_nil (by rfl)) (by rfl)) (by rfl))))), ?_⟩
  cases t with
  | cmp g a b =>
    cases kt
    obtain ⟨p, dx, va, vb, rfl, hp, oa, ob⟩ := ob
    obtain ⟨fa, fb, la, lb⟩ : Fits l a ∧ Fits l b ∧ lv a ≤ 9 ∧ lv b ≤ 9 := ft
    have da := dp_lt a
    have db := dp_lt b
    have i1 := txt_len hl fa
    have i2 := txt_len hl fb
    have s1 := cm_len .le
    refine ⟨_, rfl, p, _, dx, _, _, rfl, hp, c.cl _, c.c1 _, two_one _ _, _, rfl, p, _, dx, _, _, rfl, hp, c.cl _, c.c2 _, two_oth _ _, ?_⟩
    exact ⟨va, vb, txt a, cmS .le, txt b, rfl, oa.shownBy W hl fa (by omega) (by omega), ob.shownBy W hl fb (by omega) (by omega), by omega, q⟩
  | _ => cases kt
theorem scEquS : FnScope ["self"] ["self"] (defScope sEquS) := ⟨rfl, rfl, rfl, by decide +kernel, rfl, by decide +kernel, by decide +kernel⟩
theorem ok_equS {f fB : Addr} {fd dB : FuncData} (c : ClsS K CY) (F : Fun K "shown" "Equal.shown" sEquS f fd) (FB : Fun K "compared" "compared" sCmp fB dB) (bB : Binds K dB ["one", "sign", "other"] []) (mB : mg "compared" = some (.ref fB)) (W : ∀ k, MOk P w K mg base 19 (CK k) "shown" (spS CK 9 k)) (n : Nat) : FnOk P w K mg base CX0 21 f fd ["self"] (spYS CK CY n (.cmp .eq)) := by
  have GB : FnOk P w K mg base CX0 20 fB dB ["one", "sign", "other"] (spCmp P w K mg base 19) := ok_cmp FB
  refine F.ok scEquS (fun vs H Q E h => ?_) (fun cdv A outer s H vs Q E hr h => ?_)
  · obtain ⟨v, t, l, rfl, _⟩ := h
    rfl
  obtain ⟨v, t, l, rfl, kt, ob, hl, ft, hn, h10, q⟩ := h
  refine ⟨_, (@pss_one _ _ _ (@ps_ret _ _ _ _ (pe_call GB hr (by rfl) mB FB.kp bB .nil pass0 (@pa_cons _ _ _ _ _ (@pe_fld _ _ _ _ _ (pv 0) rfl) (@pa_cons _ _ _ _ _ pe_str (@pa_cons _ _ _ _ _ (@pe_fld _ _ _ _ _ (pv 0) rfl) pa_nil (by rfl)) (by rfl)) (by rfl))))), ?_⟩
  cases t with
  | cmp g a b =>
    cases kt
    obtain ⟨p, dx, va, vb, rfl, hp, oa, ob⟩ := ob
    obtain ⟨fa, fb, la, lb⟩ : Fits l a ∧ Fits l b ∧ lv a ≤ 9 ∧ lv b ≤ 9 := ft
    have da := dp_lt a
    have db := dp_lt b
    have i1 := txt_len hl fa
    have i2 := txt_len hl fb
    have s1 := cm_len .eq
    refine ⟨_, rfl, p, _, dx, _, _, rfl, hp, c.cl _, c.c1 _, two_one _ _, _, rfl, p, _, dx, _, _, rfl, hp, c.cl _, c.c2 _, two_oth _ _, ?_⟩
    exact ⟨va, vb, txt a, cmS .eq, txt b, rfl, oa.shownBy W hl fa (by omega) (by omega), ob.shownBy W hl fb (by omega) (by omega), by omega, q⟩
  | _ => cases kt
theorem scUnlS : FnScope ["self"] ["self"] (defScope sUnlS) := ⟨rfl, rfl, rfl, by decide +kernel, rfl, by decide +kernel, by decide +kernel⟩
theorem ok_unlS {f fB : Addr} {fd dB : FuncData} (c : ClsS K CY) (F : Fun K "shown" "Unlike.shown" sUnlS f fd) (FB : Fun K "compared" "compared" sCmp fB dB) (bB : Binds K dB ["one", "sign", "other"] []) (mB : mg "compared" = some (.ref fB)) (W : ∀ k, MOk P w K mg base 19 (CK k) "shown" (spS CK 9 k)) (n : Nat) : FnOk P w K mg base CX0 21 f fd ["self"] (spYS CK CY n (.cmp .ne)) := by
  have GB : FnOk P w K mg base CX0 20 fB dB ["one", "sign", "other"] (spCmp P w K mg base 19) := ok_cmp FB
  refine F.ok scUnlS (fun vs H Q E h => ?_) (fun cdv A outer s H vs Q E hr h => ?_)
  · obtain ⟨v, t, l, rfl, _⟩ := h
    rfl
  obtain ⟨v, t, l, rfl, kt, ob, hl, ft, hn, h10, q⟩ := h
  refine ⟨_, (@pss_one _ _ _ (@ps_ret _ _ _ _ (pe_call GB hr (by rfl) mB FB.kp bB .nil pass0 (@pa_cons _ _ _ _ _ (@pe_fld _ _ _ _ _ (pv 0) rfl) (@pa_cons _ _ _ _ _ pe_str (@pa_cons _ _ _ _ _ (@pe_fld _ _ _ _ _ (pv 0) rfl) pa_nil (by rfl)) (by rfl)) (by rfl))))), ?_⟩
  cases t with
  | cmp g a b =>
    cases kt
    obtain ⟨p, dx, va, vb, rfl, hp, oa, ob⟩ := ob
    obtain ⟨fa, fb, la, lb⟩ : Fits l a ∧ Fits l b ∧ lv a ≤ 9 ∧ lv b ≤ 9 := ft
    have da := dp_lt a
    have db := dp_lt b
    have i1 := txt_len hl fa
    have i2 := txt_len hl fb
    have s1 := cm_len .ne
    refine ⟨_, rfl, p, _, dx, _, _, rfl, hp, c.cl _, c.c1 _, two_one _ _, _, rfl, p, _, dx, _, _, rfl, hp, c.cl _, c.c2 _, two_oth _ _, ?_⟩
    exact ⟨va, vb, txt a, cmS .ne, txt b, rfl, oa.shownBy W hl fa (by omega) (by omega), ob.shownBy W hl fb (by omega) (by omega), by omega, q⟩
  | _ => cases kt
theorem scBotS : FnScope ["self"] ["self"] (defScope sBotS) := ⟨rfl, rfl, rfl, by decide +kernel, rfl, by decide +kernel, by decide +kernel⟩
theorem ok_botS {f fB : Addr} {fd dB : FuncData} (c : ClsS K CY) (F : Fun K "shown" "Both.shown" sBotS f fd) (FB : Fun K "bracketed" "bracketed" sBrs fB dB) (bB : Binds K dB ["one", "word", "other"] []) (mB : mg "bracketed_sayings" = some (.ref fB)) (n : Nat) (W : ∀ k, MOk P w K mg base (2 * n + 21) (CY k) "shown" (spYS CK CY n k)) : FnOk P w K mg base CX0 (2 * (n + 1) + 21) f fd ["self"] (spYS CK CY (n + 1) (.bin .and)) := by
  have GB : FnOk P w K mg base CX0 (2 * n + 22) fB dB ["one", "word", "other"] (spBra P w K mg base (2 * n + 21) "[ " " ]") := ok_brs FB
  refine F.ok scBotS (fun vs H Q E h => ?_) (fun cdv A outer s H vs Q E hr h => ?_)
  · obtain ⟨v, t, l, rfl, _⟩ := h
    rfl
  obtain ⟨v, t, l, rfl, kt, ob, hl, ft, hn, h10, q⟩ := h
  have hrB := hr.mono (show 2 * n + 22 ≤ 2 * (n + 1) + 20 by omega)
  refine ⟨_, (@pss_one _ _ _ (@ps_ret _ _ _ _ (pe_call GB hrB (by rfl) mB FB.kp bB .nil pass0 (@pa_cons _ _ _ _ _ (@pe_fld _ _ _ _ _ (pv 0) rfl) (@pa_cons _ _ _ _ _ pe_str (@pa_cons _ _ _ _ _ (@pe_fld _ _ _ _ _ (pv 0) rfl) pa_nil (by rfl)) (by rfl)) (by rfl))))), ?_⟩
  cases t with
  | bin g a b =>
    cases kt
    obtain ⟨p, dx, va, vb, rfl, hp, oa, ob⟩ := ob
    obtain ⟨fa, fb⟩ : FitsS l a ∧ FitsS l b := ft
    have hn : max (dps a) (dps b) + 1 < n + 1 := hn
    have h10 : max (dps a) (dps b) + 1 < 10 := h10
    have i1 := txy_len' hl fa (by omega)
    have i2 := txy_len' hl fb (by omega)
    have s1 := bn_len .and
    refine ⟨_, rfl, p, _, dx, _, _, rfl, hp, c.cl _, c.b1 _, two_one _ _, _, rfl, p, _, dx, _, _, rfl, hp, c.cl _, c.b2 _, two_oth _ _, ?_⟩
    exact ⟨va, vb, txy a, bnS .and, txy b, rfl, oa.shownBy W hl fa (by omega) (by omega), ob.shownBy W hl fb (by omega) (by omega), by omega, q⟩
  | _ => cases kt
theorem scEitS : FnScope ["self"] ["self"] (defScope sEitS) := ⟨rfl, rfl, rfl, by decide +kernel, rfl, by decide +kernel, by decide +kernel⟩
theorem ok_eitS {f fB : Addr} {fd dB : FuncData} (c : ClsS K CY) (F : Fun K "shown" "Either.shown" sEitS f fd) (FB : Fun K "bracketed" "bracketed" sBrs fB dB) (bB : Binds K dB ["one", "word", "other"] []) (mB : mg "bracketed_sayings" = some (.ref fB)) (n : Nat) (W : ∀ k, MOk P w K mg base (2 * n + 21) (CY k) "shown" (spYS CK CY n k)) : FnOk P w K mg base CX0 (2 * (n + 1) + 21) f fd ["self"] (spYS CK CY (n + 1) (.bin .or)) := by
  have GB : FnOk P w K mg base CX0 (2 * n + 22) fB dB ["one", "word", "other"] (spBra P w K mg base (2 * n + 21) "[ " " ]") := ok_brs FB
  refine F.ok scEitS (fun vs H Q E h => ?_) (fun cdv A outer s H vs Q E hr h => ?_)
  · obtain ⟨v, t, l, rfl, _⟩ := h
    rfl
  obtain ⟨v, t, l, rfl, kt, ob, hl, ft, hn, h10, q⟩ := h
  have hrB := hr.mono (show 2 * n + 22 ≤ 2 * (n + 1) + 20 by omega)
  refine ⟨_, (@pss_one _ _ _ (@ps_ret _ _ _ _ (pe_call GB hrB (by rfl) mB FB.kp bB .nil pass0 (@pa_cons _ _ _ _ _ (@pe_fld _ _ _ _ _ (pv 0) rfl) (@pa_cons _ _ _ _ _ pe_str (@pa_cons _ _ _ _ _ (@pe_fld _ _ _ _ _ (pv 0) rfl) pa_nil (by rfl)) (by rfl)) (by rfl))))), ?_⟩
  cases t with
  | bin g a b =>
    cases kt
    obtain ⟨p, dx, va, vb, rfl, hp, oa, ob⟩ := ob
    obtain ⟨fa, fb⟩ : FitsS l a ∧ FitsS l b := ft
    have hn : max (dps a) (dps b) + 1 < n + 1 := hn
    have h10 : max (dps a) (dps b) + 1 < 10 := h10
    have i1 := txy_len' hl fa (by omega)
    have i2 := txy_len' hl fb (by omega)
    have s1 := bn_len .or
    refine ⟨_, rfl, p, _, dx, _, _, rfl, hp, c.cl _, c.b1 _, two_one _ _, _, rfl, p, _, dx, _, _, rfl, hp, c.cl _, c.b2 _, two_oth _ _, ?_⟩
    exact ⟨va, vb, txy a, bnS .or, txy b, rfl, oa.shownBy W hl fa (by omega) (by omega), ob.shownBy W hl fb (by omega) (by omega), by omega, q⟩
  | _ => cases kt
theorem scNotS : FnScope ["self"] ["self"] (defScope sNotS) := ⟨rfl, rfl, rfl, by decide +kernel, rfl, by decide +kernel, by decide +kernel⟩
theorem ok_notS {f : Addr} {fd : FuncData} (c : ClsS K CY) (F : Fun K "shown" "Not.shown" sNotS f fd) (n : Nat) (W : ∀ k, MOk P w K mg base (2 * n + 21) (CY k) "shown" (spYS CK CY n k)) : FnOk P w K mg base CX0 (2 * n + 22) f fd ["self"] (spYS CK CY (n + 1) .neg) := by
  refine F.ok scNotS (fun vs H Q E h => ?_) (fun cdv A outer s H vs Q E hr h => ?_)
  · obtain ⟨v, t, l, rfl, _⟩ := h
    rfl
  obtain ⟨v, t, l, rfl, kt, ob, hl, ft, hn, h10, q⟩ := h
  refine ⟨_, (@pss_one _ _ _ (@ps_ret _ _ _ _ (pe_bm (r := rJoin K) PySem.F.plainAttrs_str PySem.F.slot_str_join PySem.F.type_str_join mt_join pe_str (@pa_cons _ _ _ _ _ (@pe_lst _ _ _ _ (@pa_cons _ _ _ _ _ pe_str (@pa_cons _ _ _ _ _ pe_str (@pa_cons _ _ _ _ _ (pe_methP0 (@pe_fld _ _ _ _ _ (pv 0) rfl) hr) (@pa_cons _ _ _ _ _ pe_str pa_nil (by rfl)) (by rfl)) (by rfl)) (by rfl))) pa_nil (by rfl))))), ?_⟩
  cases t with
  | neg t =>
    obtain ⟨p, dx, va, rfl, hp, oa⟩ := ob
    have hn : dps t + 1 < n + 1 := hn
    have h10 : dps t + 1 < 10 := h10
    have i1 := txy_len' hl (t := t) ft (by omega)
    obtain ⟨pa, dxa, fsa, rfl, ha, la, _⟩ := oa.at_
    refine ⟨rfl, _, rfl, p, _, dx, _, _, rfl, hp, c.cl _, c.n1, one_at _, pa, _, dxa, fsa, _, rfl, ha, la, W _, .ref pa, t, l, rfl, rfl, oa, hl, ft, by omega, by omega, fun H1 t1 => ?_⟩
    refine ⟨by show 4 ≤ sizeLine; decide, fun z hz => ⟨_, z, ["[", "not", txy t, "]"], rfl, rfl, SqL.of upd_same, ?_, ?_⟩⟩
    · have e1 : ("[" : Str).length = 1 := by decide +kernel
      have e2 : ("]" : Str).length = 1 := by decide +kernel
      have e4 : ("not" : Str).length = 3 := by decide +kernel
      have e3 := sp_len.1
      simp only [List.map_cons, List.map_nil, List.sum_cons, List.sum_nil, List.length_cons, List.length_nil, e1, e2, e3, e4]
      omega
    · rw [join4]
      exact q _ (t1.trans (same_new hz _))
  | _ => cases kt
/-! ### named -/
def spYN (CK : Kd → Addr) (CY : Ks → Addr) (n : Nat) (k : Ks) : Sp := fun vs H Q _ => ∃ (v : V) (t : Sy) (l : List Str), vs = [v] ∧ ks t = k ∧ ObjS CK CY H t v ∧ FitsS l t ∧ lvs t ≤ 60 ∧ dps t < n ∧ ∀ (p : Addr) (H' : Hp) (out : List Str), Same H H' → H p = none → IsNorm (nmY t) out → H' p = some (.lst (out.map V.str)) → Q (.ref p) H'
theorem spYN_none (k : Ks) : ∀ vs H Q E, ¬ spYN CK CY 0 k vs H Q E := fun vs H Q E h => by
  obtain ⟨v, t, l, _, _, _, _, _, h1, _⟩ := h
  omega
theorem ObjS.namedBy {H : Hp} {t : Sy} {v : V} {l : List Str} {n r : Nat} (W : ∀ k, MOk P w K mg base r (CY k) "named" (spYN CK CY n k)) (ob : ObjS CK CY H t v) (ft : FitsS l t) (hv : lvs t ≤ 60) (hd : dps t < n) : NamedBy P w K mg base r H v (nmY t) := by
  obtain ⟨p, dx, fs, rfl, hp, _, ls⟩ := ob.at_
  exact ⟨p, _, dx, fs, _, rfl, hp, ls, W _, fun H' Q s k => ⟨.ref p, t, l, rfl, rfl, ob.same s, ft, hv, hd, k⟩⟩
theorem scSayN : FnScope ["self"] ["self"] (defScope sSayN) := ⟨rfl, rfl, rfl, by decide +kernel, rfl, by decide +kernel, by decide +kernel⟩
theorem ok_sayN {f : Addr} {fd : FuncData} (F : Fun K "named" "Saying.named" sSayN f fd) (n : Nat) : FnOk P w K mg base CX0 1 f fd ["self"] (spYN CK CY n .yes) := by
  refine F.ok scSayN (fun vs H Q E h => ?_) (fun cdv A outer s H vs Q E hr h => ?_)
  · obtain ⟨v, t, l, rfl, _⟩ := h
    rfl
  obtain ⟨v, t, l, rfl, kt, ob, ft, hv, hn, q⟩ := h
  refine ⟨_, (@pss_one _ _ _ (@ps_ret _ _ _ _ (@pe_lst _ _ _ _ pa_nil))), ?_⟩
  cases t with
  | yes => exact ⟨Nat.zero_le _, fun z hz => q z _ [] (same_new hz _) hz IsNorm.nil upd_same⟩
  | _ => cases kt
theorem scPaiN : FnScope ["self"] ["self"] (defScope sPaiN) := ⟨rfl, rfl, rfl, by decide +kernel, rfl, by decide +kernel, by decide +kernel⟩
theorem ok_cmpN {f fB : Addr} {fd dB : FuncData} (B : Bl mg) (c : ClsS K CY) (F : Fun K "named" "Pairing.named" sPaiN f fd) (FB : Fun K "names_of_two" "names_of_two" sTwoO fB dB) (bB : Binds K dB ["one", "other"] []) (mB : mg "names_of_two" = some (.ref fB)) (W : ∀ k, MOk P w K mg base 19 (CK k) "named" (spN CK 9 k)) (n : Nat) (g : Cm) : FnOk P w K mg base CX0 21 f fd ["self"] (spYN CK CY n (.cmp g)) := by
  have GB : FnOk P w K mg base CX0 20 fB dB ["one", "other"] (spTwo P w K mg base 19) := ok_twoO B FB
  refine F.ok scPaiN (fun vs H Q E h => ?_) (fun cdv A outer s H vs Q E hr h => ?_)
  · obtain ⟨v, t, l, rfl, _⟩ := h
    rfl
  obtain ⟨v, t, l, rfl, kt, ob, ft, hv, hn, q⟩ := h
  have hrB := hr
  refine ⟨_, (@pss_one _ _ _ (@ps_ret _ _ _ _ (pe_call GB hrB (by rfl) mB FB.kp bB .nil pass0 (@pa_cons _ _ _ _ _ (@pe_fld _ _ _ _ _ (pv 0) rfl) (@pa_cons _ _ _ _ _ (@pe_fld _ _ _ _ _ (pv 0) rfl) pa_nil (by rfl)) (by rfl))))), ?_⟩
  cases t with
  | cmp g' a b =>
    cases kt
    obtain ⟨p, dx, va, vb, rfl, hp, oa, ob⟩ := ob
    obtain ⟨fa, fb, la, lb⟩ : Fits l a ∧ Fits l b ∧ lv a ≤ 9 ∧ lv b ≤ 9 := ft
    have da := dp_lt a
    have db := dp_lt b
    have m1 := nmT_len a
    have m2 := nmT_len b
    refine ⟨_, rfl, p, _, dx, _, _, rfl, hp, c.cl _, c.c1 _, two_one _ _, _, rfl, p, _, dx, _, _, rfl, hp, c.cl _, c.c2 _, two_oth _ _, ?_⟩
    exact ⟨va, vb, nmT a, nmT b, rfl, oa.namedBy W (by omega) (by omega), ob.namedBy W (by omega) (by omega), by omega, q⟩
  | _ => cases kt
theorem ok_binN {f fB : Addr} {fd dB : FuncData} (B : Bl mg) (c : ClsS K CY) (F : Fun K "named" "Pairing.named" sPaiN f fd) (FB : Fun K "names_of_two" "names_of_two" sTwoO fB dB) (bB : Binds K dB ["one", "other"] []) (mB : mg "names_of_two" = some (.ref fB)) (n : Nat) (W : ∀ k, MOk P w K mg base (2 * n + 21) (CY k) "named" (spYN CK CY n k)) (g : Bn) : FnOk P w K mg base CX0 (2 * (n + 1) + 21) f fd ["self"] (spYN CK CY (n + 1) (.bin g)) := by
  have GB : FnOk P w K mg base CX0 (2 * n + 22) fB dB ["one", "other"] (spTwo P w K mg base (2 * n + 21)) := ok_twoO B FB
  refine F.ok scPaiN (fun vs H Q E h => ?_) (fun cdv A outer s H vs Q E hr h => ?_)
  · obtain ⟨v, t, l, rfl, _⟩ := h
    rfl
  obtain ⟨v, t, l, rfl, kt, ob, ft, hv, hn, q⟩ := h
  have hrB := hr.mono (show 2 * n + 22 ≤ 2 * (n + 1) + 20 by omega)
  refine ⟨_, (@pss_one _ _ _ (@ps_ret _ _ _ _ (pe_call GB hrB (by rfl) mB FB.kp bB .nil pass0 (@pa_cons _ _ _ _ _ (@pe_fld _ _ _ _ _ (pv 0) rfl) (@pa_cons _ _ _ _ _ (@pe_fld _ _ _ _ _ (pv 0) rfl) pa_nil (by rfl)) (by rfl))))), ?_⟩
  cases t with
  | bin g' a b =>
    cases kt
    obtain ⟨p, dx, va, vb, rfl, hp, oa, ob⟩ := ob
    obtain ⟨fa, fb⟩ : FitsS l a ∧ FitsS l b := ft
    have hn : max (dps a) (dps b) + 1 < n + 1 := hn
    have hv : lvs a + lvs b ≤ 60 := hv
    have m1 := nmY_len a
    have m2 := nmY_len b
    refine ⟨_, rfl, p, _, dx, _, _, rfl, hp, c.cl _, c.b1 _, two_one _ _, _, rfl, p, _, dx, _, _, rfl, hp, c.cl _, c.b2 _, two_oth _ _, ?_⟩
    exact ⟨va, vb, nmY a, nmY b, rfl, oa.namedBy W fa (by omega) (by omega), ob.namedBy W fb (by omega) (by omega), by omega, q⟩
  | _ => cases kt
theorem scNotN : FnScope ["self"] ["self"] (defScope sNotN) := ⟨rfl, rfl, rfl, by decide +kernel, rfl, by decide +kernel, by decide +kernel⟩
theorem ok_notN {f : Addr} {fd : FuncData} (c : ClsS K CY) (F : Fun K "named" "Not.named" sNotN f fd) (n : Nat) (W : ∀ k, MOk P w K mg base (2 * n + 21) (CY k) "named" (spYN CK CY n k)) : FnOk P w K mg base CX0 (2 * n + 22) f fd ["self"] (spYN CK CY (n + 1) .neg) := by
  refine F.ok scNotN (fun vs H Q E h => ?_) (fun cdv A outer s H vs Q E hr h => ?_)
  · obtain ⟨v, t, l, rfl, _⟩ := h
    rfl
  obtain ⟨v, t, l, rfl, kt, ob, ft, hv, hn, q⟩ := h
  refine ⟨_, (@pss_one _ _ _ (@ps_ret _ _ _ _ (pe_methP0 (@pe_fld _ _ _ _ _ (pv 0) rfl) hr))), ?_⟩
  cases t with
  | neg t =>
    obtain ⟨p, dx, va, rfl, hp, oa⟩ := ob
    have hn : dps t + 1 < n + 1 := hn
    obtain ⟨pa, dxa, fsa, rfl, ha, _, la⟩ := oa.at_
    exact ⟨_, rfl, p, _, dx, _, _, rfl, hp, c.cl _, c.n1, one_at _, pa, _, dxa, fsa, _, rfl, ha, la, W _, .ref pa, t, l, rfl, rfl, oa, ft, hv, by omega, q⟩
  | _ => cases kt
end
end Nw

set_option Elab.async false
set_option linter.all false
set_option maxRecDepth 100000
set_option maxHeartbeats 4000000
namespace Nw
open PySem L2
section
variable {P : Program} {w : World} {K : PySem.W.Frag} {mg : Str → Option Value} {base : Heap} {CK : Kd → Addr} {CY : Ks → Addr}
/-! ### making sayings -/
theorem scPaiI : FnScope ["self", "one", "other"] ["self", "one", "other"] (defScope sPaiI) := ⟨rfl, rfl, rfl, by decide +kernel, rfl, by decide +kernel, by decide +kernel⟩
theorem ok_paiI {f C : Addr} {fd : FuncData} (c : Cls K C) (c1 : NoAttr K C "one") (c2 : NoAttr K C "other") (F : Fun K "__init__" "Pairing.__init__" sPaiI f fd) : FnOk P w K mg base CX0 1 f fd ["self", "one", "other"] (spTwoI C) := by
  refine F.ok scPaiI (fun vs H Q E h => ?_) (fun cdv A outer s H vs Q E hr h => ?_)
  · obtain ⟨x, dx, a, b, rfl, _⟩ := h
    rfl
  obtain ⟨x, dx, a, b, rfl, hx, k⟩ := h
  refine ⟨_, (@pss_cons _ _ _ _ _ (@ps_fld _ _ _ _ _ _ _ _ (pv 0) (pv 1) rfl) (@pss_one _ _ _ (@ps_fld _ _ _ _ _ _ _ _ (pv 0) (pv 2) rfl))), ?_⟩
  refine ⟨_, rfl, _, rfl, x, _, dx, _, rfl, hx, c, c1, (by show 0 < 1000; decide), ?_⟩
  refine ⟨_, rfl, _, rfl, x, _, dx, _, rfl, upd_same, c, c2, Nat.lt_of_le_of_lt (length_putF _ _ _) (by show 1 < 1000; decide), ?_⟩
  exact k _ upd_same fun b hb => by rw [upd_ne hb, upd_ne hb]
def spNotI (C : Addr) : Sp := fun vs H Q _ => ∃ (x dx : Addr) (a : V), vs = [.ref x, a] ∧ H x = some (.ins C dx []) ∧ Q .non (upd H x (.ins C dx (oneF a)))
theorem scNotI : FnScope ["self", "one"] ["self", "one"] (defScope sNotI) := ⟨rfl, rfl, rfl, by decide +kernel, rfl, by decide +kernel, by decide +kernel⟩
theorem ok_notI {f : Addr} {fd : FuncData} (c : ClsS K CY) (F : Fun K "__init__" "Not.__init__" sNotI f fd) : FnOk P w K mg base CX0 1 f fd ["self", "one"] (spNotI (CY .neg)) := by
  refine F.ok scNotI (fun vs H Q E h => ?_) (fun cdv A outer s H vs Q E hr h => ?_)
  · obtain ⟨x, dx, a, rfl, _⟩ := h
    rfl
  obtain ⟨x, dx, a, rfl, hx, k⟩ := h
  refine ⟨_, (@pss_one _ _ _ (@ps_fld _ _ _ _ _ _ _ _ (pv 0) (pv 1) rfl)), ?_⟩
  exact ⟨_, rfl, _, rfl, x, _, dx, _, rfl, hx, c.cl _, c.n1, (by show 0 < 1000; decide), k⟩
structure MakerS (K : PySem.W.Frag) (mg : Str → Option Value) (CY : Ks → Addr) (fP fN : Addr) (dP dN : FuncData) : Prop where
  cls : ClsS K CY
  mkP : ∀ c, Mk K (CY (.cmp c)) fP
  mkB : ∀ c, Mk K (CY (.bin c)) fP
  mkN : Mk K (CY .neg) fN
  mkY : Mk0 K (CY .yes)
  gY : mg "Saying" = some (.ref (CY .yes))
  gL : mg "Less" = some (.ref (CY (.cmp .lt)))
  gA : mg "AtMost" = some (.ref (CY (.cmp .le)))
  gE : mg "Equal" = some (.ref (CY (.cmp .eq)))
  gU : mg "Unlike" = some (.ref (CY (.cmp .ne)))
  gB : mg "Both" = some (.ref (CY (.bin .and)))
  gO : mg "Either" = some (.ref (CY (.bin .or)))
  gN : mg "Not" = some (.ref (CY .neg))
  FP : Fun K "__init__" "Pairing.__init__" sPaiI fP dP
  FN : Fun K "__init__" "Not.__init__" sNotI fN dN
  bP : Binds K dP ["self", "one", "other"] []
  bN : Binds K dN ["self", "one"] []
def spTold (K : PySem.W.Frag) (CK : Kd → Addr) (CY : Ks → Addr) (n : Nat) : Sp := fun vs H Q _ => ∃ (v : V) (t : Sy) (l : List Str), vs = [v] ∧ Is K H (syD t) v ∧ FitsS l t ∧ dps t < n ∧ ∀ (p : Addr) (H' : Hp), Same H H' → ObjS CK CY H' t (.ref p) → Q (.ref p) H'
theorem scTold : FnScope ["_law_some", "_law_one", "_law_other"] ["_law_some"] (defScope sTold) := ⟨rfl, rfl, rfl, by decide +kernel, rfl, by decide +kernel, by decide +kernel⟩
theorem ok_told {f fH fN fM fT fP fO : Addr} {fd fdH dN dM dT dP dO : FuncData} (T : Maker K mg CK fN fM fT dN dM dT) (S : MakerS K mg CY fP fO dP dO) (F : Fun K "_law_told_by_hand" "_law_told_by_hand" sTold f fd) (bT : Binds K fd ["_law_some"] []) (mT : mg "_law_told_by_hand" = some (.ref f))
    (FH : Fun K "_law_by_hand" "_law_by_hand" sHand fH fdH) (bH : Binds K fdH ["_law_some"] []) (mH : mg "_law_by_hand" = some (.ref fH)) :
    ∀ n : Nat, FnOk P w K mg base CX0 (n + 13) f fd ["_law_some"] (spTold K CK CY n)
  | 0 => fn_none fun vs H Q E h => by obtain ⟨v, t, l, _, _, _, h1, _⟩ := h; omega
  | n + 1 => by
    have GT := ok_told T S F bT mT FH bH mH n
    have GH : FnOk P w K mg base CX0 12 fH fdH ["_law_some"] (spHand K CK 9) := ok_hand T FH bH mH 9
    have GC : ∀ c, FnOk P w K mg base CX0 1 fP dP ["self", "one", "other"] (spTwoI (CY (.cmp c))) := fun c => ok_paiI (S.cls.cl _) (S.cls.c1 c) (S.cls.c2 c) S.FP
    have GB : ∀ c, FnOk P w K mg base CX0 1 fP dP ["self", "one", "other"] (spTwoI (CY (.bin c))) := fun c => ok_paiI (S.cls.cl _) (S.cls.b1 c) (S.cls.b2 c) S.FP
    have GN : FnOk P w K mg base CX0 1 fO dO ["self", "one"] (spNotI (CY .neg)) := ok_notI S.cls S.FN
    refine F.ok scTold (fun vs H Q E h => ?_) (fun cdv A outer s H vs Q E hr h => ?_)
    · obtain ⟨v, t, l, rfl, _⟩ := h
      rfl
    obtain ⟨v, t, l, rfl, it, ft, hn, q⟩ := h
    have hr2 := hr.mono (show 1 + 1 ≤ n + 13 by omega)
    have hrH := hr.mono (show 12 ≤ n + 13 by omega)
    refine ⟨_, (@pss_cons _ _ _ _ _ (@ps_if _ _ _ _ _ _ _ _ (@pt_cmpR _ _ _ _ _ _ _ _ op_eq (@pe_ix _ _ _ _ _ _ (rIxT K) ix_tup (pv 0) pe_int (fun _ _ => rfl)) pe_str (nomark _)) (@pss_one _ _ _ (@ps_ret _ _ _ _ (pe_make00 S.mkY rfl S.gY))) pss_nil) (@pss_cons _ _ _ _ _ (@ps_if _ _ _ _ _ _ _ _ (@pt_cmpR _ _ _ _ _ _ _ _ op_eq (@pe_ix _ _ _ _ _ _ (rIxT K) ix_tup (pv 0) pe_int (fun _ _ => rfl)) pe_str (nomark _)) (@pss_one _ _ _ (@ps_ret _ _ _ _ (pe_make S.mkN GN hr2 rfl S.gN S.bN .nil pass0 (@pa_cons _ _ _ _ _ (pe_call GT hr (by rfl) mT F.kp bT .nil pass0 (@pa_cons _ _ _ _ _ (@pe_ix _ _ _ _ _ _ (rIxT K) ix_tup (pv 0) pe_int (fun _ _ => rfl)) pa_nil (by rfl))) pa_nil (by rfl))))) pss_nil) (@pss_cons _ _ _ _ _ (@ps_if _ _ _ _ _ _ _ _ (@pt_cmpR _ _ _ _ _ _ _ _ op_eq (@pe_ix _ _ _ _ _ _ (rIxT K) ix_tup (pv 0) pe_int (fun _ _ => rfl)) pe_str (nomark _)) (@pss_one _ _ _ (@ps_ret _ _ _ _ (pe_make (S.mkB .and) (GB .and) hr2 rfl S.gB S.bP .nil pass0 (@pa_cons _ _ _ _ _ (pe_call GT hr (by rfl) mT F.kp bT .nil pass0 (@pa_cons _ _ _ _ _ (@pe_ix _ _ _ _ _ _ (rIxT K) ix_tup (pv 0) pe_int (fun _ _ => rfl)) pa_nil (by rfl))) (@pa_cons _ _ _ _ _ (pe_call GT hr (by rfl) mT F.kp bT .nil pass0 (@pa_cons _ _ _ _ _ (@pe_ix _ _ _ _ _ _ (rIxT K) ix_tup (pv 0) pe_int (fun _ _ => rfl)) pa_nil (by rfl))) pa_nil (by rfl)) (by rfl))))) pss_nil) (@pss_cons _ _ _ _ _ (@ps_if _ _ _ _ _ _ _ _ (@pt_cmpR _ _ _ _ _ _ _ _ op_eq (@pe_ix _ _ _ _ _ _ (rIxT K) ix_tup (pv 0) pe_int (fun _ _ => rfl)) pe_str (nomark _)) (@pss_one _ _ _ (@ps_ret _ _ _ _ (pe_make (S.mkB .or) (GB .or) hr2 rfl S.gO S.bP .nil pass0 (@pa_cons _ _ _ _ _ (pe_call GT hr (by rfl) mT F.kp bT .nil pass0 (@pa_cons _ _ _ _ _ (@pe_ix _ _ _ _ _ _ (rIxT K) ix_tup (pv 0) pe_int (fun _ _ => rfl)) pa_nil (by rfl))) (@pa_cons _ _ _ _ _ (pe_call GT hr (by rfl) mT F.kp bT .nil pass0 (@pa_cons _ _ _ _ _ (@pe_ix _ _ _ _ _ _ (rIxT K) ix_tup (pv 0) pe_int (fun _ _ => rfl)) pa_nil (by rfl))) pa_nil (by rfl)) (by rfl))))) pss_nil) (@pss_cons _ _ _ _ _ (@ps_set _ _ 1 _ _ _ _ scTold.nd rfl (Or.inl rfl) (pe_call GH hrH (by rfl) mH FH.kp bH .nil pass0 (@pa_cons _ _ _ _ _ (@pe_ix _ _ _ _ _ _ (rIxT K) ix_tup (pv 0) pe_int (fun _ _ => rfl)) pa_nil (by rfl))) rfl (Or.inl rfl)) (@pss_cons _ _ _ _ _ (@ps_set _ _ 2 _ _ _ _ scTold.nd rfl (Or.inl rfl) (pe_call GH hrH (by rfl) mH FH.kp bH .nil pass0 (@pa_cons _ _ _ _ _ (@pe_ix _ _ _ _ _ _ (rIxT K) ix_tup (pv 0) pe_int (fun _ _ => rfl)) pa_nil (by rfl))) rfl (Or.inl rfl)) (@pss_cons _ _ _ _ _ (@ps_if _ _ _ _ _ _ _ _ (@pt_cmpR _ _ _ _ _ _ _ _ op_eq (@pe_ix _ _ _ _ _ _ (rIxT K) ix_tup (pv 0) pe_int (fun _ _ => rfl)) pe_str (nomark _)) (@pss_one _ _ _ (@ps_ret _ _ _ _ (pe_make (S.mkP .lt) (GC .lt) hr2 rfl S.gL S.bP .nil pass0 (@pa_cons _ _ _ _ _ (pv 1) (@pa_cons _ _ _ _ _ (pv 2) pa_nil (by rfl)) (by rfl))))) pss_nil) (@pss_cons _ _ _ _ _ (@ps_if _ _ _ _ _ _ _ _ (@pt_cmpR _ _ _ _ _ _ _ _ op_eq (@pe_ix _ _ _ _ _ _ (rIxT K) ix_tup (pv 0) pe_int (fun _ _ => rfl)) pe_str (nomark _)) (@pss_one _ _ _ (@ps_ret _ _ _ _ (pe_make (S.mkP .le) (GC .le) hr2 rfl S.gA S.bP .nil pass0 (@pa_cons _ _ _ _ _ (pv 1) (@pa_cons _ _ _ _ _ (pv 2) pa_nil (by rfl)) (by rfl))))) pss_nil) (@pss_cons _ _ _ _ _ (@ps_if _ _ _ _ _ _ _ _ (@pt_cmpR _ _ _ _ _ _ _ _ op_eq (@pe_ix _ _ _ _ _ _ (rIxT K) ix_tup (pv 0) pe_int (fun _ _ => rfl)) pe_str (nomark _)) (@pss_one _ _ _ (@ps_ret _ _ _ _ (pe_make (S.mkP .eq) (GC .eq) hr2 rfl S.gE S.bP .nil pass0 (@pa_cons _ _ _ _ _ (pv 1) (@pa_cons _ _ _ _ _ (pv 2) pa_nil (by rfl)) (by rfl))))) pss_nil) (@pss_one _ _ _ (@ps_ret _ _ _ _ (pe_make (S.mkP .ne) (GC .ne) hr2 rfl S.gU S.bP .nil pass0 (@pa_cons _ _ _ _ _ (pv 1) (@pa_cons _ _ _ _ _ (pv 2) pa_nil (by rfl)) (by rfl)))))))))))))), ?_⟩
    cases t with
    | yes =>
      obtain ⟨p, rfl, ht⟩ := is_yes it
      refine ⟨_, rfl, p, _, _, _, rfl, rfl, ht, atI_nat (j := 0) rfl, rfl, _, rfl, ite2 (fun _ => ?_) (fun c => absurd (decide_eq_true rfl) c)⟩
      intro x dx hx hd hxd
      exact q x _ (same_made hx hd hxd _ _) ⟨x, dx, rfl, upd_same⟩
    | neg t =>
      obtain ⟨p, a, rfl, ht, ia⟩ := is_neg it
      have hn : dps t + 1 < n + 1 := hn
      refine ⟨_, rfl, p, _, _, _, rfl, rfl, ht, atI_nat (j := 0) rfl, rfl, _, rfl, ite2 (fun c => absurd (of_decide_eq_true c) (by decide +kernel)) (fun _ => ?_)⟩
      refine ⟨_, rfl, p, _, _, _, rfl, rfl, ht, atI_nat (j := 0) rfl, rfl, _, rfl, ite2 (fun _ => ?_) (fun c => absurd (decide_eq_true rfl) c)⟩
      refine ⟨_, rfl, p, _, _, _, rfl, rfl, ht, atI_nat (j := 1) rfl, a, t, l, rfl, ia, ft, by omega, fun p1 H1 s1 o1 => ?_⟩
      intro x dx hx hd hxd
      have s2 : Same H1 (upd (upd (upd H1 dx (.own x)) x (.ins (CY .neg) dx [])) x (.ins (CY .neg) dx (oneF (.ref p1)))) := by
        intro b u e
        rw [upd_ne (ne_of_none e hx)]
        exact same_made hx hd hxd _ _ b u e
      exact ⟨x, dx, _, rfl, upd_same, rfl, q x _ (s1.trans s2) ⟨x, dx, _, rfl, upd_same, o1.same s2⟩⟩
    | bin g a b =>
      obtain ⟨p, va, vb, rfl, ht, ia, ib⟩ := is_bin it
      obtain ⟨fa, fb⟩ : FitsS l a ∧ FitsS l b := ft
      have hn : max (dps a) (dps b) + 1 < n + 1 := hn
      have n1 : ¬ V.str (bnS g) = V.str "yes" := by cases g <;> decide +kernel
      have n2 : ¬ V.str (bnS g) = V.str "not" := by cases g <;> decide +kernel
      refine ⟨_, rfl, p, _, _, _, rfl, rfl, ht, atI_nat (j := 0) rfl, rfl, _, rfl, ite2 (fun c => absurd (of_decide_eq_true c) n1) (fun _ => ?_)⟩
      refine ⟨_, rfl, p, _, _, _, rfl, rfl, ht, atI_nat (j := 0) rfl, rfl, _, rfl, ite2 (fun c => absurd (of_decide_eq_true c) n2) (fun _ => ?_)⟩
      have fin : ∀ (p1 : Addr) (H1 : Hp), Same H H1 → ObjS CK CY H1 a (.ref p1) → ∀ (p2 : Addr) (H2 : Hp), Same H1 H2 → ObjS CK CY H2 b (.ref p2) → ∀ (x dx : Addr), H2 x = none → H2 dx = none → dx ≠ x → spTwoI (CY (.bin g)) [.ref x, .ref p1, .ref p2] (upd (upd H2 dx (.own x)) x (.ins (CY (.bin g)) dx [])) (fun v H3 => v = .non ∧ Q (.ref x) H3) E0 := by
        intro p1 H1 s1 o1 p2 H2 s2 o2 x dx hx hd hxd
        refine ⟨x, dx, _, _, rfl, upd_same, fun H3 h3 h4 => ⟨rfl, ?_⟩⟩
        have s3 : Same H2 H3 := by
          intro b' u e
          rw [h4 b' (ne_of_none e hx)]
          exact same_made hx hd hxd _ _ b' u e
        exact q x H3 (s1.trans (s2.trans s3)) ⟨x, dx, _, _, rfl, h3, o1.same (s2.trans s3), o2.same s3⟩
      cases g with
      | and =>
        refine ⟨_, rfl, p, _, _, _, rfl, rfl, ht, atI_nat (j := 0) rfl, rfl, _, rfl, ite2 (fun _ => ?_) (fun c => absurd (decide_eq_true rfl) c)⟩
        refine ⟨_, rfl, p, _, _, _, rfl, rfl, ht, atI_nat (j := 1) rfl, va, a, l, rfl, ia, fa, by omega, fun p1 H1 s1 o1 => ?_⟩
        exact ⟨_, rfl, p, _, _, _, rfl, rfl, s1.tup ht, atI_nat (j := 2) rfl, vb, b, l, rfl, ib.same s1, fb, by omega, fin p1 H1 s1 o1⟩
      | or =>
        refine ⟨_, rfl, p, _, _, _, rfl, rfl, ht, atI_nat (j := 0) rfl, rfl, _, rfl, ite2 (fun c => absurd (of_decide_eq_true c) (by decide +kernel)) (fun _ => ?_)⟩
        refine ⟨_, rfl, p, _, _, _, rfl, rfl, ht, atI_nat (j := 0) rfl, rfl, _, rfl, ite2 (fun _ => ?_) (fun c => absurd (decide_eq_true rfl) c)⟩
        refine ⟨_, rfl, p, _, _, _, rfl, rfl, ht, atI_nat (j := 1) rfl, va, a, l, rfl, ia, fa, by omega, fun p1 H1 s1 o1 => ?_⟩
        exact ⟨_, rfl, p, _, _, _, rfl, rfl, s1.tup ht, atI_nat (j := 2) rfl, vb, b, l, rfl, ib.same s1, fb, by omega, fin p1 H1 s1 o1⟩
    | cmp g a b =>
      obtain ⟨p, va, vb, rfl, ht, ia, ib⟩ := is_cmp it
      obtain ⟨fa, fb, la9, lb9⟩ : Fits l a ∧ Fits l b ∧ lv a ≤ 9 ∧ lv b ≤ 9 := ft
      have da := dp_lt a
      have db := dp_lt b
      have n1 : ¬ V.str (cmS g) = V.str "yes" := by cases g <;> decide +kernel
      have n2 : ¬ V.str (cmS g) = V.str "not" := by cases g <;> decide +kernel
      have n3 : ¬ V.str (cmS g) = V.str "and" := by cases g <;> decide +kernel
      have n4 : ¬ V.str (cmS g) = V.str "or" := by cases g <;> decide +kernel
      refine ⟨_, rfl, p, _, _, _, rfl, rfl, ht, atI_nat (j := 0) rfl, rfl, _, rfl, ite2 (fun c => absurd (of_decide_eq_true c) n1) (fun _ => ?_)⟩
      refine ⟨_, rfl, p, _, _, _, rfl, rfl, ht, atI_nat (j := 0) rfl, rfl, _, rfl, ite2 (fun c => absurd (of_decide_eq_true c) n2) (fun _ => ?_)⟩
      refine ⟨_, rfl, p, _, _, _, rfl, rfl, ht, atI_nat (j := 0) rfl, rfl, _, rfl, ite2 (fun c => absurd (of_decide_eq_true c) n3) (fun _ => ?_)⟩
      refine ⟨_, rfl, p, _, _, _, rfl, rfl, ht, atI_nat (j := 0) rfl, rfl, _, rfl, ite2 (fun c => absurd (of_decide_eq_true c) n4) (fun _ => ?_)⟩
      refine ⟨_, rfl, p, _, _, _, rfl, rfl, ht, atI_nat (j := 1) rfl, va, a, rfl, ia, by omega, fun p1 H1 s1 o1 => ?_⟩
      refine ⟨_, rfl, p, _, _, _, rfl, rfl, s1.tup ht, atI_nat (j := 2) rfl, vb, b, rfl, ib.same s1, by omega, fun p2 H2 s2 o2 => ?_⟩
      have ht2 := s2.tup (s1.tup ht)
      have fin : ∀ (x dx : Addr), H2 x = none → H2 dx = none → dx ≠ x → spTwoI (CY (.cmp g)) [.ref x, .ref p1, .ref p2] (upd (upd H2 dx (.own x)) x (.ins (CY (.cmp g)) dx [])) (fun v H3 => v = .non ∧ Q (.ref x) H3) E0 := by
        intro x dx hx hd hxd
        refine ⟨x, dx, _, _, rfl, upd_same, fun H3 h3 h4 => ⟨rfl, ?_⟩⟩
        have s3 : Same H2 H3 := by
          intro b' u e
          rw [h4 b' (ne_of_none e hx)]
          exact same_made hx hd hxd _ _ b' u e
        exact q x H3 (s1.trans (s2.trans s3)) ⟨x, dx, _, _, rfl, h3, o1.same (s2.trans s3), o2.same s3⟩
      cases g with
      | lt =>
        exact ⟨_, rfl, p, _, _, _, rfl, rfl, ht2, atI_nat (j := 0) rfl, rfl, _, rfl, ite2 (fun _ => ⟨_, rfl, _, rfl, fin⟩) (fun c => absurd (decide_eq_true rfl) c)⟩
      | le =>
        refine ⟨_, rfl, p, _, _, _, rfl, rfl, ht2, atI_nat (j := 0) rfl, rfl, _, rfl, ite2 (fun c => absurd (of_decide_eq_true c) (by decide +kernel)) (fun _ => ?_)⟩
        exact ⟨_, rfl, p, _, _, _, rfl, rfl, ht2, atI_nat (j := 0) rfl, rfl, _, rfl, ite2 (fun _ => ⟨_, rfl, _, rfl, fin⟩) (fun c => absurd (decide_eq_true rfl) c)⟩
      | eq =>
        refine ⟨_, rfl, p, _, _, _, rfl, rfl, ht2, atI_nat (j := 0) rfl, rfl, _, rfl, ite2 (fun c => absurd (of_decide_eq_true c) (by decide +kernel)) (fun _ => ?_)⟩
        refine ⟨_, rfl, p, _, _, _, rfl, rfl, ht2, atI_nat (j := 0) rfl, rfl, _, rfl, ite2 (fun c => absurd (of_decide_eq_true c) (by decide +kernel)) (fun _ => ?_)⟩
        exact ⟨_, rfl, p, _, _, _, rfl, rfl, ht2, atI_nat (j := 0) rfl, rfl, _, rfl, ite2 (fun _ => ⟨_, rfl, _, rfl, fin⟩) (fun c => absurd (decide_eq_true rfl) c)⟩
      | ne =>
        refine ⟨_, rfl, p, _, _, _, rfl, rfl, ht2, atI_nat (j := 0) rfl, rfl, _, rfl, ite2 (fun c => absurd (of_decide_eq_true c) (by decide +kernel)) (fun _ => ?_)⟩
        refine ⟨_, rfl, p, _, _, _, rfl, rfl, ht2, atI_nat (j := 0) rfl, rfl, _, rfl, ite2 (fun c => absurd (of_decide_eq_true c) (by decide +kernel)) (fun _ => ?_)⟩
        refine ⟨_, rfl, p, _, _, _, rfl, rfl, ht2, atI_nat (j := 0) rfl, rfl, _, rfl, ite2 (fun c => absurd (of_decide_eq_true c) (by decide +kernel)) (fun _ => ?_)⟩
        exact ⟨_, rfl, _, rfl, fin⟩
end
end Nw

set_option Elab.async false
set_option linter.all false
set_option maxRecDepth 100000
set_option maxHeartbeats 4000000
namespace Nw
open PySem L2
section
variable {P : Program} {w : World} {K : PySem.W.Frag} {mg : Str → Option Value} {base : Heap} {CK : Kd → Addr} {CY : Ks → Addr}
theorem _root_.L2.MOk.mono {k k' : Nat} {C : Addr} {m : Str} {sp : Sp} (M : MOk P w K mg base k C m sp) (h : k ≤ k') : MOk P w K mg base k' C m sp := by
  obtain ⟨c, f, fd, ps, a, b, d⟩ := M
  exact ⟨c, f, fd, ps, a, b.mono h, d⟩
/-! ### the text of a saying, told by the law -/
def spTxy (K : PySem.W.Frag) (n : Nat) : Sp := fun vs H Q _ => ∃ (v : V) (t : Sy) (l : List Str), vs = [v] ∧ Is K H (syD t) v ∧ (∀ x ∈ l, x.length ≤ 30) ∧ FitsS l t ∧ dps t < n ∧ dps t < 10 ∧ ∀ H', Same H H' → Q (.str (txy t)) H'
theorem scTxy : FnScope ["_law_some"] ["_law_some"] (defScope sTxy) := ⟨rfl, rfl, rfl, by decide +kernel, rfl, by decide +kernel, by decide +kernel⟩
theorem inV2 (x : Str) : inV (.str x) [V.str "and", V.str "or"] = decide (x ∈ (["and", "or"] : List Str)) := inV_strs x ["and", "or"]
theorem ok_txy {f fS : Addr} {fd fdS : FuncData} (B : Bl mg) (F : Fun K "_law_text" "_law_text" sTxy f fd) (bT : Binds K fd ["_law_some"] []) (mT : mg "_law_text" = some (.ref f))
    (FS : Fun K "_law_sum_text" "_law_sum_text" sText fS fdS) (bS : Binds K fdS ["_law_some"] []) (mS : mg "_law_sum_text" = some (.ref fS)) : ∀ n : Nat, FnOk P w K mg base CX0 (n + 11) f fd ["_law_some"] (spTxy K n)
  | 0 => fn_none fun vs H Q E h => by obtain ⟨v, t, l, _, _, _, _, h1, _⟩ := h; omega
  | n + 1 => by
    have GT := ok_txy B F bT mT FS bS mS n
    have GS : FnOk P w K mg base CX0 10 fS fdS ["_law_some"] (spText K 9) := ok_text B FS bS mS 9
    refine F.ok scTxy (fun vs H Q E h => ?_) (fun cdv A outer s H vs Q E hr h => ?_)
    · obtain ⟨v, t, l, rfl, _⟩ := h
      rfl
    obtain ⟨v, t, l, rfl, it, hl, ft, hn, h10, q⟩ := h
    have hrS := hr.mono (show 10 ≤ n + 11 by omega)
    obtain ⟨y1, y2, y3, y4⟩ := sq_len
    have y5 := sp_len.1
    refine ⟨_, (@pss_cons _ _ _ _ _ (@ps_if _ _ _ _ _ _ _ _ (@pt_cmpR _ _ _ _ _ _ _ _ op_eq (@pe_ix _ _ _ _ _ _ (rIxT K) ix_tup (pv 0) pe_int (fun _ _ => rfl)) pe_str (nomark _)) (@pss_one _ _ _ (@ps_ret _ _ _ _ pe_str)) pss_nil) (@pss_cons _ _ _ _ _ (@ps_if _ _ _ _ _ _ _ _ (@pt_cmpR _ _ _ _ _ _ _ _ op_in_seq (@pe_ix _ _ _ _ _ _ (rIxT K) ix_tup (pv 0) pe_int (fun _ _ => rfl)) (@pe_lst _ _ _ _ (@pa_cons _ _ _ _ _ pe_str (@pa_cons _ _ _ _ _ pe_str pa_nil (by rfl)) (by rfl))) (by with_unfolding_all rfl)) (@pss_one _ _ _ (@ps_ret _ _ _ _ (@pe_op _ _ _ _ _ _ _ _ op_add_str (@pe_op _ _ _ _ _ _ _ _ op_add_str (@pe_op _ _ _ _ _ _ _ _ op_add_str (@pe_op _ _ _ _ _ _ _ _ op_add_str (@pe_op _ _ _ _ _ _ _ _ op_add_str (@pe_op _ _ _ _ _ _ _ _ op_add_str pe_str (pe_call GT hr (by rfl) mT F.kp bT .nil pass0 (@pa_cons _ _ _ _ _ (@pe_ix _ _ _ _ _ _ (rIxT K) ix_tup (pv 0) pe_int (fun _ _ => rfl)) pa_nil (by rfl)))) pe_str) (@pe_ix _ _ _ _ _ _ (rIxT K) ix_tup (pv 0) pe_int (fun _ _ => rfl))) pe_str) (pe_call GT hr (by rfl) mT F.kp bT .nil pass0 (@pa_cons _ _ _ _ _ (@pe_ix _ _ _ _ _ _ (rIxT K) ix_tup (pv 0) pe_int (fun _ _ => rfl)) pa_nil (by rfl)))) pe_str))) pss_nil) (@pss_cons _ _ _ _ _ (@ps_if _ _ _ _ _ _ _ _ (@pt_cmpR _ _ _ _ _ _ _ _ op_eq (@pe_ix _ _ _ _ _ _ (rIxT K) ix_tup (pv 0) pe_int (fun _ _ => rfl)) pe_str (nomark _)) (@pss_one _ _ _ (@ps_ret _ _ _ _ (@pe_op _ _ _ _ _ _ _ _ op_add_str (@pe_op _ _ _ _ _ _ _ _ op_add_str pe_str (pe_call GT hr (by rfl) mT F.kp bT .nil pass0 (@pa_cons _ _ _ _ _ (@pe_ix _ _ _ _ _ _ (rIxT K) ix_tup (pv 0) pe_int (fun _ _ => rfl)) pa_nil (by rfl)))) pe_str))) pss_nil) (@pss_one _ _ _ (@ps_ret _ _ _ _ (@pe_op _ _ _ _ _ _ _ _ op_add_str (@pe_op _ _ _ _ _ _ _ _ op_add_str (@pe_op _ _ _ _ _ _ _ _ op_add_str (@pe_op _ _ _ _ _ _ _ _ op_add_str (pe_call GS hrS (by rfl) mS FS.kp bS .nil pass0 (@pa_cons _ _ _ _ _ (@pe_ix _ _ _ _ _ _ (rIxT K) ix_tup (pv 0) pe_int (fun _ _ => rfl)) pa_nil (by rfl))) pe_str) (@pe_ix _ _ _ _ _ _ (rIxT K) ix_tup (pv 0) pe_int (fun _ _ => rfl))) pe_str) (pe_call GS hrS (by rfl) mS FS.kp bS .nil pass0 (@pa_cons _ _ _ _ _ (@pe_ix _ _ _ _ _ _ (rIxT K) ix_tup (pv 0) pe_int (fun _ _ => rfl)) pa_nil (by rfl))))))))), ?_⟩
    cases t with
    | yes =>
      obtain ⟨p, rfl, ht⟩ := is_yes it
      refine ⟨_, rfl, p, _, _, _, rfl, rfl, ht, atI_nat (j := 0) rfl, rfl, _, rfl, ite2 (fun _ => ?_) (fun c => absurd (decide_eq_true rfl) c)⟩
      exact q _ (Same.refl _)
    | neg t =>
      obtain ⟨p, a, rfl, ht, ia⟩ := is_neg it
      have hn : dps t + 1 < n + 1 := hn
      have h10 : dps t + 1 < 10 := h10
      have i1 := txy_len' hl (t := t) ft (by omega)
      refine ⟨_, rfl, p, _, _, _, rfl, rfl, ht, atI_nat (j := 0) rfl, rfl, _, rfl, ite2 (fun c => absurd (of_decide_eq_true c) (by decide +kernel)) (fun _ => ?_)⟩
      refine ⟨_, rfl, p, _, _, _, rfl, rfl, ht, atI_nat (j := 0) rfl, by show 2 ≤ sizeLine; decide, fun z hz => ?_⟩
      have sz := same_new hz (.lst [V.str "and", V.str "or"])
      refine ⟨z, _, rfl, .inl (SqL.of upd_same), rfl, rfl, _, rfl, ?_⟩
      rw [inV2, if_neg Bool.false_ne_true]
      refine ite2 (fun c => absurd (of_decide_eq_true c) (by decide +kernel)) (fun _ => ?_)
      refine ⟨_, rfl, p, _, _, _, rfl, rfl, sz.tup ht, atI_nat (j := 0) rfl, rfl, _, rfl, ite2 (fun _ => ?_) (fun c => absurd (decide_eq_true rfl) c)⟩
      refine ⟨_, rfl, p, _, _, _, rfl, rfl, sz.tup ht, atI_nat (j := 1) rfl, a, t, l, rfl, ia.same sz, hl, ft, by omega, by omega, fun H1 t1 => ?_⟩
      exact ⟨_, _, rfl, rfl, big (by rw [y2]; omega), _, _, rfl, rfl, big (by simp only [str_len, y2, y3]; omega), q _ (sz.trans t1)⟩
    | bin g a b =>
      obtain ⟨p, va, vb, rfl, ht, ia, ib⟩ := is_bin it
      obtain ⟨fa, fb⟩ : FitsS l a ∧ FitsS l b := ft
      have hn : max (dps a) (dps b) + 1 < n + 1 := hn
      have h10 : max (dps a) (dps b) + 1 < 10 := h10
      have i1 := txy_len' hl fa (by omega)
      have i2 := txy_len' hl fb (by omega)
      have s1 := bn_len g
      have n1 : ¬ V.str (bnS g) = V.str "yes" := by cases g <;> decide +kernel
      have n2 : bnS g ∈ (["and", "or"] : List Str) := by cases g <;> decide +kernel
      refine ⟨_, rfl, p, _, _, _, rfl, rfl, ht, atI_nat (j := 0) rfl, rfl, _, rfl, ite2 (fun c => absurd (of_decide_eq_true c) n1) (fun _ => ?_)⟩
      refine ⟨_, rfl, p, _, _, _, rfl, rfl, ht, atI_nat (j := 0) rfl, by show 2 ≤ sizeLine; decide, fun z hz => ?_⟩
      have sz := same_new hz (.lst [V.str "and", V.str "or"])
      refine ⟨z, _, rfl, .inl (SqL.of upd_same), rfl, rfl, _, rfl, ?_⟩
      rw [inV2, if_neg Bool.false_ne_true]
      refine ite2 (fun _ => ?_) (fun c => absurd (decide_eq_true n2) c)
      refine ⟨_, rfl, p, _, _, _, rfl, rfl, sz.tup ht, atI_nat (j := 1) rfl, va, a, l, rfl, ia.same sz, hl, fa, by omega, by omega, fun H1 t1 => ?_⟩
      have t1' := sz.trans t1
      refine ⟨_, _, rfl, rfl, big (by rw [y4]; omega), _, _, rfl, rfl, big (by simp only [str_len, y4, y5]; omega), _, rfl, p, _, _, _, rfl, rfl, t1'.tup ht, atI_nat (j := 0) rfl, _, _, rfl, rfl, big (by simp only [str_len, y4, y5]; omega), _, _, rfl, rfl, big (by simp only [str_len, y4, y5]; omega), ?_⟩
      refine ⟨_, rfl, p, _, _, _, rfl, rfl, t1'.tup ht, atI_nat (j := 2) rfl, vb, b, l, rfl, ib.same t1', hl, fb, by omega, by omega, fun H2 t2 => ?_⟩
      exact ⟨_, _, rfl, rfl, big (by simp only [str_len, y4, y5]; omega), _, _, rfl, rfl, big (by simp only [str_len, y3, y4, y5]; omega), q _ (t1'.trans t2)⟩
    | cmp g a b =>
      obtain ⟨p, va, vb, rfl, ht, ia, ib⟩ := is_cmp it
      obtain ⟨fa, fb, la, lb⟩ : Fits l a ∧ Fits l b ∧ lv a ≤ 9 ∧ lv b ≤ 9 := ft
      have da := dp_lt a
      have db := dp_lt b
      have i1 := txt_len hl fa
      have i2 := txt_len hl fb
      have s1 := cm_len g
      have n1 : ¬ V.str (cmS g) = V.str "yes" := by cases g <;> decide +kernel
      have n2 : ¬ cmS g ∈ (["and", "or"] : List Str) := by cases g <;> decide +kernel
      have n3 : ¬ V.str (cmS g) = V.str "not" := by cases g <;> decide +kernel
      refine ⟨_, rfl, p, _, _, _, rfl, rfl, ht, atI_nat (j := 0) rfl, rfl, _, rfl, ite2 (fun c => absurd (of_decide_eq_true c) n1) (fun _ => ?_)⟩
      refine ⟨_, rfl, p, _, _, _, rfl, rfl, ht, atI_nat (j := 0) rfl, by show 2 ≤ sizeLine; decide, fun z hz => ?_⟩
      have sz := same_new hz (.lst [V.str "and", V.str "or"])
      refine ⟨z, _, rfl, .inl (SqL.of upd_same), rfl, rfl, _, rfl, ?_⟩
      rw [inV2, if_neg Bool.false_ne_true]
      refine ite2 (fun c => absurd (of_decide_eq_true c) n2) (fun _ => ?_)
      refine ⟨_, rfl, p, _, _, _, rfl, rfl, sz.tup ht, atI_nat (j := 0) rfl, rfl, _, rfl, ite2 (fun c => absurd (of_decide_eq_true c) n3) (fun _ => ?_)⟩
      refine ⟨_, rfl, p, _, _, _, rfl, rfl, sz.tup ht, atI_nat (j := 1) rfl, va, a, l, rfl, ia.same sz, hl, fa, by omega, by omega, ?_⟩
      refine ⟨_, _, rfl, rfl, big (by rw [y5]; omega), _, rfl, p, _, _, _, rfl, rfl, sz.tup ht, atI_nat (j := 0) rfl, _, _, rfl, rfl, big (by simp only [str_len, y5]; omega), _, _, rfl, rfl, big (by simp only [str_len, y5]; omega), ?_⟩
      refine ⟨_, rfl, p, _, _, _, rfl, rfl, sz.tup ht, atI_nat (j := 2) rfl, vb, b, l, rfl, ib.same sz, hl, fb, by omega, by omega, ?_⟩
      exact ⟨_, _, rfl, rfl, big (by simp only [str_len, y5]; omega), q _ sz⟩
/-! ### what is right -/
theorem gen2 {Pr : Hp → Prop} {H : Hp} {q p : Addr} {o o' : HO} (h1 : H q = none) (h2 : upd H q o p = none) (k : ∀ H2, Same H H2 → H2 p = some o' → Pr H2) : Pr (upd (upd H q o) p o') :=
  k _ (same_put (same_new h1 _) ((same_new h1 _).free h2) _) upd_same
theorem is_strs {H : Hp} {p : Addr} {l : List Str} (h : H p = some (.lst (l.map V.str))) : Is K H (.lst (l.map Dt.str)) (.ref p) := by
  rw [Is]
  exact ⟨p, _, rfl, SqL.of h, Iss.strs l⟩
theorem dep_strs (l : List Str) : dep (.lst (l.map Dt.str)) ≤ 50 := by rw [dep, deps_strs]; decide
def spRight (P : Program) (w : World) (K : PySem.W.Frag) (mg : Str → Option Value) (base : Heap) : Sp := fun vs H Q _ => ∃ (v u : V) (x : Str) (z : Zd), vs = [v, u, .str x] ∧ NamedBy P w K mg base 39 H v (zN z) ∧ ShownBy P w K mg base 39 H v x ∧ Is K H (zD z) u ∧ zl z ≤ 60 ∧ zdp z < 19 ∧ ∀ H', Same H H' → Q (.bl true) H'
theorem scRight : FnScope ["_law_made", "_law_some", "_law_text_here", "_law_due", "_law_found"] ["_law_made", "_law_some", "_law_text_here"] (defScope sRight) := ⟨rfl, rfl, rfl, by decide +kernel, rfl, by decide +kernel, by decide +kernel⟩
theorem ok_right {f fN : Addr} {fd fdN : FuncData} (B : Bl mg) (F : Fun K "_law_right" "_law_right" sRight f fd) (FN : Fun K "_law_names" "_law_names" sNm fN fdN) (bN : Binds K fdN ["_law_some"] []) (mN : mg "_law_names" = some (.ref fN)) : FnOk P w K mg base CX0 40 f fd ["_law_made", "_law_some", "_law_text_here"] (spRight P w K mg base) := by
  have GN : FnOk P w K mg base CX0 20 fN fdN ["_law_some"] (spNm K 19) := ok_nm B FN bN mN 19
  refine F.ok scRight (fun vs H Q E h => ?_) (fun cdv A outer s H vs Q E hr h => ?_)
  · obtain ⟨v, u, x, z, rfl, _⟩ := h
    rfl
  obtain ⟨v, u, x, z, rfl, nb, sb, it, l60, dz, q⟩ := h
  have hr20 := hr.mono (show 20 ≤ 39 by decide)
  have hu := hu60 hr
  have lc := Nat.le_trans (zN_len z) l60
  have lm := metS_length (zN z)
  refine ⟨_, (@pss_cons _ _ _ _ _ (@ps_set _ _ 3 _ _ _ _ scRight.nd rfl (Or.inl rfl) (pe_callB (call_sortedS rfl) (by rfl) B.sorted rfl (@pa_cons _ _ _ _ _ (pe_callTy (call_setS rfl) (by rfl) B.set rfl (@pa_cons _ _ _ _ _ (pe_call GN hr20 (by rfl) mN FN.kp bN .nil pass0 (@pa_cons _ _ _ _ _ (pv 1) pa_nil (by rfl))) pa_nil (by rfl))) pa_nil (by rfl))) rfl (Or.inl rfl)) (@pss_cons _ _ _ _ _ (@ps_set _ _ 4 _ _ _ _ scRight.nd rfl (Or.inl rfl) (pe_methP0 (pv 0) hr) rfl (Or.inl rfl)) (@pss_cons _ _ _ _ _ (@ps_if _ _ _ _ _ _ _ _ ((@pw_or _ _ _ _ _ _ _ (@pt_not _ _ _ _ (pt_val (pe_callB call_isinst (by rfl) B.isinstance PyProof.Rows.boot_isinstance (@pa_cons _ _ _ _ _ (pv 4) (@pa_cons _ _ _ _ _ (pe_bltn (v := V.ty "list") (by rfl) B.list PyProof.Rows.boot_list (by rfl)) pa_nil (by rfl)) (by rfl))))) (@pw_or _ _ _ _ _ _ _ (@pt_cmpR _ _ _ _ _ _ _ _ (@op_neD _ hu) (pv 4) (pv 3) (nomark _)) (@pw_or _ _ _ _ _ _ _ (@pt_not _ _ _ _ (pt_val (pe_callB call_isinst (by rfl) B.isinstance PyProof.Rows.boot_isinstance (@pa_cons _ _ _ _ _ (pe_methP0 (pv 0) hr) (@pa_cons _ _ _ _ _ (pe_bltn (v := V.ty "str") (by rfl) B.str PyProof.Rows.boot_str (by rfl)) pa_nil (by rfl)) (by rfl))))) (pw_or1 (@pt_cmpR _ _ _ _ _ _ _ _ op_ne (pe_methP0 (pv 0) hr) (pv 2) (nomark _))))))).pt (@pss_one _ _ _ (@ps_ret _ _ _ _ pe_bl)) pss_nil) (@pss_cons _ _ _ _ _ (@ps_expr _ _ _ _ (pe_bm0 PySem.F.plainAttrs_list PySem.F.slot_list_clear PySem.F.type_list_clear mt_clear (pv 4)) (by rfl)) (@pss_one _ _ _ (@ps_ret _ _ _ _ (@pe_and _ _ _ _ _ _ _ (@pe_cmpR _ _ _ _ _ _ _ _ (@op_eqD _ hu) (pe_methP0 (pv 0) hr) (pv 3) (nomark _)) (@pe_one _ _ _ _ _ (@pe_cmpR _ _ _ _ _ _ _ _ op_eq (pe_methP0 (pv 0) hr) (pv 2) (nomark _)))))))))), ?_⟩
  refine ⟨_, rfl, u, z, rfl, it, l60, dz, fun p0 H0 s0 f0 e0 => ?_⟩
  refine ⟨p0, zN z, rfl, SqL.of e0, by unfold scanBound; omega, fun q1 h1 => ?_⟩
  refine ⟨q1, _, rfl, upd_same, metS_nodup _, by omega, fun pd out h2 n2 => gen2 h1 h2 fun H2 s2' e2 => ?_⟩
  have s2 := s0.trans s2'
  have n2 := n2.of_met
  obtain ⟨p, Cn, dn, fn', spn, rfl, hp, ln, MN, kn⟩ := nb
  obtain ⟨p', Cs, dss, fs', sps, e, hp', ls, MS, ks⟩ := sb
  cases e
  refine ⟨_, rfl, p, _, dn, fn', _, rfl, s2 _ _ hp, ln, MN, kn _ _ s2 fun pf H3 out3 s3 f3 n3 e3 => ?_⟩
  have eo : out3 = out := n3.uniq n2 fun _ => Iff.rfl
  subst eo
  have t3 := s2.trans s3
  have d3 := s3 _ _ e2
  refine ⟨_, rfl, _, _, _, _, rfl, TyOf.lst e3, rfl, _, rfl, iteF ?_⟩
  refine ⟨_, rfl, _, rfl, _, _, is_strs e3, is_strs d3, rfl, rfl, dep_strs _, _, rfl, ?_⟩
  rw [dEq_refl]
  refine iteF ?_
  refine ⟨_, rfl, p, _, dss, fs', _, rfl, t3 _ _ hp', ls, MS, ks _ _ t3 fun H4 s4 => ?_⟩
  have t4 := t3.trans s4
  refine ⟨_, _, _, _, rfl, TyOf.str _, rfl, _, rfl, iteF ?_⟩
  refine ⟨_, rfl, p, _, dss, fs', _, rfl, t4 _ _ hp', ls, MS, ks _ _ t4 fun H5 s5 => ?_⟩
  refine ⟨_, rfl, rfl, _, rfl, iteNS rfl ?_⟩
  have t5 := t4.trans s5
  have e5 := s5 _ _ (s4 _ _ e3)
  have d5 := s5 _ _ (s4 _ _ d3)
  refine ⟨_, rfl, .inl ⟨rfl, _, SqL.of e5⟩, pf, _, rfl, rfl, e5, ?_⟩
  have nf : H pf = none := s2.free f3
  have s6 : Same H (upd H5 pf (.lst [])) := same_put t5 nf _
  have pdf : pd ≠ pf := fun z => by rw [← z, e2] at f3; cases f3
  have d6 : upd H5 pf (.lst []) pd = some (.lst (out3.map V.str)) := by rw [upd_ne pdf]; exact d5
  generalize upd H5 pf (.lst []) = H6 at s6 d6 ⊢
  refine ⟨_, rfl, p, _, dn, fn', _, rfl, s6 _ _ hp, ln, MN, kn _ _ s6 fun pg H7 out7 s7 f7 n7 e7 => ?_⟩
  have eo : out7 = out3 := n7.uniq n2 fun _ => Iff.rfl
  subst eo
  refine ⟨_, rfl, _, _, is_strs e7, is_strs (s7 _ _ d6), rfl, rfl, dep_strs _, _, rfl, ?_⟩
  rw [dEq_refl]
  refine iteT ?_
  have t7 := s6.trans s7
  refine ⟨_, rfl, p, _, dss, fs', _, rfl, t7 _ _ hp', ls, MS, ks _ _ t7 fun H8 s8 => ?_⟩
  refine ⟨_, rfl, rfl, ?_⟩
  rw [decide_eq_true rfl]
  exact q _ (t7.trans s8)
end
end Nw

set_option Elab.async false
set_option linter.all false
set_option maxRecDepth 100000
set_option maxHeartbeats 4000000
namespace Nw
open PySem L2
section
variable {P : Program} {w : World} {K : PySem.W.Frag} {mg : Str → Option Value} {base : Heap}
def spLaw (K : PySem.W.Frag) : Sp := fun vs H Q _ => ∃ (a : Addr) (ns : List Int), vs = [.ref a] ∧ SqL K H a (ns.map V.int) ∧ ns.length ≤ 63 ∧ ∀ H', Q (.bl true) H'
theorem scLaw : FnScope ["_law_script", "_law_pool_here", "_law_some", "_law_said"] ["_law_script"] (defScope sLaw) := ⟨rfl, rfl, rfl, by decide +kernel, rfl, by decide +kernel, by decide +kernel⟩
structure Txt (K : PySem.W.Frag) (mg : Str → Option Value) (CK : Kd → Addr) (CY : Ks → Addr) (fNI fMI fTI fPI fOI fTN fPN fNS fMS fPS fIS fXS fNN fMN fYS fLS fAS fES fUS fBS fOS fTS fYN fTNn fCe fMi fOw fPo fLe fSu fSt fSa fTe fHa fTo fNm fRi fCm fTw fBr fBs : Addr) (dNI dMI dTI dPI dOI dTN dPN dNS dMS dPS dIS dXS dNN dMN dYS dLS dAS dES dUS dBS dOS dTS dYN dTNn dCe dMi dOw dPo dLe dSu dSt dSa dTe dHa dTo dNm dRi dCm dTw dBr dBs : FuncData) : Prop where
  bl : Bl mg
  mkr : Maker K mg CK fNI fMI fTI dNI dMI dTI
  mks : MakerS K mg CY fPI fOI dPI dOI
  FTN : Fun K "named" "Twofold.named" sTwoN fTN dTN
  bTN : Binds K dTN ["self"] []
  mTN : ∀ g, Meth K (CK (.op g)) "named" fTN
  FPN : Fun K "named" "Pairing.named" sPaiN fPN dPN
  bPN : Binds K dPN ["self"] []
  mPN : ∀ g, Meth K (CY (.cmp g)) "named" fPN
  mPB : ∀ g, Meth K (CY (.bin g)) "named" fPN
  FNS : Fun K "shown" "Number.shown" sNumS fNS dNS
  bNS : Binds K dNS ["self"] []
  mNS : Meth K (CK .num) "shown" fNS
  FMS : Fun K "shown" "Named.shown" sNamS fMS dMS
  bMS : Binds K dMS ["self"] []
  mMS : Meth K (CK .nam) "shown" fMS
  FPS : Fun K "shown" "Plus.shown" sPluS fPS dPS
  bPS : Binds K dPS ["self"] []
  mPS : Meth K (CK (.op .plus)) "shown" fPS
  FIS : Fun K "shown" "Minus.shown" sMinS fIS dIS
  bIS : Binds K dIS ["self"] []
  mIS : Meth K (CK (.op .minus)) "shown" fIS
  FXS : Fun K "shown" "Times.shown" sTimS fXS dXS
  bXS : Binds K dXS ["self"] []
  mXS : Meth K (CK (.op .times)) "shown" fXS
  FNN : Fun K "named" "Sum.named" sSumN fNN dNN
  bNN : Binds K dNN ["self"] []
  mNN : Meth K (CK .num) "named" fNN
  FMN : Fun K "named" "Named.named" sNamN fMN dMN
  bMN : Binds K dMN ["self"] []
  mMN : Meth K (CK .nam) "named" fMN
  FYS : Fun K "shown" "Saying.shown" sSayS fYS dYS
  bYS : Binds K dYS ["self"] []
  mYS : Meth K (CY .yes) "shown" fYS
  FLS : Fun K "shown" "Less.shown" sLesS fLS dLS
  bLS : Binds K dLS ["self"] []
  mLS : Meth K (CY (.cmp .lt)) "shown" fLS
  FAS : Fun K "shown" "AtMost.shown" sAtmS fAS dAS
  bAS : Binds K dAS ["self"] []
  mAS : Meth K (CY (.cmp .le)) "shown" fAS
  FES : Fun K "shown" "Equal.shown" sEquS fES dES
  bES : Binds K dES ["self"] []
  mES : Meth K (CY (.cmp .eq)) "shown" fES
  FUS : Fun K "shown" "Unlike.shown" sUnlS fUS dUS
  bUS : Binds K dUS ["self"] []
  mUS : Meth K (CY (.cmp .ne)) "shown" fUS
  FBS : Fun K "shown" "Both.shown" sBotS fBS dBS
  bBS : Binds K dBS ["self"] []
  mBS : Meth K (CY (.bin .and)) "shown" fBS
  FOS : Fun K "shown" "Either.shown" sEitS fOS dOS
  bOS : Binds K dOS ["self"] []
  mOS : Meth K (CY (.bin .or)) "shown" fOS
  FTS : Fun K "shown" "Not.shown" sNotS fTS dTS
  bTS : Binds K dTS ["self"] []
  mTS : Meth K (CY .neg) "shown" fTS
  FYN : Fun K "named" "Saying.named" sSayN fYN dYN
  bYN : Binds K dYN ["self"] []
  mYN : Meth K (CY .yes) "named" fYN
  FTNn : Fun K "named" "Not.named" sNotN fTNn dTNn
  bTNn : Binds K dTNn ["self"] []
  mTNn : Meth K (CY .neg) "named" fTNn
  gCe : mg "_law_cell_at" = some (.ref fCe)
  FCe : Fun K "_law_cell_at" "_law_cell_at" sCell fCe dCe
  bCe : Binds K dCe ["_law_script", "_law_k"] []
  gMi : mg "_law_mix" = some (.ref fMi)
  FMi : Fun K "_law_mix" "_law_mix" sMix fMi dMi
  bMi : Binds K dMi ["_law_cell", "_law_k"] []
  gOw : mg "_law_own" = some (.ref fOw)
  FOw : Fun K "_law_own" "_law_own" sOwn fOw dOw
  bOw : Binds K dOw [] []
  gPo : mg "_law_pool" = some (.ref fPo)
  FPo : Fun K "_law_pool" "_law_pool" sPool fPo dPo
  bPo : Binds K dPo ["_law_cell", "_law_other"] []
  gLe : mg "_law_leaf" = some (.ref fLe)
  FLe : Fun K "_law_leaf" "_law_leaf" sLeaf fLe dLe
  bLe : Binds K dLe ["_law_cell", "_law_pool_here"] []
  gSu : mg "_law_sum" = some (.ref fSu)
  FSu : Fun K "_law_sum" "_law_sum" sSum fSu dSu
  bSu : Binds K dSu ["_law_cells", "_law_pool_here"] []
  gSt : mg "_law_sum_text" = some (.ref fSt)
  FSt : Fun K "_law_sum_text" "_law_sum_text" sText fSt dSt
  bSt : Binds K dSt ["_law_some"] []
  gSa : mg "_law_saying" = some (.ref fSa)
  FSa : Fun K "_law_saying" "_law_saying" sSaying fSa dSa
  bSa : Binds K dSa ["_law_cells", "_law_pool_here"] []
  gTe : mg "_law_text" = some (.ref fTe)
  FTe : Fun K "_law_text" "_law_text" sTxy fTe dTe
  bTe : Binds K dTe ["_law_some"] []
  gHa : mg "_law_by_hand" = some (.ref fHa)
  FHa : Fun K "_law_by_hand" "_law_by_hand" sHand fHa dHa
  bHa : Binds K dHa ["_law_some"] []
  gTo : mg "_law_told_by_hand" = some (.ref fTo)
  FTo : Fun K "_law_told_by_hand" "_law_told_by_hand" sTold fTo dTo
  bTo : Binds K dTo ["_law_some"] []
  gNm : mg "_law_names" = some (.ref fNm)
  FNm : Fun K "_law_names" "_law_names" sNm fNm dNm
  bNm : Binds K dNm ["_law_some"] []
  gRi : mg "_law_right" = some (.ref fRi)
  FRi : Fun K "_law_right" "_law_right" sRight fRi dRi
  bRi : Binds K dRi ["_law_made", "_law_some", "_law_text_here"] []
  gCm : mg "compared" = some (.ref fCm)
  FCm : Fun K "compared" "compared" sCmp fCm dCm
  bCm : Binds K dCm ["one", "sign", "other"] []
  gTw : mg "names_of_two" = some (.ref fTw)
  FTw : Fun K "names_of_two" "names_of_two" sTwoO fTw dTw
  bTw : Binds K dTw ["one", "other"] []
  gBr : mg "bracketed_sums" = some (.ref fBr)
  FBr : Fun K "bracketed" "bracketed" sBra fBr dBr
  bBr : Binds K dBr ["one", "sign", "other"] []
  gBs : mg "bracketed_sayings" = some (.ref fBs)
  FBs : Fun K "bracketed" "bracketed" sBrs fBs dBs
  bBs : Binds K dBs ["one", "word", "other"] []
theorem nd_scLaw1 : (["_law_script", "_law_pool_here", "_law_some", "_law_said", "_law_k"] : List Str).Nodup := by decide +kernel
theorem nd_scLaw2 : (["_law_script", "_law_pool_here", "_law_some", "_law_said", "_law_k"] : List Str).Nodup := by decide +kernel
variable {CK : Kd → Addr} {CY : Ks → Addr} {fNI fMI fTI fPI fOI fTN fPN fNS fMS fPS fIS fXS fNN fMN fYS fLS fAS fES fUS fBS fOS fTS fYN fTNn fCe fMi fOw fPo fLe fSu fSt fSa fTe fHa fTo fNm fRi fCm fTw fBr fBs : Addr} {dNI dMI dTI dPI dOI dTN dPN dNS dMS dPS dIS dXS dNN dMN dYS dLS dAS dES dUS dBS dOS dTS dYN dTNn dCe dMi dOw dPo dLe dSu dSt dSa dTe dHa dTo dNm dRi dCm dTw dBr dBs : FuncData}
theorem showns (T : Txt K mg CK CY fNI fMI fTI fPI fOI fTN fPN fNS fMS fPS fIS fXS fNN fMN fYS fLS fAS fES fUS fBS fOS fTS fYN fTNn fCe fMi fOw fPo fLe fSu fSt fSa fTe fHa fTo fNm fRi fCm fTw fBr fBs dNI dMI dTI dPI dOI dTN dPN dNS dMS dPS dIS dXS dNN dMN dYS dLS dAS dES dUS dBS dOS dTS dYN dTNn dCe dMi dOw dPo dLe dSu dSt dSa dTe dHa dTo dNm dRi dCm dTw dBr dBs) : ∀ (n : Nat) (k : Kd), MOk P w K mg base (2 * n + 1) (CK k) "shown" (spS CK n k)
  | n, .num => ⟨T.mkr.cls.cl _, _, _, _, T.mNS, (ok_numS T.bl T.mkr.cls T.FNS n).mono (by omega), T.bNS⟩
  | n, .nam => ⟨T.mkr.cls.cl _, _, _, _, T.mMS, (ok_namS T.mkr.cls T.FMS n).mono (by omega), T.bMS⟩
  | 0, .op .plus => ⟨T.mkr.cls.cl _, _, _, _, T.mPS, fn_none (spS_none _), T.bPS⟩
  | 0, .op .minus => ⟨T.mkr.cls.cl _, _, _, _, T.mIS, fn_none (spS_none _), T.bIS⟩
  | 0, .op .times => ⟨T.mkr.cls.cl _, _, _, _, T.mXS, fn_none (spS_none _), T.bXS⟩
  | n + 1, .op .plus => ⟨T.mkr.cls.cl _, _, _, _, T.mPS, ok_pluS T.mkr.cls T.FPS T.FBr T.bBr T.gBr n (showns T n), T.bPS⟩
  | n + 1, .op .minus => ⟨T.mkr.cls.cl _, _, _, _, T.mIS, ok_minS T.mkr.cls T.FIS T.FBr T.bBr T.gBr n (showns T n), T.bIS⟩
  | n + 1, .op .times => ⟨T.mkr.cls.cl _, _, _, _, T.mXS, ok_timS T.mkr.cls T.FXS T.FBr T.bBr T.gBr n (showns T n), T.bXS⟩
theorem nameds (T : Txt K mg CK CY fNI fMI fTI fPI fOI fTN fPN fNS fMS fPS fIS fXS fNN fMN fYS fLS fAS fES fUS fBS fOS fTS fYN fTNn fCe fMi fOw fPo fLe fSu fSt fSa fTe fHa fTo fNm fRi fCm fTw fBr fBs dNI dMI dTI dPI dOI dTN dPN dNS dMS dPS dIS dXS dNN dMN dYS dLS dAS dES dUS dBS dOS dTS dYN dTNn dCe dMi dOw dPo dLe dSu dSt dSa dTe dHa dTo dNm dRi dCm dTw dBr dBs) : ∀ (n : Nat) (k : Kd), MOk P w K mg base (2 * n + 1) (CK k) "named" (spN CK n k)
  | n, .num => ⟨T.mkr.cls.cl _, _, _, _, T.mNN, (ok_sumN T.FNN n).mono (by omega), T.bNN⟩
  | n, .nam => ⟨T.mkr.cls.cl _, _, _, _, T.mMN, (ok_namN T.mkr.cls T.FMN n).mono (by omega), T.bMN⟩
  | 0, .op g => ⟨T.mkr.cls.cl _, _, _, _, T.mTN g, fn_none (spN_none _), T.bTN⟩
  | n + 1, .op g => ⟨T.mkr.cls.cl _, _, _, _, T.mTN g, ok_twoN T.bl T.mkr.cls T.FTN T.FTw T.bTw T.gTw n (nameds T n) g, T.bTN⟩
theorem showny (T : Txt K mg CK CY fNI fMI fTI fPI fOI fTN fPN fNS fMS fPS fIS fXS fNN fMN fYS fLS fAS fES fUS fBS fOS fTS fYN fTNn fCe fMi fOw fPo fLe fSu fSt fSa fTe fHa fTo fNm fRi fCm fTw fBr fBs dNI dMI dTI dPI dOI dTN dPN dNS dMS dPS dIS dXS dNN dMN dYS dLS dAS dES dUS dBS dOS dTS dYN dTNn dCe dMi dOw dPo dLe dSu dSt dSa dTe dHa dTo dNm dRi dCm dTw dBr dBs) : ∀ (n : Nat) (k : Ks), MOk P w K mg base (2 * n + 21) (CY k) "shown" (spYS CK CY n k)
  | n, .yes => ⟨T.mks.cls.cl _, _, _, _, T.mYS, (ok_sayS T.FYS n).mono (by omega), T.bYS⟩
  | n, .cmp .lt => ⟨T.mks.cls.cl _, _, _, _, T.mLS, (ok_lesS T.mks.cls T.FLS T.FCm T.bCm T.gCm (showns T 9) n).mono (by omega), T.bLS⟩
  | n, .cmp .le => ⟨T.mks.cls.cl _, _, _, _, T.mAS, (ok_atmS T.mks.cls T.FAS T.FCm T.bCm T.gCm (showns T 9) n).mono (by omega), T.bAS⟩
  | n, .cmp .eq => ⟨T.mks.cls.cl _, _, _, _, T.mES, (ok_equS T.mks.cls T.FES T.FCm T.bCm T.gCm (showns T 9) n).mono (by omega), T.bES⟩
  | n, .cmp .ne => ⟨T.mks.cls.cl _, _, _, _, T.mUS, (ok_unlS T.mks.cls T.FUS T.FCm T.bCm T.gCm (showns T 9) n).mono (by omega), T.bUS⟩
  | 0, .bin .and => ⟨T.mks.cls.cl _, _, _, _, T.mBS, fn_none (spYS_none _), T.bBS⟩
  | 0, .bin .or => ⟨T.mks.cls.cl _, _, _, _, T.mOS, fn_none (spYS_none _), T.bOS⟩
  | 0, .neg => ⟨T.mks.cls.cl _, _, _, _, T.mTS, fn_none (spYS_none _), T.bTS⟩
  | n + 1, .bin .and => ⟨T.mks.cls.cl _, _, _, _, T.mBS, ok_botS T.mks.cls T.FBS T.FBs T.bBs T.gBs n (showny T n), T.bBS⟩
  | n + 1, .bin .or => ⟨T.mks.cls.cl _, _, _, _, T.mOS, ok_eitS T.mks.cls T.FOS T.FBs T.bBs T.gBs n (showny T n), T.bOS⟩
  | n + 1, .neg => ⟨T.mks.cls.cl _, _, _, _, T.mTS, (ok_notS T.mks.cls T.FTS n (showny T n)).mono (by omega), T.bTS⟩
theorem namedy (T : Txt K mg CK CY fNI fMI fTI fPI fOI fTN fPN fNS fMS fPS fIS fXS fNN fMN fYS fLS fAS fES fUS fBS fOS fTS fYN fTNn fCe fMi fOw fPo fLe fSu fSt fSa fTe fHa fTo fNm fRi fCm fTw fBr fBs dNI dMI dTI dPI dOI dTN dPN dNS dMS dPS dIS dXS dNN dMN dYS dLS dAS dES dUS dBS dOS dTS dYN dTNn dCe dMi dOw dPo dLe dSu dSt dSa dTe dHa dTo dNm dRi dCm dTw dBr dBs) : ∀ (n : Nat) (k : Ks), MOk P w K mg base (2 * n + 21) (CY k) "named" (spYN CK CY n k)
  | n, .yes => ⟨T.mks.cls.cl _, _, _, _, T.mYN, (ok_sayN T.FYN n).mono (by omega), T.bYN⟩
  | n, .cmp g => ⟨T.mks.cls.cl _, _, _, _, T.mPN g, (ok_cmpN T.bl T.mks.cls T.FPN T.FTw T.bTw T.gTw (nameds T 9) n g).mono (by omega), T.bPN⟩
  | 0, .bin g => ⟨T.mks.cls.cl _, _, _, _, T.mPB g, fn_none (spYN_none _), T.bPN⟩
  | 0, .neg => ⟨T.mks.cls.cl _, _, _, _, T.mTNn, fn_none (spYN_none _), T.bTNn⟩
  | n + 1, .bin g => ⟨T.mks.cls.cl _, _, _, _, T.mPB g, ok_binN T.bl T.mks.cls T.FPN T.FTw T.bTw T.gTw n (namedy T n) g, T.bPN⟩
  | n + 1, .neg => ⟨T.mks.cls.cl _, _, _, _, T.mTNn, (ok_notN T.mks.cls T.FTNn n (namedy T n)).mono (by omega), T.bTNn⟩
theorem ok_law {f : Addr} {fd : FuncData} (T : Txt K mg CK CY fNI fMI fTI fPI fOI fTN fPN fNS fMS fPS fIS fXS fNN fMN fYS fLS fAS fES fUS fBS fOS fTS fYN fTNn fCe fMi fOw fPo fLe fSu fSt fSa fTe fHa fTo fNm fRi fCm fTw fBr fBs dNI dMI dTI dPI dOI dTN dPN dNS dMS dPS dIS dXS dNN dMN dYS dLS dAS dES dUS dBS dOS dTS dYN dTNn dCe dMi dOw dPo dLe dSu dSt dSa dTe dHa dTo dNm dRi dCm dTw dBr dBs) (F : Fun K "law" "law" sLaw f fd) : FnOk P w K mg base CX0 41 f fd ["_law_script"] (spLaw K) := by
  have B := T.bl
  have GCe : FnOk P w K mg base CX0 1 fCe dCe ["_law_script", "_law_k"] (spCell K) := ok_cell B T.FCe
  have GPo : FnOk P w K mg base CX0 2 fPo dPo ["_law_cell", "_law_other"] spPool := ok_pool B T.FPo T.FMi T.bMi T.gMi T.FOw T.bOw T.gOw
  have GSu : FnOk P w K mg base CX0 10 fSu dSu ["_law_cells", "_law_pool_here"] (spSum K 9) := ok_sum B T.FSu T.bSu T.gSu T.FLe T.bLe T.gLe 9
  have GSa : FnOk P w K mg base CX0 20 fSa dSa ["_law_cells", "_law_pool_here"] (spSay K 9) := ok_say B T.FSa T.bSa T.gSa T.FSu T.bSu T.gSu T.FLe T.bLe T.gLe 9
  have GSt : FnOk P w K mg base CX0 10 fSt dSt ["_law_some"] (spText K 9) := ok_text B T.FSt T.bSt T.gSt 9
  have GTe : FnOk P w K mg base CX0 20 fTe dTe ["_law_some"] (spTxy K 9) := ok_txy B T.FTe T.bTe T.gTe T.FSt T.bSt T.gSt 9
  have GHa : FnOk P w K mg base CX0 12 fHa dHa ["_law_some"] (spHand K CK 9) := ok_hand T.mkr T.FHa T.bHa T.gHa 9
  have GTo : FnOk P w K mg base CX0 22 fTo dTo ["_law_some"] (spTold K CK CY 9) := ok_told T.mkr T.mks T.FTo T.bTo T.gTo T.FHa T.bHa T.gHa 9
  have GRi : FnOk P w K mg base CX0 40 fRi dRi ["_law_made", "_law_some", "_law_text_here"] (spRight P w K mg base) := ok_right B T.FRi T.FNm T.bNm T.gNm
  have MN : ∀ k, MOk P w K mg base 39 (CK k) "named" (spN CK 9 k) := fun k => (nameds T 9 k).mono (by decide)
  have MS : ∀ k, MOk P w K mg base 39 (CK k) "shown" (spS CK 9 k) := fun k => (showns T 9 k).mono (by decide)
  have MYN : ∀ k, MOk P w K mg base 39 (CY k) "named" (spYN CK CY 9 k) := fun k => namedy T 9 k
  have MYS : ∀ k, MOk P w K mg base 39 (CY k) "shown" (spYS CK CY 9 k) := fun k => showny T 9 k
  refine F.ok scLaw (fun vs H Q E h => ?_) (fun cdv A outer s H vs Q E hr h => ?_)
  · obtain ⟨a, ns, rfl, _⟩ := h
    rfl
  obtain ⟨a, ns, rfl, hS, h63, q⟩ := h
  have hr1 := hr.mono (show 1 ≤ 40 by decide)
  have hr2 := hr.mono (show 2 ≤ 40 by decide)
  have hr10 := hr.mono (show 10 ≤ 40 by decide)
  have hr12 := hr.mono (show 12 ≤ 40 by decide)
  have hr20 := hr.mono (show 20 ≤ 40 by decide)
  have hr22 := hr.mono (show 22 ≤ 40 by decide)
  have hu := hu60 hr
  refine ⟨_, (@pss_cons _ _ _ _ _ (@ps_set _ _ 1 _ _ _ _ scLaw.nd rfl (Or.inl rfl) (pe_call GPo hr2 (by rfl) T.gPo T.FPo.kp T.bPo .nil pass0 (@pa_cons _ _ _ _ _ (pe_call GCe hr1 (by rfl) T.gCe T.FCe.kp T.bCe .nil pass0 (@pa_cons _ _ _ _ _ (pv 0) (@pa_cons _ _ _ _ _ pe_int pa_nil (by rfl)) (by rfl))) (@pa_cons _ _ _ _ _ (pe_call GCe hr1 (by rfl) T.gCe T.FCe.kp T.bCe .nil pass0 (@pa_cons _ _ _ _ _ (pv 0) (@pa_cons _ _ _ _ _ pe_int pa_nil (by rfl)) (by rfl))) pa_nil (by rfl)) (by rfl))) rfl (Or.inl rfl)) (@pss_cons _ _ _ _ _ (@ps_set _ _ 2 _ _ _ _ scLaw.nd rfl (Or.inl rfl) (pe_call GSu hr10 (by rfl) T.gSu T.FSu.kp T.bSu .nil pass0 (@pa_cons _ _ _ _ _ (pe_comp (NX := ["_law_script", "_law_pool_here", "_law_some", "_law_said"]) (N := ["_law_script", "_law_pool_here", "_law_some", "_law_said", "_law_k"]) (ms := [true, true, true, true, false]) (ks := [4]) (out := defScope sLaw) (by exact ⟨rfl, by decide +kernel, by decide +kernel, by decide +kernel, by decide +kernel, by decide +kernel⟩) rfl rfl rfl (pi_range1 rfl B.range (@pa_cons _ _ _ _ _ (@pe_op _ _ _ _ _ _ _ _ op_add pe_int (@pe_op _ _ _ _ _ _ _ _ op_mod (pe_call GCe hr1 (by rfl) T.gCe T.FCe.kp T.bCe .nil pass0 (@pa_cons _ _ _ _ _ (pv 0) (@pa_cons _ _ _ _ _ pe_int pa_nil (by rfl)) (by rfl))) pe_int)) pa_nil (by rfl))) (@sets_name 4) (by decide) (fun C ex s H => (pg_name (i := 4) nd_scLaw1 rfl (Or.inl rfl))) (fun C ex s H => pts_nil) (fun C ex s H => (pe_call GCe hr1 (by rfl) T.gCe T.FCe.kp T.bCe .nil pass0 (@pa_cons _ _ _ _ _ (pv 0) (@pa_cons _ _ _ _ _ (@pe_op _ _ _ _ _ _ _ _ op_add pe_int (pv 4)) pa_nil (by rfl)) (by rfl))))) (@pa_cons _ _ _ _ _ (pv 1) pa_nil (by rfl)) (by rfl))) rfl (Or.inl rfl)) (@pss_cons _ _ _ _ _ (@ps_set _ _ 3 _ _ _ _ scLaw.nd rfl (Or.inl rfl) (pe_call GSa hr20 (by rfl) T.gSa T.FSa.kp T.bSa .nil pass0 (@pa_cons _ _ _ _ _ (pe_comp (NX := ["_law_script", "_law_pool_here", "_law_some", "_law_said"]) (N := ["_law_script", "_law_pool_here", "_law_some", "_law_said", "_law_k"]) (ms := [true, true, true, true, false]) (ks := [4]) (out := defScope sLaw) (by exact ⟨rfl, by decide +kernel, by decide +kernel, by decide +kernel, by decide +kernel, by decide +kernel⟩) rfl rfl rfl (pi_range1 rfl B.range (@pa_cons _ _ _ _ _ (@pe_op _ _ _ _ _ _ _ _ op_add pe_int (@pe_op _ _ _ _ _ _ _ _ op_mod (pe_call GCe hr1 (by rfl) T.gCe T.FCe.kp T.bCe .nil pass0 (@pa_cons _ _ _ _ _ (pv 0) (@pa_cons _ _ _ _ _ pe_int pa_nil (by rfl)) (by rfl))) pe_int)) pa_nil (by rfl))) (@sets_name 4) (by decide) (fun C ex s H => (pg_name (i := 4) nd_scLaw2 rfl (Or.inl rfl))) (fun C ex s H => pts_nil) (fun C ex s H => (pe_call GCe hr1 (by rfl) T.gCe T.FCe.kp T.bCe .nil pass0 (@pa_cons _ _ _ _ _ (pv 0) (@pa_cons _ _ _ _ _ (@pe_op _ _ _ _ _ _ _ _ op_add pe_int (pv 4)) pa_nil (by rfl)) (by rfl))))) (@pa_cons _ _ _ _ _ (pv 1) pa_nil (by rfl)) (by rfl))) rfl (Or.inl rfl)) (@pss_cons _ _ _ _ _ (@ps_if _ _ _ _ _ _ _ _ (@pt_not _ _ _ _ (pt_val (pe_call GRi hr (by rfl) T.gRi T.FRi.kp T.bRi .nil pass0 (@pa_cons _ _ _ _ _ (pe_call GHa hr12 (by rfl) T.gHa T.FHa.kp T.bHa .nil pass0 (@pa_cons _ _ _ _ _ (pv 2) pa_nil (by rfl))) (@pa_cons _ _ _ _ _ (pv 2) (@pa_cons _ _ _ _ _ (pe_call GSt hr10 (by rfl) T.gSt T.FSt.kp T.bSt .nil pass0 (@pa_cons _ _ _ _ _ (pv 2) pa_nil (by rfl))) pa_nil (by rfl)) (by rfl)) (by rfl))))) (@pss_one _ _ _ (@ps_ret _ _ _ _ pe_bl)) pss_nil) (@pss_one _ _ _ (@ps_ret _ _ _ _ (pe_call GRi hr (by rfl) T.gRi T.FRi.kp T.bRi .nil pass0 (@pa_cons _ _ _ _ _ (pe_call GTo hr22 (by rfl) T.gTo T.FTo.kp T.bTo .nil pass0 (@pa_cons _ _ _ _ _ (pv 3) pa_nil (by rfl))) (@pa_cons _ _ _ _ _ (pv 3) (@pa_cons _ _ _ _ _ (pe_call GTe hr20 (by rfl) T.gTe T.FTe.kp T.bTe .nil pass0 (@pa_cons _ _ _ _ _ (pv 3) pa_nil (by rfl))) pa_nil (by rfl)) (by rfl)) (by rfl))))))))), ?_⟩
  refine ⟨_, rfl, a, ns, 0, rfl, hS, h63, by decide, by decide, fun c0 H1 s1 => ⟨_, rfl, a, ns, 1, rfl, s1.seq hS, h63, by decide, by decide, fun c1 H2 s2 => ⟨c0, c1, rfl, fun pl H3 l s3 n3 e3 l3 f3 => ?_⟩⟩⟩
  have t3 := s1.trans (s2.trans s3)
  -- a sum
  refine ⟨_, rfl, a, ns, 2, rfl, t3.seq hS, h63, by decide, by decide, fun c2 H4 s4 => ?_⟩
  have t4 := t3.trans s4
  have m1 := Int.emod_nonneg c2 (b := 6) (by decide)
  have m2 := Int.emod_lt_of_pos c2 (b := 6) (by decide)
  refine ⟨_, _, rfl, rfl, (by show (0 : Int) < 6; decide), _, _, rfl, rfl, 1 + c2 % 6, rfl, by omega, by omega, comp_range (n := (1 + c2 % 6).toNat) (fun i ys H' => ∃ cs : List Int, ys = cs.map V.int ∧ cs.length = i ∧ Same H4 H') ⟨[], rfl, rfl, Same.refl _⟩ (fun i ys H' hi ⟨cs, e1, e2, _⟩ => by rw [e1, List.length_map, e2]; exact small1000 (by omega)) ?_ ?_⟩
  · rintro i ys H' hi ⟨cs, rfl, e2, sm⟩
    refine ⟨_, rfl, _, rfl, _, _, rfl, rfl, a, ns, _, rfl, (t4.trans sm).seq hS, h63, by omega, by omega, fun r H5 s5 => ?_⟩
    exact ⟨cs ++ [r], by rw [List.map_append]; rfl, by rw [List.length_append, e2]; rfl, sm.trans s5⟩
  rintro ys H5 ⟨cs, rfl, e2, s5⟩ D hD
  have t5 := t4.trans s5
  have pl5 : PoolAt H5 pl l := (PoolAt.mk e3 l3 f3).same (s4.trans s5)
  have pD : PoolAt (upd H5 D (.lst (cs.map V.int))) pl l := pl5.same (same_new hD _)
  refine ⟨_, rfl, D, pl, cs, l, rfl, upd_same, ne_of_none pl5.at_ hD, pD, by omega, by omega, fun p6 H6 t cs' sb _ it ft hlv => ?_⟩
  have s6 : Same H5 H6 := fun b o e => sb b o (ne_of_none e hD) (by rw [upd_ne (ne_of_none e hD)]; exact e)
  have t6 := t5.trans s6
  have pl6 := pl5.same s6
  have lv6 : lv t ≤ 6 := by omega
  have dp6 := dp_lt t
  -- a saying
  refine ⟨_, rfl, a, ns, 3, rfl, t6.seq hS, h63, by decide, by decide, fun c3 H7 s7 => ?_⟩
  have t7 := t6.trans s7
  have m3 := Int.emod_nonneg c3 (b := 9) (by decide)
  have m4 := Int.emod_lt_of_pos c3 (b := 9) (by decide)
  refine ⟨_, _, rfl, rfl, (by show (0 : Int) < 9; decide), _, _, rfl, rfl, 1 + c3 % 9, rfl, by omega, by omega, comp_range (n := (1 + c3 % 9).toNat) (fun i ys H' => ∃ cs : List Int, ys = cs.map V.int ∧ cs.length = i ∧ Same H7 H') ⟨[], rfl, rfl, Same.refl _⟩ (fun i ys H' hi ⟨cs, e1, e2, _⟩ => by rw [e1, List.length_map, e2]; exact small1000 (by omega)) ?_ ?_⟩
  · rintro i ys H' hi ⟨cs, rfl, e2, sm⟩
    refine ⟨_, rfl, _, rfl, _, _, rfl, rfl, a, ns, _, rfl, (t7.trans sm).seq hS, h63, by omega, by omega, fun r H5 s5 => ?_⟩
    exact ⟨cs ++ [r], by rw [List.map_append]; rfl, by rw [List.length_append, e2]; rfl, sm.trans s5⟩
  rintro ys H8 ⟨cs8, rfl, e8, s8⟩ D8 hD8
  have t8 := t7.trans s8
  have pl8 : PoolAt H8 pl l := pl6.same (s7.trans s8)
  have pD8 : PoolAt (upd H8 D8 (.lst (cs8.map V.int))) pl l := pl8.same (same_new hD8 _)
  refine ⟨_, rfl, D8, pl, cs8, l, rfl, upd_same, ne_of_none pl8.at_ hD8, pD8, by omega, by omega, by omega, fun p9 H9 y cs9 sb9 _ iy fy hdy hly => ?_⟩
  have s9 : Same H8 H9 := fun b o e => sb9 b o (ne_of_none e hD8) (by rw [upd_ne (ne_of_none e hD8)]; exact e)
  have it9 := it.same (s7.trans (s8.trans s9))
  have hd9 : dps y < 9 := by omega
  have hv9 : lvs y ≤ 60 := by omega
  have hyd := ydp_le fy
  -- the sum is right
  refine ⟨_, rfl, .ref p6, t, rfl, it9, by omega, fun pa HA sA oA => ?_⟩
  refine ⟨_, rfl, _, rfl, .ref p6, t, l, rfl, it9.same sA, f3, ft, by omega, by omega, ?_⟩
  refine ⟨.ref pa, .ref p6, txt t, .s t, rfl, oA.namedBy MN (by omega) (by omega), oA.shownBy MS f3 ft (by omega) (by omega), it9.same sA, by show lv t ≤ 60; omega, by show dp t < 19; omega, fun HB sB => ⟨_, rfl, iteF ?_⟩⟩
  have tB := sA.trans sB
  -- the saying is right
  refine ⟨_, rfl, .ref p9, y, l, rfl, iy.same tB, fy, hd9, fun pc HC sC oC => ?_⟩
  have tC := tB.trans sC
  refine ⟨_, rfl, _, rfl, .ref p9, y, l, rfl, iy.same tC, f3, fy, hd9, by omega, fun HD sD => ?_⟩
  exact ⟨.ref pc, .ref p9, txy y, .y y, rfl, (oC.same sD).namedBy MYN fy hv9 hd9, (oC.same sD).shownBy MYS f3 fy hd9 (by omega), iy.same (tC.trans sD), hv9, by show ydp y < 19; omega, fun HE sE => q _⟩
end
end Nw

set_option Elab.async false
set_option linter.all false
set_option maxRecDepth 100000
set_option maxHeartbeats 4000000
namespace Nw
open PySem L2
theorem all_mk {l : PySem.W.OpenLaw} {w : World} {K : PySem.W.Frag} {h : Heap} {mg : Str → Option Value} {fa CN CM CP CI CX CY CQ CA CE CU CB CO CT fNI fMI fTI fPI fOI fTN fPN fNS fMS fPS fIS fXS fNN fMN fYS fLS fAS fES fUS fBS fOS fTS fYN fTNn fCe fMi fOw fPo fLe fSu fSt fSa fTe fHa fTo fNm fRi fCm fTw fBr fBs fL : Addr} {odNI anNI odMI anMI odTI anTI odPI anPI odOI anOI odTN anTN odPN anPN odNS anNS odMS anMS odPS anPS odIS anIS odXS anXS odNN anNN odMN anMN odYS anYS odLS anLS odAS anAS odES anES odUS anUS odBS anBS odOS anOS odTS anTS odYN anYN odTNn anTNn odCe anCe odMi anMi odOw anOw odPo anPo odLe anLe odSu anSu odSt anSt odSa anSa odTe anTe odHa anHa odTo anTo odNm anNm odRi anRi odCm anCm odTw anTw odBr anBr odBs anBs odL anL : Option Addr} {slNI slMI slTI slPI slOI slTN slPN slNS slMS slPS slIS slXS slNN slMN slYS slLS slAS slES slUS slBS slOS slTS slYN slTNn slCe slMi slOw slPo slLe slSu slSt slSa slTe slHa slTo slNm slRi slCm slTw slBr slBs slL : Array (Option Value)} {ocNI kVNI dcNI pmNI cdNI ctNI ocMI kVMI dcMI pmMI cdMI ctMI ocTI kVTI dcTI pmTI cdTI ctTI ocPI kVPI dcPI pmPI cdPI ctPI ocOI kVOI dcOI pmOI cdOI ctOI ocTN kVTN dcTN pmTN cdTN ctTN ocPN kVPN dcPN pmPN cdPN ctPN ocNS kVNS dcNS pmNS cdNS ctNS ocMS kVMS dcMS pmMS cdMS ctMS ocPS kVPS dcPS pmPS cdPS ctPS ocIS kVIS dcIS pmIS cdIS ctIS ocXS kVXS dcXS pmXS cdXS ctXS ocNN kVNN dcNN pmNN cdNN ctNN ocMN kVMN dcMN pmMN cdMN ctMN ocYS kVYS dcYS pmYS cdYS ctYS ocLS kVLS dcLS pmLS cdLS ctLS ocAS kVAS dcAS pmAS cdAS ctAS ocES kVES dcES pmES cdES ctES ocUS kVUS dcUS pmUS cdUS ctUS ocBS kVBS dcBS pmBS cdBS ctBS ocOS kVOS dcOS pmOS cdOS ctOS ocTS kVTS dcTS pmTS cdTS ctTS ocYN kVYN dcYN pmYN cdYN ctYN ocTNn kVTNn dcTNn pmTNn cdTNn ctTNn ocCe kVCe dcCe pmCe cdCe ctCe ocMi kVMi dcMi pmMi cdMi ctMi ocOw kVOw dcOw pmOw cdOw ctOw ocPo kVPo dcPo pmPo cdPo ctPo ocLe kVLe dcLe pmLe cdLe ctLe ocSu kVSu dcSu pmSu cdSu ctSu ocSt kVSt dcSt pmSt cdSt ctSt ocSa kVSa dcSa pmSa cdSa ctSa ocTe kVTe dcTe pmTe cdTe ctTe ocHa kVHa dcHa pmHa cdHa ctHa ocTo kVTo dcTo pmTo cdTo ctTo ocNm kVNm dcNm pmNm cdNm ctNm ocRi kVRi dcRi pmRi cdRi ctRi ocCm kVCm dcCm pmCm cdCm ctCm ocTw kVTw dcTw pmTw cdTw ctTw ocBr kVBr dcBr pmBr cdBr ctBr ocBs kVBs dcBs pmBs cdBs ctBs ocL kVL dcL pmL cdL ctL : Value} (X : K.In h) (G : h.Ns mainGlobals mg) (hfa : mg "law" = some (.ref fa))
    (aN : PySem.W.nsIn K mainGlobals "Number" = some (some (.ref CN)))
    (pgN : PySem.W.plainGet K CN Str.empty = true)
    (hdN : PySem.W.hasDictIn K CN = true)
    (poN : PySem.W.plainOver K CN = true)
    (saN : PySem.W.findIn K (.ref CN) "__setattr__" = some (some (.builtin "object.__setattr__")))
    (mkN : PySem.W.makesIn K CN = true)
    (kcN : PySem.W.keepIn K (.ref CN) = true)
    (nN_number : PySem.W.findIn K (.ref CN) "number" = some none)
    (aM : PySem.W.nsIn K mainGlobals "Named" = some (some (.ref CM)))
    (pgM : PySem.W.plainGet K CM Str.empty = true)
    (hdM : PySem.W.hasDictIn K CM = true)
    (poM : PySem.W.plainOver K CM = true)
    (saM : PySem.W.findIn K (.ref CM) "__setattr__" = some (some (.builtin "object.__setattr__")))
    (mkM : PySem.W.makesIn K CM = true)
    (kcM : PySem.W.keepIn K (.ref CM) = true)
    (nM_name : PySem.W.findIn K (.ref CM) "name" = some none)
    (aP : PySem.W.nsIn K mainGlobals "Plus" = some (some (.ref CP)))
    (pgP : PySem.W.plainGet K CP Str.empty = true)
    (hdP : PySem.W.hasDictIn K CP = true)
    (poP : PySem.W.plainOver K CP = true)
    (saP : PySem.W.findIn K (.ref CP) "__setattr__" = some (some (.builtin "object.__setattr__")))
    (mkP : PySem.W.makesIn K CP = true)
    (kcP : PySem.W.keepIn K (.ref CP) = true)
    (nP_one : PySem.W.findIn K (.ref CP) "one" = some none)
    (nP_other : PySem.W.findIn K (.ref CP) "other" = some none)
    (aI : PySem.W.nsIn K mainGlobals "Minus" = some (some (.ref CI)))
    (pgI : PySem.W.plainGet K CI Str.empty = true)
    (hdI : PySem.W.hasDictIn K CI = true)
    (poI : PySem.W.plainOver K CI = true)
    (saI : PySem.W.findIn K (.ref CI) "__setattr__" = some (some (.builtin "object.__setattr__")))
    (mkI : PySem.W.makesIn K CI = true)
    (kcI : PySem.W.keepIn K (.ref CI) = true)
    (nI_one : PySem.W.findIn K (.ref CI) "one" = some none)
    (nI_other : PySem.W.findIn K (.ref CI) "other" = some none)
    (aX : PySem.W.nsIn K mainGlobals "Times" = some (some (.ref CX)))
    (pgX : PySem.W.plainGet K CX Str.empty = true)
    (hdX : PySem.W.hasDictIn K CX = true)
    (poX : PySem.W.plainOver K CX = true)
    (saX : PySem.W.findIn K (.ref CX) "__setattr__" = some (some (.builtin "object.__setattr__")))
    (mkX : PySem.W.makesIn K CX = true)
    (kcX : PySem.W.keepIn K (.ref CX) = true)
    (nX_one : PySem.W.findIn K (.ref CX) "one" = some none)
    (nX_other : PySem.W.findIn K (.ref CX) "other" = some none)
    (aY : PySem.W.nsIn K mainGlobals "Saying" = some (some (.ref CY)))
    (pgY : PySem.W.plainGet K CY Str.empty = true)
    (hdY : PySem.W.hasDictIn K CY = true)
    (poY : PySem.W.plainOver K CY = true)
    (saY : PySem.W.findIn K (.ref CY) "__setattr__" = some (some (.builtin "object.__setattr__")))
    (mkY : PySem.W.makesIn K CY = true)
    (kcY : PySem.W.keepIn K (.ref CY) = true)
    (inY : PySem.W.findIn K (.ref CY) "__init__" = some (some (.builtin "object.__init__")))
    (aQ : PySem.W.nsIn K mainGlobals "Less" = some (some (.ref CQ)))
    (pgQ : PySem.W.plainGet K CQ Str.empty = true)
    (hdQ : PySem.W.hasDictIn K CQ = true)
    (poQ : PySem.W.plainOver K CQ = true)
    (saQ : PySem.W.findIn K (.ref CQ) "__setattr__" = some (some (.builtin "object.__setattr__")))
    (mkQ : PySem.W.makesIn K CQ = true)
    (kcQ : PySem.W.keepIn K (.ref CQ) = true)
    (nQ_one : PySem.W.findIn K (.ref CQ) "one" = some none)
    (nQ_other : PySem.W.findIn K (.ref CQ) "other" = some none)
    (aA : PySem.W.nsIn K mainGlobals "AtMost" = some (some (.ref CA)))
    (pgA : PySem.W.plainGet K CA Str.empty = true)
    (hdA : PySem.W.hasDictIn K CA = true)
    (poA : PySem.W.plainOver K CA = true)
    (saA : PySem.W.findIn K (.ref CA) "__setattr__" = some (some (.builtin "object.__setattr__")))
    (mkA : PySem.W.makesIn K CA = true)
    (kcA : PySem.W.keepIn K (.ref CA) = true)
    (nA_one : PySem.W.findIn K (.ref CA) "one" = some none)
    (nA_other : PySem.W.findIn K (.ref CA) "other" = some none)
    (aE : PySem.W.nsIn K mainGlobals "Equal" = some (some (.ref CE)))
    (pgE : PySem.W.plainGet K CE Str.empty = true)
    (hdE : PySem.W.hasDictIn K CE = true)
    (poE : PySem.W.plainOver K CE = true)
    (saE : PySem.W.findIn K (.ref CE) "__setattr__" = some (some (.builtin "object.__setattr__")))
    (mkE : PySem.W.makesIn K CE = true)
    (kcE : PySem.W.keepIn K (.ref CE) = true)
    (nE_one : PySem.W.findIn K (.ref CE) "one" = some none)
    (nE_other : PySem.W.findIn K (.ref CE) "other" = some none)
    (aU : PySem.W.nsIn K mainGlobals "Unlike" = some (some (.ref CU)))
    (pgU : PySem.W.plainGet K CU Str.empty = true)
    (hdU : PySem.W.hasDictIn K CU = true)
    (poU : PySem.W.plainOver K CU = true)
    (saU : PySem.W.findIn K (.ref CU) "__setattr__" = some (some (.builtin "object.__setattr__")))
    (mkU : PySem.W.makesIn K CU = true)
    (kcU : PySem.W.keepIn K (.ref CU) = true)
    (nU_one : PySem.W.findIn K (.ref CU) "one" = some none)
    (nU_other : PySem.W.findIn K (.ref CU) "other" = some none)
    (aB : PySem.W.nsIn K mainGlobals "Both" = some (some (.ref CB)))
    (pgB : PySem.W.plainGet K CB Str.empty = true)
    (hdB : PySem.W.hasDictIn K CB = true)
    (poB : PySem.W.plainOver K CB = true)
    (saB : PySem.W.findIn K (.ref CB) "__setattr__" = some (some (.builtin "object.__setattr__")))
    (mkB : PySem.W.makesIn K CB = true)
    (kcB : PySem.W.keepIn K (.ref CB) = true)
    (nB_one : PySem.W.findIn K (.ref CB) "one" = some none)
    (nB_other : PySem.W.findIn K (.ref CB) "other" = some none)
    (aO : PySem.W.nsIn K mainGlobals "Either" = some (some (.ref CO)))
    (pgO : PySem.W.plainGet K CO Str.empty = true)
    (hdO : PySem.W.hasDictIn K CO = true)
    (poO : PySem.W.plainOver K CO = true)
    (saO : PySem.W.findIn K (.ref CO) "__setattr__" = some (some (.builtin "object.__setattr__")))
    (mkO : PySem.W.makesIn K CO = true)
    (kcO : PySem.W.keepIn K (.ref CO) = true)
    (nO_one : PySem.W.findIn K (.ref CO) "one" = some none)
    (nO_other : PySem.W.findIn K (.ref CO) "other" = some none)
    (aT : PySem.W.nsIn K mainGlobals "Not" = some (some (.ref CT)))
    (pgT : PySem.W.plainGet K CT Str.empty = true)
    (hdT : PySem.W.hasDictIn K CT = true)
    (poT : PySem.W.plainOver K CT = true)
    (saT : PySem.W.findIn K (.ref CT) "__setattr__" = some (some (.builtin "object.__setattr__")))
    (mkT : PySem.W.makesIn K CT = true)
    (kcT : PySem.W.keepIn K (.ref CT) = true)
    (nT_one : PySem.W.findIn K (.ref CT) "one" = some none)
    (aNI : PySem.W.findIn K (.ref CN) "__init__" = some (some (.ref fNI)))
    (iNI : PySem.W.isFn K (.ref fNI) = true)
    (lNI : K.lookup fNI = some ⟨ocNI, odNI, .func (PySem.W.fnOf "__init__" "Number.__init__" (defArgs sNumI) (defBody sNumI) (defScope sNumI) .none kVNI dcNI pmNI anNI cdNI ctNI), slNI⟩)
    (cNI : PySem.W.codeIn K cdNI "Number.__init__" = true)
    (kNI : PySem.W.keepIn K (.ref fNI) = true)
    (aMI : PySem.W.findIn K (.ref CM) "__init__" = some (some (.ref fMI)))
    (iMI : PySem.W.isFn K (.ref fMI) = true)
    (lMI : K.lookup fMI = some ⟨ocMI, odMI, .func (PySem.W.fnOf "__init__" "Named.__init__" (defArgs sNamI) (defBody sNamI) (defScope sNamI) .none kVMI dcMI pmMI anMI cdMI ctMI), slMI⟩)
    (cMI : PySem.W.codeIn K cdMI "Named.__init__" = true)
    (kMI : PySem.W.keepIn K (.ref fMI) = true)
    (aTI : PySem.W.findIn K (.ref CP) "__init__" = some (some (.ref fTI)))
    (aTII : PySem.W.findIn K (.ref CI) "__init__" = some (some (.ref fTI)))
    (aTIX : PySem.W.findIn K (.ref CX) "__init__" = some (some (.ref fTI)))
    (iTI : PySem.W.isFn K (.ref fTI) = true)
    (lTI : K.lookup fTI = some ⟨ocTI, odTI, .func (PySem.W.fnOf "__init__" "Twofold.__init__" (defArgs sTwoI) (defBody sTwoI) (defScope sTwoI) .none kVTI dcTI pmTI anTI cdTI ctTI), slTI⟩)
    (cTI : PySem.W.codeIn K cdTI "Twofold.__init__" = true)
    (kTI : PySem.W.keepIn K (.ref fTI) = true)
    (aPI : PySem.W.findIn K (.ref CQ) "__init__" = some (some (.ref fPI)))
    (aPIA : PySem.W.findIn K (.ref CA) "__init__" = some (some (.ref fPI)))
    (aPIE : PySem.W.findIn K (.ref CE) "__init__" = some (some (.ref fPI)))
    (aPIU : PySem.W.findIn K (.ref CU) "__init__" = some (some (.ref fPI)))
    (aPIB : PySem.W.findIn K (.ref CB) "__init__" = some (some (.ref fPI)))
    (aPIO : PySem.W.findIn K (.ref CO) "__init__" = some (some (.ref fPI)))
    (iPI : PySem.W.isFn K (.ref fPI) = true)
    (lPI : K.lookup fPI = some ⟨ocPI, odPI, .func (PySem.W.fnOf "__init__" "Pairing.__init__" (defArgs sPaiI) (defBody sPaiI) (defScope sPaiI) .none kVPI dcPI pmPI anPI cdPI ctPI), slPI⟩)
    (cPI : PySem.W.codeIn K cdPI "Pairing.__init__" = true)
    (kPI : PySem.W.keepIn K (.ref fPI) = true)
    (aOI : PySem.W.findIn K (.ref CT) "__init__" = some (some (.ref fOI)))
    (iOI : PySem.W.isFn K (.ref fOI) = true)
    (lOI : K.lookup fOI = some ⟨ocOI, odOI, .func (PySem.W.fnOf "__init__" "Not.__init__" (defArgs sNotI) (defBody sNotI) (defScope sNotI) .none kVOI dcOI pmOI anOI cdOI ctOI), slOI⟩)
    (cOI : PySem.W.codeIn K cdOI "Not.__init__" = true)
    (kOI : PySem.W.keepIn K (.ref fOI) = true)
    (aTN : PySem.W.findIn K (.ref CP) "named" = some (some (.ref fTN)))
    (aTNI : PySem.W.findIn K (.ref CI) "named" = some (some (.ref fTN)))
    (aTNX : PySem.W.findIn K (.ref CX) "named" = some (some (.ref fTN)))
    (iTN : PySem.W.isFn K (.ref fTN) = true)
    (lTN : K.lookup fTN = some ⟨ocTN, odTN, .func (PySem.W.fnOf "named" "Twofold.named" (defArgs sTwoN) (defBody sTwoN) (defScope sTwoN) .none kVTN dcTN pmTN anTN cdTN ctTN), slTN⟩)
    (cTN : PySem.W.codeIn K cdTN "Twofold.named" = true)
    (kTN : PySem.W.keepIn K (.ref fTN) = true)
    (aPN : PySem.W.findIn K (.ref CQ) "named" = some (some (.ref fPN)))
    (aPNA : PySem.W.findIn K (.ref CA) "named" = some (some (.ref fPN)))
    (aPNE : PySem.W.findIn K (.ref CE) "named" = some (some (.ref fPN)))
    (aPNU : PySem.W.findIn K (.ref CU) "named" = some (some (.ref fPN)))
    (aPNB : PySem.W.findIn K (.ref CB) "named" = some (some (.ref fPN)))
    (aPNO : PySem.W.findIn K (.ref CO) "named" = some (some (.ref fPN)))
    (iPN : PySem.W.isFn K (.ref fPN) = true)
    (lPN : K.lookup fPN = some ⟨ocPN, odPN, .func (PySem.W.fnOf "named" "Pairing.named" (defArgs sPaiN) (defBody sPaiN) (defScope sPaiN) .none kVPN dcPN pmPN anPN cdPN ctPN), slPN⟩)
    (cPN : PySem.W.codeIn K cdPN "Pairing.named" = true)
    (kPN : PySem.W.keepIn K (.ref fPN) = true)
    (aNS : PySem.W.findIn K (.ref CN) "shown" = some (some (.ref fNS)))
    (iNS : PySem.W.isFn K (.ref fNS) = true)
    (lNS : K.lookup fNS = some ⟨ocNS, odNS, .func (PySem.W.fnOf "shown" "Number.shown" (defArgs sNumS) (defBody sNumS) (defScope sNumS) .none kVNS dcNS pmNS anNS cdNS ctNS), slNS⟩)
    (cNS : PySem.W.codeIn K cdNS "Number.shown" = true)
    (kNS : PySem.W.keepIn K (.ref fNS) = true)
    (aMS : PySem.W.findIn K (.ref CM) "shown" = some (some (.ref fMS)))
    (iMS : PySem.W.isFn K (.ref fMS) = true)
    (lMS : K.lookup fMS = some ⟨ocMS, odMS, .func (PySem.W.fnOf "shown" "Named.shown" (defArgs sNamS) (defBody sNamS) (defScope sNamS) .none kVMS dcMS pmMS anMS cdMS ctMS), slMS⟩)
    (cMS : PySem.W.codeIn K cdMS "Named.shown" = true)
    (kMS : PySem.W.keepIn K (.ref fMS) = true)
    (aPS : PySem.W.findIn K (.ref CP) "shown" = some (some (.ref fPS)))
    (iPS : PySem.W.isFn K (.ref fPS) = true)
    (lPS : K.lookup fPS = some ⟨ocPS, odPS, .func (PySem.W.fnOf "shown" "Plus.shown" (defArgs sPluS) (defBody sPluS) (defScope sPluS) .none kVPS dcPS pmPS anPS cdPS ctPS), slPS⟩)
    (cPS : PySem.W.codeIn K cdPS "Plus.shown" = true)
    (kPS : PySem.W.keepIn K (.ref fPS) = true)
    (aIS : PySem.W.findIn K (.ref CI) "shown" = some (some (.ref fIS)))
    (iIS : PySem.W.isFn K (.ref fIS) = true)
    (lIS : K.lookup fIS = some ⟨ocIS, odIS, .func (PySem.W.fnOf "shown" "Minus.shown" (defArgs sMinS) (defBody sMinS) (defScope sMinS) .none kVIS dcIS pmIS anIS cdIS ctIS), slIS⟩)
    (cIS : PySem.W.codeIn K cdIS "Minus.shown" = true)
    (kIS : PySem.W.keepIn K (.ref fIS) = true)
    (aXS : PySem.W.findIn K (.ref CX) "shown" = some (some (.ref fXS)))
    (iXS : PySem.W.isFn K (.ref fXS) = true)
    (lXS : K.lookup fXS = some ⟨ocXS, odXS, .func (PySem.W.fnOf "shown" "Times.shown" (defArgs sTimS) (defBody sTimS) (defScope sTimS) .none kVXS dcXS pmXS anXS cdXS ctXS), slXS⟩)
    (cXS : PySem.W.codeIn K cdXS "Times.shown" = true)
    (kXS : PySem.W.keepIn K (.ref fXS) = true)
    (aNN : PySem.W.findIn K (.ref CN) "named" = some (some (.ref fNN)))
    (iNN : PySem.W.isFn K (.ref fNN) = true)
    (lNN : K.lookup fNN = some ⟨ocNN, odNN, .func (PySem.W.fnOf "named" "Sum.named" (defArgs sSumN) (defBody sSumN) (defScope sSumN) .none kVNN dcNN pmNN anNN cdNN ctNN), slNN⟩)
    (cNN : PySem.W.codeIn K cdNN "Sum.named" = true)
    (kNN : PySem.W.keepIn K (.ref fNN) = true)
    (aMN : PySem.W.findIn K (.ref CM) "named" = some (some (.ref fMN)))
    (iMN : PySem.W.isFn K (.ref fMN) = true)
    (lMN : K.lookup fMN = some ⟨ocMN, odMN, .func (PySem.W.fnOf "named" "Named.named" (defArgs sNamN) (defBody sNamN) (defScope sNamN) .none kVMN dcMN pmMN anMN cdMN ctMN), slMN⟩)
    (cMN : PySem.W.codeIn K cdMN "Named.named" = true)
    (kMN : PySem.W.keepIn K (.ref fMN) = true)
    (aYS : PySem.W.findIn K (.ref CY) "shown" = some (some (.ref fYS)))
    (iYS : PySem.W.isFn K (.ref fYS) = true)
    (lYS : K.lookup fYS = some ⟨ocYS, odYS, .func (PySem.W.fnOf "shown" "Saying.shown" (defArgs sSayS) (defBody sSayS) (defScope sSayS) .none kVYS dcYS pmYS anYS cdYS ctYS), slYS⟩)
    (cYS : PySem.W.codeIn K cdYS "Saying.shown" = true)
    (kYS : PySem.W.keepIn K (.ref fYS) = true)
    (aLS : PySem.W.findIn K (.ref CQ) "shown" = some (some (.ref fLS)))
    (iLS : PySem.W.isFn K (.ref fLS) = true)
    (lLS : K.lookup fLS = some ⟨ocLS, odLS, .func (PySem.W.fnOf "shown" "Less.shown" (defArgs sLesS) (defBody sLesS) (defScope sLesS) .none kVLS dcLS pmLS anLS cdLS ctLS), slLS⟩)
    (cLS : PySem.W.codeIn K cdLS "Less.shown" = true)
    (kLS : PySem.W.keepIn K (.ref fLS) = true)
    (aAS : PySem.W.findIn K (.ref CA) "shown" = some (some (.ref fAS)))
    (iAS : PySem.W.isFn K (.ref fAS) = true)
    (lAS : K.lookup fAS = some ⟨ocAS, odAS, .func (PySem.W.fnOf "shown" "AtMost.shown" (defArgs sAtmS) (defBody sAtmS) (defScope sAtmS) .none kVAS dcAS pmAS anAS cdAS ctAS), slAS⟩)
    (cAS : PySem.W.codeIn K cdAS "AtMost.shown" = true)
    (kAS : PySem.W.keepIn K (.ref fAS) = true)
    (aES : PySem.W.findIn K (.ref CE) "shown" = some (some (.ref fES)))
    (iES : PySem.W.isFn K (.ref fES) = true)
    (lES : K.lookup fES = some ⟨ocES, odES, .func (PySem.W.fnOf "shown" "Equal.shown" (defArgs sEquS) (defBody sEquS) (defScope sEquS) .none kVES dcES pmES anES cdES ctES), slES⟩)
    (cES : PySem.W.codeIn K cdES "Equal.shown" = true)
    (kES : PySem.W.keepIn K (.ref fES) = true)
    (aUS : PySem.W.findIn K (.ref CU) "shown" = some (some (.ref fUS)))
    (iUS : PySem.W.isFn K (.ref fUS) = true)
    (lUS : K.lookup fUS = some ⟨ocUS, odUS, .func (PySem.W.fnOf "shown" "Unlike.shown" (defArgs sUnlS) (defBody sUnlS) (defScope sUnlS) .none kVUS dcUS pmUS anUS cdUS ctUS), slUS⟩)
    (cUS : PySem.W.codeIn K cdUS "Unlike.shown" = true)
    (kUS : PySem.W.keepIn K (.ref fUS) = true)
    (aBS : PySem.W.findIn K (.ref CB) "shown" = some (some (.ref fBS)))
    (iBS : PySem.W.isFn K (.ref fBS) = true)
    (lBS : K.lookup fBS = some ⟨ocBS, odBS, .func (PySem.W.fnOf "shown" "Both.shown" (defArgs sBotS) (defBody sBotS) (defScope sBotS) .none kVBS dcBS pmBS anBS cdBS ctBS), slBS⟩)
    (cBS : PySem.W.codeIn K cdBS "Both.shown" = true)
    (kBS : PySem.W.keepIn K (.ref fBS) = true)
    (aOS : PySem.W.findIn K (.ref CO) "shown" = some (some (.ref fOS)))
    (iOS : PySem.W.isFn K (.ref fOS) = true)
    (lOS : K.lookup fOS = some ⟨ocOS, odOS, .func (PySem.W.fnOf "shown" "Either.shown" (defArgs sEitS) (defBody sEitS) (defScope sEitS) .none kVOS dcOS pmOS anOS cdOS ctOS), slOS⟩)
    (cOS : PySem.W.codeIn K cdOS "Either.shown" = true)
    (kOS : PySem.W.keepIn K (.ref fOS) = true)
    (aTS : PySem.W.findIn K (.ref CT) "shown" = some (some (.ref fTS)))
    (iTS : PySem.W.isFn K (.ref fTS) = true)
    (lTS : K.lookup fTS = some ⟨ocTS, odTS, .func (PySem.W.fnOf "shown" "Not.shown" (defArgs sNotS) (defBody sNotS) (defScope sNotS) .none kVTS dcTS pmTS anTS cdTS ctTS), slTS⟩)
    (cTS : PySem.W.codeIn K cdTS "Not.shown" = true)
    (kTS : PySem.W.keepIn K (.ref fTS) = true)
    (aYN : PySem.W.findIn K (.ref CY) "named" = some (some (.ref fYN)))
    (iYN : PySem.W.isFn K (.ref fYN) = true)
    (lYN : K.lookup fYN = some ⟨ocYN, odYN, .func (PySem.W.fnOf "named" "Saying.named" (defArgs sSayN) (defBody sSayN) (defScope sSayN) .none kVYN dcYN pmYN anYN cdYN ctYN), slYN⟩)
    (cYN : PySem.W.codeIn K cdYN "Saying.named" = true)
    (kYN : PySem.W.keepIn K (.ref fYN) = true)
    (aTNn : PySem.W.findIn K (.ref CT) "named" = some (some (.ref fTNn)))
    (iTNn : PySem.W.isFn K (.ref fTNn) = true)
    (lTNn : K.lookup fTNn = some ⟨ocTNn, odTNn, .func (PySem.W.fnOf "named" "Not.named" (defArgs sNotN) (defBody sNotN) (defScope sNotN) .none kVTNn dcTNn pmTNn anTNn cdTNn ctTNn), slTNn⟩)
    (cTNn : PySem.W.codeIn K cdTNn "Not.named" = true)
    (kTNn : PySem.W.keepIn K (.ref fTNn) = true)
    (aCe : PySem.W.nsIn K mainGlobals "_law_cell_at" = some (some (.ref fCe)))
    (lCe : K.lookup fCe = some ⟨ocCe, odCe, .func (PySem.W.fnOf "_law_cell_at" "_law_cell_at" (defArgs sCell) (defBody sCell) (defScope sCell) .none kVCe dcCe pmCe anCe cdCe ctCe), slCe⟩)
    (cCe : PySem.W.codeIn K cdCe "_law_cell_at" = true)
    (kCe : PySem.W.keepIn K (.ref fCe) = true)
    (aMi : PySem.W.nsIn K mainGlobals "_law_mix" = some (some (.ref fMi)))
    (lMi : K.lookup fMi = some ⟨ocMi, odMi, .func (PySem.W.fnOf "_law_mix" "_law_mix" (defArgs sMix) (defBody sMix) (defScope sMix) .none kVMi dcMi pmMi anMi cdMi ctMi), slMi⟩)
    (cMi : PySem.W.codeIn K cdMi "_law_mix" = true)
    (kMi : PySem.W.keepIn K (.ref fMi) = true)
    (aOw : PySem.W.nsIn K mainGlobals "_law_own" = some (some (.ref fOw)))
    (lOw : K.lookup fOw = some ⟨ocOw, odOw, .func (PySem.W.fnOf "_law_own" "_law_own" (defArgs sOwn) (defBody sOwn) (defScope sOwn) .none kVOw dcOw pmOw anOw cdOw ctOw), slOw⟩)
    (cOw : PySem.W.codeIn K cdOw "_law_own" = true)
    (kOw : PySem.W.keepIn K (.ref fOw) = true)
    (aPo : PySem.W.nsIn K mainGlobals "_law_pool" = some (some (.ref fPo)))
    (lPo : K.lookup fPo = some ⟨ocPo, odPo, .func (PySem.W.fnOf "_law_pool" "_law_pool" (defArgs sPool) (defBody sPool) (defScope sPool) .none kVPo dcPo pmPo anPo cdPo ctPo), slPo⟩)
    (cPo : PySem.W.codeIn K cdPo "_law_pool" = true)
    (kPo : PySem.W.keepIn K (.ref fPo) = true)
    (aLe : PySem.W.nsIn K mainGlobals "_law_leaf" = some (some (.ref fLe)))
    (lLe : K.lookup fLe = some ⟨ocLe, odLe, .func (PySem.W.fnOf "_law_leaf" "_law_leaf" (defArgs sLeaf) (defBody sLeaf) (defScope sLeaf) .none kVLe dcLe pmLe anLe cdLe ctLe), slLe⟩)
    (cLe : PySem.W.codeIn K cdLe "_law_leaf" = true)
    (kLe : PySem.W.keepIn K (.ref fLe) = true)
    (aSu : PySem.W.nsIn K mainGlobals "_law_sum" = some (some (.ref fSu)))
    (lSu : K.lookup fSu = some ⟨ocSu, odSu, .func (PySem.W.fnOf "_law_sum" "_law_sum" (defArgs sSum) (defBody sSum) (defScope sSum) .none kVSu dcSu pmSu anSu cdSu ctSu), slSu⟩)
    (cSu : PySem.W.codeIn K cdSu "_law_sum" = true)
    (kSu : PySem.W.keepIn K (.ref fSu) = true)
    (aSt : PySem.W.nsIn K mainGlobals "_law_sum_text" = some (some (.ref fSt)))
    (lSt : K.lookup fSt = some ⟨ocSt, odSt, .func (PySem.W.fnOf "_law_sum_text" "_law_sum_text" (defArgs sText) (defBody sText) (defScope sText) .none kVSt dcSt pmSt anSt cdSt ctSt), slSt⟩)
    (cSt : PySem.W.codeIn K cdSt "_law_sum_text" = true)
    (kSt : PySem.W.keepIn K (.ref fSt) = true)
    (aSa : PySem.W.nsIn K mainGlobals "_law_saying" = some (some (.ref fSa)))
    (lSa : K.lookup fSa = some ⟨ocSa, odSa, .func (PySem.W.fnOf "_law_saying" "_law_saying" (defArgs sSaying) (defBody sSaying) (defScope sSaying) .none kVSa dcSa pmSa anSa cdSa ctSa), slSa⟩)
    (cSa : PySem.W.codeIn K cdSa "_law_saying" = true)
    (kSa : PySem.W.keepIn K (.ref fSa) = true)
    (aTe : PySem.W.nsIn K mainGlobals "_law_text" = some (some (.ref fTe)))
    (lTe : K.lookup fTe = some ⟨ocTe, odTe, .func (PySem.W.fnOf "_law_text" "_law_text" (defArgs sTxy) (defBody sTxy) (defScope sTxy) .none kVTe dcTe pmTe anTe cdTe ctTe), slTe⟩)
    (cTe : PySem.W.codeIn K cdTe "_law_text" = true)
    (kTe : PySem.W.keepIn K (.ref fTe) = true)
    (aHa : PySem.W.nsIn K mainGlobals "_law_by_hand" = some (some (.ref fHa)))
    (lHa : K.lookup fHa = some ⟨ocHa, odHa, .func (PySem.W.fnOf "_law_by_hand" "_law_by_hand" (defArgs sHand) (defBody sHand) (defScope sHand) .none kVHa dcHa pmHa anHa cdHa ctHa), slHa⟩)
    (cHa : PySem.W.codeIn K cdHa "_law_by_hand" = true)
    (kHa : PySem.W.keepIn K (.ref fHa) = true)
    (aTo : PySem.W.nsIn K mainGlobals "_law_told_by_hand" = some (some (.ref fTo)))
    (lTo : K.lookup fTo = some ⟨ocTo, odTo, .func (PySem.W.fnOf "_law_told_by_hand" "_law_told_by_hand" (defArgs sTold) (defBody sTold) (defScope sTold) .none kVTo dcTo pmTo anTo cdTo ctTo), slTo⟩)
    (cTo : PySem.W.codeIn K cdTo "_law_told_by_hand" = true)
    (kTo : PySem.W.keepIn K (.ref fTo) = true)
    (aNm : PySem.W.nsIn K mainGlobals "_law_names" = some (some (.ref fNm)))
    (lNm : K.lookup fNm = some ⟨ocNm, odNm, .func (PySem.W.fnOf "_law_names" "_law_names" (defArgs sNm) (defBody sNm) (defScope sNm) .none kVNm dcNm pmNm anNm cdNm ctNm), slNm⟩)
    (cNm : PySem.W.codeIn K cdNm "_law_names" = true)
    (kNm : PySem.W.keepIn K (.ref fNm) = true)
    (aRi : PySem.W.nsIn K mainGlobals "_law_right" = some (some (.ref fRi)))
    (lRi : K.lookup fRi = some ⟨ocRi, odRi, .func (PySem.W.fnOf "_law_right" "_law_right" (defArgs sRight) (defBody sRight) (defScope sRight) .none kVRi dcRi pmRi anRi cdRi ctRi), slRi⟩)
    (cRi : PySem.W.codeIn K cdRi "_law_right" = true)
    (kRi : PySem.W.keepIn K (.ref fRi) = true)
    (aCm : PySem.W.nsIn K mainGlobals "compared" = some (some (.ref fCm)))
    (lCm : K.lookup fCm = some ⟨ocCm, odCm, .func (PySem.W.fnOf "compared" "compared" (defArgs sCmp) (defBody sCmp) (defScope sCmp) .none kVCm dcCm pmCm anCm cdCm ctCm), slCm⟩)
    (cCm : PySem.W.codeIn K cdCm "compared" = true)
    (kCm : PySem.W.keepIn K (.ref fCm) = true)
    (aTw : PySem.W.nsIn K mainGlobals "names_of_two" = some (some (.ref fTw)))
    (lTw : K.lookup fTw = some ⟨ocTw, odTw, .func (PySem.W.fnOf "names_of_two" "names_of_two" (defArgs sTwoO) (defBody sTwoO) (defScope sTwoO) .none kVTw dcTw pmTw anTw cdTw ctTw), slTw⟩)
    (cTw : PySem.W.codeIn K cdTw "names_of_two" = true)
    (kTw : PySem.W.keepIn K (.ref fTw) = true)
    (aBr : PySem.W.nsIn K mainGlobals "bracketed_sums" = some (some (.ref fBr)))
    (lBr : K.lookup fBr = some ⟨ocBr, odBr, .func (PySem.W.fnOf "bracketed" "bracketed" (defArgs sBra) (defBody sBra) (defScope sBra) .none kVBr dcBr pmBr anBr cdBr ctBr), slBr⟩)
    (cBr : PySem.W.codeIn K cdBr "bracketed" = true)
    (kBr : PySem.W.keepIn K (.ref fBr) = true)
    (aBs : PySem.W.nsIn K mainGlobals "bracketed_sayings" = some (some (.ref fBs)))
    (lBs : K.lookup fBs = some ⟨ocBs, odBs, .func (PySem.W.fnOf "bracketed" "bracketed" (defArgs sBrs) (defBody sBrs) (defScope sBrs) .none kVBs dcBs pmBs anBs cdBs ctBs), slBs⟩)
    (cBs : PySem.W.codeIn K cdBs "bracketed" = true)
    (kBs : PySem.W.keepIn K (.ref fBs) = true)
    (aL : PySem.W.nsIn K mainGlobals "law" = some (some (.ref fL)))
    (lL : K.lookup fL = some ⟨ocL, odL, .func (PySem.W.fnOf "law" "law" (defArgs sLaw) (defBody sLaw) (defScope sLaw) .none kVL dcL pmL anL cdL ctL), slL⟩)
    (cL : PySem.W.codeIn K cdL "law" = true)
    (kL : PySem.W.keepIn K (.ref fL) = true)
    (z_len : PySem.W.nsIn K mainGlobals "len" = some none)
    (z_range : PySem.W.nsIn K mainGlobals "range" = some none)
    (z_isinstance : PySem.W.nsIn K mainGlobals "isinstance" = some none)
    (z_str : PySem.W.nsIn K mainGlobals "str" = some none)
    (z_list : PySem.W.nsIn K mainGlobals "list" = some none)
    (z_tuple : PySem.W.nsIn K mainGlobals "tuple" = some none)
    (z_sorted : PySem.W.nsIn K mainGlobals "sorted" = some none)
    (z_set : PySem.W.nsIn K mainGlobals "set" = some none)
    : ∃ fd : FuncData, (∀ (s : Shared) (v : Value), BindsTo s fd ⟨[v], []⟩ [("_law_script", v)]) ∧ ∀ base : Heap, K.In base → base.Ns mainGlobals mg → FnOk l.prog w K mg base CX0 41 fa fd ["_law_script"] (spLaw K) := by
  have e := hfa.symm.trans (PySem.W.mg_of X G aL)
  cases e
  have FNI := fun_mk (st := sNumI) lNI cNI kNI
  have bNI := FNI.binds (ps := ["self", "number"]) fun _ _ _ _ _ _ us hl => match us, hl with | [_, _], _ => rfl
  have FMI := fun_mk (st := sNamI) lMI cMI kMI
  have bMI := FMI.binds (ps := ["self", "name"]) fun _ _ _ _ _ _ us hl => match us, hl with | [_, _], _ => rfl
  have FTI := fun_mk (st := sTwoI) lTI cTI kTI
  have bTI := FTI.binds (ps := ["self", "one", "other"]) fun _ _ _ _ _ _ us hl => match us, hl with | [_, _, _], _ => rfl
  have FPI := fun_mk (st := sPaiI) lPI cPI kPI
  have bPI := FPI.binds (ps := ["self", "one", "other"]) fun _ _ _ _ _ _ us hl => match us, hl with | [_, _, _], _ => rfl
  have FOI := fun_mk (st := sNotI) lOI cOI kOI
  have bOI := FOI.binds (ps := ["self", "one"]) fun _ _ _ _ _ _ us hl => match us, hl with | [_, _], _ => rfl
  have FTN := fun_mk (st := sTwoN) lTN cTN kTN
  have bTN := FTN.binds (ps := ["self"]) fun _ _ _ _ _ _ us hl => match us, hl with | [_], _ => rfl
  have FPN := fun_mk (st := sPaiN) lPN cPN kPN
  have bPN := FPN.binds (ps := ["self"]) fun _ _ _ _ _ _ us hl => match us, hl with | [_], _ => rfl
  have FNS := fun_mk (st := sNumS) lNS cNS kNS
  have bNS := FNS.binds (ps := ["self"]) fun _ _ _ _ _ _ us hl => match us, hl with | [_], _ => rfl
  have FMS := fun_mk (st := sNamS) lMS cMS kMS
  have bMS := FMS.binds (ps := ["self"]) fun _ _ _ _ _ _ us hl => match us, hl with | [_], _ => rfl
  have FPS := fun_mk (st := sPluS) lPS cPS kPS
  have bPS := FPS.binds (ps := ["self"]) fun _ _ _ _ _ _ us hl => match us, hl with | [_], _ => rfl
  have FIS := fun_mk (st := sMinS) lIS cIS kIS
  have bIS := FIS.binds (ps := ["self"]) fun _ _ _ _ _ _ us hl => match us, hl with | [_], _ => rfl
  have FXS := fun_mk (st := sTimS) lXS cXS kXS
  have bXS := FXS.binds (ps := ["self"]) fun _ _ _ _ _ _ us hl => match us, hl with | [_], _ => rfl
  have FNN := fun_mk (st := sSumN) lNN cNN kNN
  have bNN := FNN.binds (ps := ["self"]) fun _ _ _ _ _ _ us hl => match us, hl with | [_], _ => rfl
  have FMN := fun_mk (st := sNamN) lMN cMN kMN
  have bMN := FMN.binds (ps := ["self"]) fun _ _ _ _ _ _ us hl => match us, hl with | [_], _ => rfl
  have FYS := fun_mk (st := sSayS) lYS cYS kYS
  have bYS := FYS.binds (ps := ["self"]) fun _ _ _ _ _ _ us hl => match us, hl with | [_], _ => rfl
  have FLS := fun_mk (st := sLesS) lLS cLS kLS
  have bLS := FLS.binds (ps := ["self"]) fun _ _ _ _ _ _ us hl => match us, hl with | [_], _ => rfl
  have FAS := fun_mk (st := sAtmS) lAS cAS kAS
  have bAS := FAS.binds (ps := ["self"]) fun _ _ _ _ _ _ us hl => match us, hl with | [_], _ => rfl
  have FES := fun_mk (st := sEquS) lES cES kES
  have bES := FES.binds (ps := ["self"]) fun _ _ _ _ _ _ us hl => match us, hl with | [_], _ => rfl
  have FUS := fun_mk (st := sUnlS) lUS cUS kUS
  have bUS := FUS.binds (ps := ["self"]) fun _ _ _ _ _ _ us hl => match us, hl with | [_], _ => rfl
  have FBS := fun_mk (st := sBotS) lBS cBS kBS
  have bBS := FBS.binds (ps := ["self"]) fun _ _ _ _ _ _ us hl => match us, hl with | [_], _ => rfl
  have FOS := fun_mk (st := sEitS) lOS cOS kOS
  have bOS := FOS.binds (ps := ["self"]) fun _ _ _ _ _ _ us hl => match us, hl with | [_], _ => rfl
  have FTS := fun_mk (st := sNotS) lTS cTS kTS
  have bTS := FTS.binds (ps := ["self"]) fun _ _ _ _ _ _ us hl => match us, hl with | [_], _ => rfl
  have FYN := fun_mk (st := sSayN) lYN cYN kYN
  have bYN := FYN.binds (ps := ["self"]) fun _ _ _ _ _ _ us hl => match us, hl with | [_], _ => rfl
  have FTNn := fun_mk (st := sNotN) lTNn cTNn kTNn
  have bTNn := FTNn.binds (ps := ["self"]) fun _ _ _ _ _ _ us hl => match us, hl with | [_], _ => rfl
  have FCe := fun_mk (st := sCell) lCe cCe kCe
  have bCe := FCe.binds (ps := ["_law_script", "_law_k"]) fun _ _ _ _ _ _ us hl => match us, hl with | [_, _], _ => rfl
  have FMi := fun_mk (st := sMix) lMi cMi kMi
  have bMi := FMi.binds (ps := ["_law_cell", "_law_k"]) fun _ _ _ _ _ _ us hl => match us, hl with | [_, _], _ => rfl
  have FOw := fun_mk (st := sOwn) lOw cOw kOw
  have bOw := FOw.binds (ps := []) fun _ _ _ _ _ _ us hl => match us, hl with | [], _ => rfl
  have FPo := fun_mk (st := sPool) lPo cPo kPo
  have bPo := FPo.binds (ps := ["_law_cell", "_law_other"]) fun _ _ _ _ _ _ us hl => match us, hl with | [_, _], _ => rfl
  have FLe := fun_mk (st := sLeaf) lLe cLe kLe
  have bLe := FLe.binds (ps := ["_law_cell", "_law_pool_here"]) fun _ _ _ _ _ _ us hl => match us, hl with | [_, _], _ => rfl
  have FSu := fun_mk (st := sSum) lSu cSu kSu
  have bSu := FSu.binds (ps := ["_law_cells", "_law_pool_here"]) fun _ _ _ _ _ _ us hl => match us, hl with | [_, _], _ => rfl
  have FSt := fun_mk (st := sText) lSt cSt kSt
  have bSt := FSt.binds (ps := ["_law_some"]) fun _ _ _ _ _ _ us hl => match us, hl with | [_], _ => rfl
  have FSa := fun_mk (st := sSaying) lSa cSa kSa
  have bSa := FSa.binds (ps := ["_law_cells", "_law_pool_here"]) fun _ _ _ _ _ _ us hl => match us, hl with | [_, _], _ => rfl
  have FTe := fun_mk (st := sTxy) lTe cTe kTe
  have bTe := FTe.binds (ps := ["_law_some"]) fun _ _ _ _ _ _ us hl => match us, hl with | [_], _ => rfl
  have FHa := fun_mk (st := sHand) lHa cHa kHa
  have bHa := FHa.binds (ps := ["_law_some"]) fun _ _ _ _ _ _ us hl => match us, hl with | [_], _ => rfl
  have FTo := fun_mk (st := sTold) lTo cTo kTo
  have bTo := FTo.binds (ps := ["_law_some"]) fun _ _ _ _ _ _ us hl => match us, hl with | [_], _ => rfl
  have FNm := fun_mk (st := sNm) lNm cNm kNm
  have bNm := FNm.binds (ps := ["_law_some"]) fun _ _ _ _ _ _ us hl => match us, hl with | [_], _ => rfl
  have FRi := fun_mk (st := sRight) lRi cRi kRi
  have bRi := FRi.binds (ps := ["_law_made", "_law_some", "_law_text_here"]) fun _ _ _ _ _ _ us hl => match us, hl with | [_, _, _], _ => rfl
  have FCm := fun_mk (st := sCmp) lCm cCm kCm
  have bCm := FCm.binds (ps := ["one", "sign", "other"]) fun _ _ _ _ _ _ us hl => match us, hl with | [_, _, _], _ => rfl
  have FTw := fun_mk (st := sTwoO) lTw cTw kTw
  have bTw := FTw.binds (ps := ["one", "other"]) fun _ _ _ _ _ _ us hl => match us, hl with | [_, _], _ => rfl
  have FBr := fun_mk (st := sBra) lBr cBr kBr
  have bBr := FBr.binds (ps := ["one", "sign", "other"]) fun _ _ _ _ _ _ us hl => match us, hl with | [_, _, _], _ => rfl
  have FBs := fun_mk (st := sBrs) lBs cBs kBs
  have bBs := FBs.binds (ps := ["one", "word", "other"]) fun _ _ _ _ _ _ us hl => match us, hl with | [_, _, _], _ => rfl
  have FL := fun_mk (st := sLaw) lL cL kL
  have T : Txt K mg (ckOf CN CM CP CI CX) (cyOf CY CQ CA CE CU CB CO CT) fNI fMI fTI fPI fOI fTN fPN fNS fMS fPS fIS fXS fNN fMN fYS fLS fAS fES fUS fBS fOS fTS fYN fTNn fCe fMi fOw fPo fLe fSu fSt fSa fTe fHa fTo fNm fRi fCm fTw fBr fBs _ _ _ _ _ _ _ _ _ _ _ _ _ _ _ _ _ _ _ _ _ _ _ _ _ _ _ _ _ _ _ _ _ _ _ _ _ _ _ _ _ :=
    { bl := ⟨PySem.W.mg_none_of X G z_len, PySem.W.mg_none_of X G z_range, PySem.W.mg_none_of X G z_isinstance, PySem.W.mg_none_of X G z_str, PySem.W.mg_none_of X G z_list, PySem.W.mg_none_of X G z_tuple, PySem.W.mg_none_of X G z_sorted, PySem.W.mg_none_of X G z_set⟩
      mkr :=
        { cls := ⟨fun k => match k with | .num => ⟨pgN, hdN, poN, saN⟩ | .nam => ⟨pgM, hdM, poM, saM⟩ | .op .plus => ⟨pgP, hdP, poP, saP⟩ | .op .minus => ⟨pgI, hdI, poI, saI⟩ | .op .times => ⟨pgX, hdX, poX, saX⟩, nN_number, nM_name, fun g => match g with | .plus => nP_one | .minus => nI_one | .times => nX_one, fun g => match g with | .plus => nP_other | .minus => nI_other | .times => nX_other⟩
          mkN := ⟨mkN, aNI, iNI, kcN⟩, mkM := ⟨mkM, aMI, iMI, kcM⟩
          mkT := fun g => match g with | .plus => ⟨mkP, aTI, iTI, kcP⟩ | .minus => ⟨mkI, aTII, iTI, kcI⟩ | .times => ⟨mkX, aTIX, iTI, kcX⟩
          gN := PySem.W.mg_of X G aN, gM := PySem.W.mg_of X G aM, gP := PySem.W.mg_of X G aP, gI := PySem.W.mg_of X G aI, gX := PySem.W.mg_of X G aX
          FN := FNI, FM := FMI, FT := FTI, bN := bNI, bM := bMI, bT := bTI }
      mks :=
        { cls := ⟨fun k => match k with | .yes => ⟨pgY, hdY, poY, saY⟩ | .cmp .lt => ⟨pgQ, hdQ, poQ, saQ⟩ | .cmp .le => ⟨pgA, hdA, poA, saA⟩ | .cmp .eq => ⟨pgE, hdE, poE, saE⟩ | .cmp .ne => ⟨pgU, hdU, poU, saU⟩ | .bin .and => ⟨pgB, hdB, poB, saB⟩ | .bin .or => ⟨pgO, hdO, poO, saO⟩ | .neg => ⟨pgT, hdT, poT, saT⟩, fun g => match g with | .lt => nQ_one | .le => nA_one | .eq => nE_one | .ne => nU_one, fun g => match g with | .lt => nQ_other | .le => nA_other | .eq => nE_other | .ne => nU_other, fun g => match g with | .and => nB_one | .or => nO_one, fun g => match g with | .and => nB_other | .or => nO_other, nT_one⟩
          mkP := fun g => match g with | .lt => ⟨mkQ, aPI, iPI, kcQ⟩ | .le => ⟨mkA, aPIA, iPI, kcA⟩ | .eq => ⟨mkE, aPIE, iPI, kcE⟩ | .ne => ⟨mkU, aPIU, iPI, kcU⟩
          mkB := fun g => match g with | .and => ⟨mkB, aPIB, iPI, kcB⟩ | .or => ⟨mkO, aPIO, iPI, kcO⟩
          mkN := ⟨mkT, aOI, iOI, kcT⟩, mkY := ⟨mkY, inY, kcY⟩
          gY := PySem.W.mg_of X G aY, gL := PySem.W.mg_of X G aQ, gA := PySem.W.mg_of X G aA, gE := PySem.W.mg_of X G aE, gU := PySem.W.mg_of X G aU, gB := PySem.W.mg_of X G aB, gO := PySem.W.mg_of X G aO, gN := PySem.W.mg_of X G aT
          FP := FPI, FN := FOI, bP := bPI, bN := bOI }
      FTN := FTN, bTN := bTN, mTN := fun g => match g with | .plus => ⟨aTN, iTN, kTN⟩ | .minus => ⟨aTNI, iTN, kTN⟩ | .times => ⟨aTNX, iTN, kTN⟩
      FPN := FPN, bPN := bPN, mPN := fun g => match g with | .lt => ⟨aPN, iPN, kPN⟩ | .le => ⟨aPNA, iPN, kPN⟩ | .eq => ⟨aPNE, iPN, kPN⟩ | .ne => ⟨aPNU, iPN, kPN⟩
      mPB := fun g => match g with | .and => ⟨aPNB, iPN, kPN⟩ | .or => ⟨aPNO, iPN, kPN⟩
      gCe := PySem.W.mg_of X G aCe, gMi := PySem.W.mg_of X G aMi, gOw := PySem.W.mg_of X G aOw, gPo := PySem.W.mg_of X G aPo, gLe := PySem.W.mg_of X G aLe, gSu := PySem.W.mg_of X G aSu, gSt := PySem.W.mg_of X G aSt, gSa := PySem.W.mg_of X G aSa, gTe := PySem.W.mg_of X G aTe, gHa := PySem.W.mg_of X G aHa, gTo := PySem.W.mg_of X G aTo, gNm := PySem.W.mg_of X G aNm, gRi := PySem.W.mg_of X G aRi, gCm := PySem.W.mg_of X G aCm, gTw := PySem.W.mg_of X G aTw, gBr := PySem.W.mg_of X G aBr, gBs := PySem.W.mg_of X G aBs
      FNS := FNS, bNS := bNS, FMS := FMS, bMS := bMS, FPS := FPS, bPS := bPS, FIS := FIS, bIS := bIS, FXS := FXS, bXS := bXS, FNN := FNN, bNN := bNN, FMN := FMN, bMN := bMN, FYS := FYS, bYS := bYS, FLS := FLS, bLS := bLS, FAS := FAS, bAS := bAS, FES := FES, bES := bES, FUS := FUS, bUS := bUS, FBS := FBS, bBS := bBS, FOS := FOS, bOS := bOS, FTS := FTS, bTS := bTS, FYN := FYN, bYN := bYN, FTNn := FTNn, bTNn := bTNn, FCe := FCe, bCe := bCe, FMi := FMi, bMi := bMi, FOw := FOw, bOw := bOw, FPo := FPo, bPo := bPo, FLe := FLe, bLe := bLe, FSu := FSu, bSu := bSu, FSt := FSt, bSt := bSt, FSa := FSa, bSa := bSa, FTe := FTe, bTe := bTe, FHa := FHa, bHa := bHa, FTo := FTo, bTo := bTo, FNm := FNm, bNm := bNm, FRi := FRi, bRi := bRi, FCm := FCm, bCm := bCm, FTw := FTw, bTw := bTw, FBr := FBr, bBr := bBr, FBs := FBs, bBs := bBs
      mNS := ⟨aNS, iNS, kNS⟩, mMS := ⟨aMS, iMS, kMS⟩, mPS := ⟨aPS, iPS, kPS⟩, mIS := ⟨aIS, iIS, kIS⟩, mXS := ⟨aXS, iXS, kXS⟩, mNN := ⟨aNN, iNN, kNN⟩, mMN := ⟨aMN, iMN, kMN⟩, mYS := ⟨aYS, iYS, kYS⟩, mLS := ⟨aLS, iLS, kLS⟩, mAS := ⟨aAS, iAS, kAS⟩, mES := ⟨aES, iES, kES⟩, mUS := ⟨aUS, iUS, kUS⟩, mBS := ⟨aBS, iBS, kBS⟩, mOS := ⟨aOS, iOS, kOS⟩, mTS := ⟨aTS, iTS, kTS⟩, mYN := ⟨aYN, iYN, kYN⟩, mTNn := ⟨aTNn, iTNn, kTNn⟩ }
  exact ⟨PySem.W.fnOf "law" "law" (defArgs sLaw) (defBody sLaw) (defScope sLaw) .none kVL dcL pmL anL cdL ctL, fun s v => .of_eq rfl, fun base _ _ => ok_law T FL⟩
theorem walk {l : PySem.W.OpenLaw} {q : Program} {loose : List Str} {XP : (Str → Option Value) → Heap → Prop} {YP : World → Heap → Prop} {d : DefRec} {K : Params → PySem.W.Frag} (hn : l.most = some 63) (hdf : d.params.defaults = [])
    (hY : ∀ (w : World) (h : Heap), YP w h → (K w.params).In h)
    (F : ∀ (w : World) (mg : Str → Option Value) (fa : Addr) (h : Heap), (K w.params).In h → h.Ns mainGlobals mg → mg d.name = some (.ref fa) →
      ∃ fd : FuncData, (∀ (s : Shared) (u : Value), BindsTo s fd ⟨[u], []⟩ [("_law_script", u)]) ∧ ∀ base : Heap, (K w.params).In base → base.Ns mainGlobals mg → FnOk l.prog w (K w.params) mg base CX0 41 fa fd ["_law_script"] (spLaw (K w.params))) :
    PySem.W.WalkO q loose XP YP l.row.toRowW d [] (fun f vs => PySem.call f vs) :=
  L2.walk_of (n := 63) (k := 41) (x := "_law_script") (CX := fun _ => CX0) (sp := fun w => spLaw (K w.params)) hn (by decide) hdf ⟨rfl, by decide, by decide⟩ hY F (fun _ _ a ns hl _ hS => ⟨a, ns, rfl, hS, hl, fun _ => rfl⟩) fun _ _ _ _ _ z => z
end Nw
open PySem PySem.W PyProof.Rows
namespace PySem.W.Fast
def tw3902854640926110970 := ()
def tw16456791615452508449 := ()
def tw9237769759290940675 := ()
def tw8504932191895935429 := ()
def tw2524047633829450249 := ()
def tw6429242756735335482 := ()
def tw17382297913133698324 := ()
def tw18193694159512799636 := ()
def tw3214151638996995816 := ()
def tw11555214960420055210 := ()
def tw9496241041710445972 := ()
def tw9011300129040203451 := ()
def tw14555809110062904661 := ()
def tw9865814479292611310 := ()
def tw2201534727254382997 := ()
def tw14725697057163728795 := ()
def tw2576100165355105874 := ()
def tw14249225205439342974 := ()
def tw13883201814714629408 := ()
def tw4056471766187449 := ()
def tw16992982587851921608 := ()
def tw16100946922482920113 := ()
def tw13801656443199472294 := ()
def tw8506257690959849506 := ()
def tw1022278132016813784 := ()
def tw11595714338825046133 := ()
def tw18212736265516551807 := ()
def tw12624125783631834954 := ()
def tw17881617440665729496 := ()
def tw6285034280578413579 := ()
def tw10878763477686840547 := ()
def tw6514069508658415883 := ()
def tw7375051907552042318 := ()
def tw6837518514363468007 := ()
def tw3063902475250639063 := ()
def tw2723737896016065247 := ()
def tw11239136269521321609 := ()
def tw9607696253272369153 := ()
def tw13223767644447282536 := ()
def tw10014697253231896157 := ()
def tw7427684608825060600 := ()
def tw16716830909626945887 := ()
def tw16061420889069070542 := ()
def tw7387074532294053200 := ()
def tw7256009971436687310 := ()
def tw9056689689639972873 := ()
def tw1024791526003617273 := ()
def tw13613703693502037306 := ()
def tw3507074740199315383 := ()
def tw16027221653341680146 := ()
def tw5580855623209318128 := ()
def tw4039181009764084837 := ()
def tw17342745476314212853 := ()
def tw16338769841985648693 := ()
def tw7398039030271914521 := ()
def tw12609834043772701211 := ()
def tw15989841464144065001 := ()
def tw360756117700507358 := ()
def tw12516612291341403272 := ()
def tw11110626100845649728 := ()
def tw8373537327098377512 := ()
def tw179554542003135465 := ()
def tw9460292883641329130 := ()
def tw4028308407638161459 := ()
def tw16007305538024254589 := ()
def tw8561337137463493654 := ()
def tw3756426068747159879 := ()
def tw16297517890654330277 := ()
def tw14184920595713696296 := ()
def tw14395244514521359279 := ()
def tw8433790821338229616 := ()
def tw9525801565061717763 := ()
def tw14684928041687943633 := ()
def tw5401552019210413558 := ()
def tw8327265027414049652 := ()
def tw3619191146773275752 := ()
def tw2378317046452777377 := ()
def tw1974540350752602303 := ()
def tw11885379556983062894 := ()
def tw15943377082315973370 := ()
def tw13451147106854327022 := ()
def tw15905266691921503813 := ()
def tw18435328901066896775 := ()
def tw10321478684050784520 := ()
def tw12700528509831447694 := ()
def tw11176300516879871566 := ()
def tw5439048551699121376 := ()
def tw17456578573610180357 := ()
def tw4610011423081519348 := ()
def tw4104336184285060731 := ()
def tw8865250635370845290 := ()
def tw17956851549960584971 := ()
def tw11002113759318385527 := ()
def tw7876027514099762964 := ()
def tw4782433843369323813 := ()
def tw4928161799907144389 := ()
def tw12642404168913586536 := ()
def tw17434071670515577465 := ()
def tw14105152852928690797 := ()
def tw18104879348278968921 := ()
def tw9004443831583172833 := ()
def tw7504303316665537300 := ()
def tw4157927807657559089 := ()
def tw1528807408503670985 := ()
def tw8387368359169781279 := ()
def tw7413521048402876467 := ()
def tw9938825034797408159 := ()
def tw4112183862406657814 := ()
def tw3797030565989181370 := ()
def tw13412476160499795435 := ()
def tw10150636053681730564 := ()
def tw1230275227624650220 := ()
def tw1563035919608200405 := ()
def tw1553147323130127851 := ()
def tw4580950906427887629 := ()
def tw13014895415577633883 := ()
def tw5758439187992495794 := ()
def tw51785782066784607 := ()
def tw386160778722651639 := ()
def tw90670078479028196 := ()
def tw2138920557243707665 := ()
def tw15163945615524139952 := ()
def tw8580951015843828648 := ()
def tw2789905034678431155 := ()
def tw6178021630695566930 := ()
def tw6138840360978880566 := ()
def tw18247440420711010015 := ()
def tw4526666078872005963 := ()
def tw10134761622299674004 := ()
def tw16616250088596185097 := ()
def tw1794311317227283463 := ()
def tw15632500525813477927 := ()
def tw4864258132852572105 := ()
def tw978159196315823904 := ()
def tw495892243053820428 := ()
def tw2434268236985282742 := ()
def tw3182673696496690542 := ()
def tw1274170027740519971 := ()
def tw3364030158686271934 := ()
def tw1914670717653186103 := ()
def tw15170865889991506429 := ()
def tw569533368040501174 := ()
def tw14041844970202604694 := ()
def tw16427892444020679516 := ()
def tw15873478922715739908 := ()
def tw2086600342809147487 := ()
def tw11729320519482768731 := ()
def tw10705556675493123378 := ()
def tw2705365851490257282 := ()
def tw6472417955951143689 := ()
def tw10591480765787061918 := ()
def tw17200635729328950720 := ()
def tw2340686561734242958 := ()
def tw2930428905451423828 := ()
def tw14057901576398571267 := ()
def tw860859666551840825 := ()
def tw11883493730930164593 := ()
def tw4075771948307474173 := ()
def tw16484485974793103760 := ()
def tw12619305850565611901 := ()
def tw4386918759609557454 := ()
def tw11492284434377750896 := ()
def tw9939960156862607142 := ()
def tw7931575852429194277 := ()
def tw5702778721545534727 := ()
def tw6389004200816808648 := ()
def tw4881593685780015743 := ()
def tw3353212546490568202 := ()
def tw11172984126826674683 := ()
def tw1392402241332151390 := ()
def tw8376951152612804011 := ()
def tw10938035791195701654 := ()
def tw12508864814005817326 := ()
def tw3987387823834951699 := ()
def tw9104290042906778750 := ()
def tw4727856706905339929 := ()
def tw11857351680530439603 := ()
def tw10612870154514501991 := ()
def tw15082541205740626563 := ()
def tw16131515086321061860 := ()
def tw2791197599359737736 := ()
def tw17654750755587857769 := ()
def tw9902493168439032368 := ()
def tw7089405842659097853 := ()
def tw13549337079250965727 := ()
def tw16758812485226206102 := ()
def tw15567223548735877143 := ()
def tw14551390782807985481 := ()
def tw16087912833117814678 := ()
def tw9254065881104619712 := ()
def tw7759700830863830951 := ()
def tw9473433354467588998 := ()
def tw4405746192071141662 := ()
def tw12295876861906934881 := ()
def tw7911050022237129352 := ()
def tw10349335872584452710 := ()
def tw13666829342149267524 := ()
def tw1717325284546763091 := ()
def tw2780992806614837759 := ()
def tw7796661500407647968 := ()
def tw3316840691887181810 := ()
def tw13193315866193521935 := ()
def tw12251288821333217625 := ()
def tw4648885161123884172 := ()
def tw13176925481521254613 := ()
def tw13120370648581992551 := ()
def tw5846220109552144471 := ()
def tw15517340626203161465 := ()
def tw7138414957326722223 := ()
def tw11718153856041426111 := ()
def tw3944434748163575895 := ()
def tw16327125036973951471 := ()
def tw14906382379930077803 := ()
def tw4308330041110918839 := ()
def tw5711082818638031938 := ()
def tw7251516604679994573 := ()
def tw1068374080578112808 := ()
def tw3115210576863039313 := ()
def tw5070929162908252502 := ()
def tw8404458296588090316 := ()
def tw5311800056414379817 := ()
def tw15632077083735071613 := ()
def tw876464918223067828 := ()
def tw5636703738670626746 := ()
def tw11036925980196586290 := ()
def tw6458506261747889821 := ()
def tw1012497277320607621 := ()
def tw4481191547387518885 := ()
def tw15831776357756441449 := ()
def tw5940759804137105529 := ()
def tw9907049351438149366 := ()
def tw4918146147747147365 := ()
def tw17490302311656658023 := ()
def tw16804002001853439051 := ()
def tw17406925202715289699 := ()
def tw13949063182800002139 := ()
def tw2761103472169290005 := ()
def tw16238783494960898908 := ()
def tw8456252932265730187 := ()
def tw3798786249055408428 := ()
def tw12106611351434478133 := ()
def tw15224393566993322223 := ()
def tw10963373519260882676 := ()
def tw2040393322831237087 := ()
def tw3671256134025072374 := ()
def tw16272237932116395132 := ()
def tw10371151369351470624 := ()
def tw450934330602642532 := ()
def tw1111648084165488059 := ()
def tw12882657703304705778 := ()
def tw16834740462242774991 := ()
def tw3715459167219737261 := ()
def tw12884600740449938606 := ()
def tw9001274190845942202 := ()
def tw12871441822749386760 := ()
def tw10949749458075936076 := ()
def tw12924761353554330940 := ()
def tw6198258491513912268 := ()
def tw570092332806308301 := ()
def tw7213992649037631610 := ()
def tw8134718083192806909 := ()
def tw13027579401017004183 := ()
def tw11937249428538326936 := ()
def tw17673955347300501763 := ()
def tw8034952662197565668 := ()
def tw12103485561515591380 := ()
def tw15841787582629405859 := ()
def tw2723226088611257354 := ()
def tw12460423344465536398 := ()
def tw12320053959323579495 := ()
def tw12659400288559648881 := ()
def tw16811797132942461600 := ()
def tw13612725871994997275 := ()
def tw227007576893343773 := ()
def tw1252607635777821131 := ()
def tw10752583093067811670 := ()
def tw9470904924552600417 := ()
def tw16001423650818783166 := ()
def tw9668498269288711615 := ()
def tw10615128583216482403 := ()
def tw11659742334218790460 := ()
def tw12677688611618218819 := ()
def tw3825062902430146306 := ()
def tw7244604824403084301 := ()
def tw2377129436864258579 := ()
def tw7258109609787681117 := ()
def tw5639151225822391738 := ()
def tw502479659648001041 := ()
def tw14651643156926385505 := ()
def tw14611541232727458219 := ()
def tw2502040849479681962 := ()
def tw2642528740155428422 := ()
def tw4178010633972062523 := ()
def tw14429630443442072844 := ()
def tw1577004952000542415 := ()
def tw2071436710203906080 := ()
def tw13727410134140146556 := ()
def tw9424000207684789269 := ()
def tw12648809880945546937 := ()
def tw12998009508106391693 := ()
def tw17708966146237163484 := ()
def tw11138887369532744791 := ()
def tw7458298734428997325 := ()
def tw17092141244014182928 := ()
def tw2940457480213160040 := ()
def tw15125763593682896447 := ()
def tw11868775548043173865 := ()
def tw10241377982794588941 := ()
def tw95808447921768520 := ()
def tw4273829968994840150 := ()
def tw3865367157966051686 := ()
def tw17344808987178478912 := ()
def tw11004798395720181913 := ()
def tw3659017390107807865 := ()
def tw16000930296771469674 := ()
def tw7771463843785485596 := ()
def tw11339319484713341101 := ()
def tw8280345218988360989 := ()
def tw3159865716101032887 := ()
def tw7785302089877748215 := ()
def tw5470753093076990950 := ()
def tw6461344630219906911 := ()
def tw12864339195161691126 := ()
def tw8995581273971787299 := ()
def tw2484656965632472186 := ()
def tw6516573447310964091 := ()
def tw6843249843103805989 := ()
def tw17394593083274205466 := ()
def tw6212156171259994491 := ()
def tw12762961210482720179 := ()
def tw15005810943895505140 := ()
def tw16799510127731903552 := ()
def tw4760956953081291216 := ()
def tw12825288958044346824 := ()
def tw9870119230580037405 := ()
def tw3000651105124002558 := ()
def tw14526690981624989968 := ()
def tw13411772629942563796 := ()
def tw1203454142496929532 := ()
def tw17687999845857629989 := ()
def tw8636819604682880574 := ()
def tw9608789736247126807 := ()
def tw5799014797374952218 := ()
def tw8423724099976109629 := ()
def tw6863949912575899857 := ()
def tw4441688417492661306 := ()
def tw6756212742840587896 := ()
def tw4627123315925663981 := ()
def tw13752733913847499083 := ()
def tw9170849756814214302 := ()
def tw4850744319127506646 := ()
def tw8923570852745901864 := ()
def tw11104429560233132690 := ()
def tw11525892431300286279 := ()
def tw6792450108488415104 := ()
def tw4893672663352633932 := ()
def tw2568712150297779987 := ()
def tw16663392946546787113 := ()
def tw11723987130268655444 := ()
def tw2945237715393176109 := ()
def tw2596677139092441446 := ()
def tw3935430996104890984 := ()
def tw14066436192236388557 := ()
def tw13379395034518393361 := ()
def tw16920715934732196297 := ()
def tw2433502080310337795 := ()
def tw15514743266245779592 := ()
def tw8422194437380556391 := ()
def tw1523990874334689150 := ()
def tw13252236551624089253 := ()
def tw11516946060476641330 := ()
def tw11732942566755954966 := ()
def tw11279869627611853125 := ()
def tw5089733582863659460 := ()
def tw3196702521428701681 := ()
def tw7608816636419599236 := ()
def tw5210040714464256073 := ()
def tw3510661873307661545 := ()
def tw16411179012382546981 := ()
def tw15376518865989829298 := ()
def tw13287288741955849927 := ()
def tw16343023017322160412 := ()
def tw3185097863146750880 := ()
def tw16527219384574454444 := ()
def tw7885272322098120892 := ()
def tw266371870950536817 := ()
def tw2508422571357027551 := ()
def tw12514468718913045351 := ()
def tw15839021347615985792 := ()
def tw14598288473803677791 := ()
def tw11902454702768207203 := ()
def tw14805334396349510477 := ()
def tw2815609240231736717 := ()
def tw1409533171881562957 := ()
def tw14514299295629750606 := ()
def tw5073498319219002041 := ()
def tw17840251336729166931 := ()
def tw4745020078848531572 := ()
def tw3251143791406638917 := ()
def tw8299912515797273475 := ()
def tw10843811052479653222 := ()
def tw8712600107109196979 := ()
def tw13675759568344305275 := ()
def tw10195900992088086487 := ()
def tw96140553909856256 := ()
def tw15049738507610420923 := ()
def tw12648404687114731237 := ()
def tw5444951820770353235 := ()
def tw10407107662183780663 := ()
def tw4857261560298284544 := ()
def tw786422087462678512 := ()
def tw5656934818318488765 := ()
def tw5395133000824213321 := ()
def tw3213350579697552338 := ()
def tw8878034940850282647 := ()
def tw5026479835062406787 := ()
def tw11769385628850985231 := ()
def tw8525976914388083904 := ()
def tw2587266481870379570 := ()
def tw13355656059120269280 := ()
def tw8088968881152956696 := ()
def tw505460624975209903 := ()
def tw16499883827447430824 := ()
def tw11961036404768198423 := ()
def tw6029901267835935660 := ()
def tw4604056966909684046 := ()
def tw12363021718161515484 := ()
def tw9261352116004580357 := ()
def tw16449673461140589866 := ()
def tw4323398260625488979 := ()
def tw16597612902622701793 := ()
def tw12199271089864538573 := ()
def tw5258752211470011313 := ()
def tw1524303528752334963 := ()
def tw645961546547733845 := ()
def tw6439035672629772915 := ()
def tw4012218864021154455 := ()
def tw17147786057175725802 := ()
def tw9121031453631906087 := ()
def tw11729169086388237806 := ()
def tw3728366380220266996 := ()
def tw9614580020067377349 := ()
def tw12952918038644975871 := ()
def tw5503352553947539162 := ()
def tw17350177336767289087 := ()
def tw9781400108512003158 := ()
def tw13808102325901550050 := ()
def tw13651401904446301672 := ()
def tw2924976431152809226 := ()
def tw11550948057814454093 := ()
def tw7491051117230876519 := ()
def tw1423033979330848023 := ()
def tw16968960861267766565 := ()
def tw1356885654860197301 := ()
def tw13136202606202666693 := ()
def tw6076494246273839637 := ()
def tw10076173552274497896 := ()
def tw10834737330162136886 := ()
def tw11542643705639152954 := ()
def tw7089529566100410833 := ()
def tw14143875519161500804 := ()
def tw8580053303937651850 := ()
def tw6292257889376675469 := ()
def tw8260153615303263099 := ()
def tw10571508988986919441 := ()
def tw275054565769647765 := ()
def tw7600401339989640015 := ()
def tw11430777480183484968 := ()
def tw7703815248310658857 := ()
def tw3581702790492791046 := ()
def tw5214826136647995266 := ()
def tw811108267902775609 := ()
def tw15291814248988419657 := ()
def tw15105075907481010486 := ()
def tw11305177638675076424 := ()
def tw1585485294604259832 := ()
def tw1732529844790429732 := ()
def tw3938882811308378836 := ()
def tw15282426146726934769 := ()
def tw13376041214693870340 := ()
def tw10560408018317028145 := ()
def tw6191349841670742413 := ()
def tw3482927351535535062 := ()
def tw14606435034742037007 := ()
def tw14970193904421057127 := ()
def tw10771338480433947262 := ()
def tw347073112112979807 := ()
def tw9918768629006271960 := ()
def tw13206775496568167393 := ()
def tw4416482669640673557 := ()
def tw17867975832816681251 := ()
def tw13267912582421586955 := ()
def tw347296459478649800 := ()
def tw3498430633990749252 := ()
def tw1144246472786858606 := ()
def tw3183366639975742423 := ()
def tw10595272982072865763 := ()
def tw12274938023240748765 := ()
def tw8104651980251232943 := ()
def tw6048881751011260128 := ()
def tw7486711167199513292 := ()
def tw285506215810853727 := ()
def tw14905106608786022266 := ()
def tw922455110816341035 := ()
def tw15161605252253435934 := ()
def tw16679941206691520316 := ()
def tw487289589688565521 := ()
def tw1236058512063042824 := ()
def tw195441004421838368 := ()
def tw17568321053161851696 := ()
def tw6709149526472289194 := ()
def tw13767534811179636806 := ()
def tw17382925037773779963 := ()
def tw13072559332969704502 := ()
def tw8784077072889269952 := ()
def tw12075869450716868449 := ()
def tw497818193588651847 := ()
def tw17570926145498597993 := ()
def tw13519179974002198839 := ()
def tw7355205531350957480 := ()
def tw8455209748099587912 := ()
def tw10357246139139570851 := ()
def tw1112119704518568798 := ()
def tw6299897748811765328 := ()
def tw9290857191510453462 := ()
def tw6472919550166607397 := ()
def tw7719013791082608592 := ()
def tw15677407243289524217 := ()
def tw9465982944277886549 := ()
def tw768192375706877266 := ()
def tw4757534544046705172 := ()
def tw5155478313901197386 := ()
def tw18236543007368103662 := ()
def tw11368584378243687904 := ()
def tw10528869487218817509 := ()
def tw11266044484379704869 := ()
def tw14145718497993193556 := ()
def tw11048565406704367149 := ()
def tw5880215708658376268 := ()
def tw17712023690892415604 := ()
def tw18248355722121274403 := ()
def tw10960666412045464814 := ()
def tw16532087557336797427 := ()
def tw16915419355576173759 := ()
def tw3519034112521391061 := ()
def tw11940443317388376722 := ()
def tw5787742910655164328 := ()
def tw1673126307067787555 := ()
def tw11597202359101317138 := ()
def tw11866914108676174395 := ()
def tw8628729334921176230 := ()
def tw6576475935611585769 := ()
def tw15308050051623038870 := ()
def tw5933964443948846562 := ()
def tw18053473754272741720 := ()
def tw767918878581306505 := ()
def tw12125466558935508379 := ()
def tw13932919871514640122 := ()
def tw6507010086682106806 := ()
def tw11222039951253563989 := ()
def tw11518603173272577656 := ()
def tw16439944878011016294 := ()
def tw17799293246100836288 := ()
def tw690005709271417967 := ()
def tw13616411116481254045 := ()
def tw6788166871545367854 := ()
def tw5510550670260704040 := ()
def tw16367679765579517886 := ()
def tw13939506910432301640 := ()
def tw7933233327802787293 := ()
def tw14737731398850249682 := ()
def tw18049507311409310963 := ()
def tw395913571285913804 := ()
def tw15897000587663111260 := ()
def tw7549835323554138932 := ()
def tw12867369710088041125 := ()
def tw2761540829267521955 := ()
def tw2901362548540537083 := ()
def tw6614052751164415872 := ()
def tw14165560304067145324 := ()
def tw2162431497117903926 := ()
def tw11916921520040509764 := ()
def tw17772088876839068458 := ()
def tw10992510913021046779 := ()
def tw2683376471770008471 := ()
def tw733626348451641798 := ()
def tw10439160428097170149 := ()
def tw10518131296907717276 := ()
def tw6187820228529115320 := ()
def tw855059124031197029 := ()
def tw12582124998049010336 := ()
def tw13440506445730346649 := ()
def tw13905909795251293162 := ()
def tw785391807273010083 := ()
def tw7917560456008244530 := ()
def tw4744156206909863499 := ()
def tw13467868983450439423 := ()
def tw3273090043647324827 := ()
def tw9822570668078150763 := ()
def tw11521864522355136538 := ()
def tw2222262197245189556 := ()
def tw4811194189467467177 := ()
def tw4655270388106269718 := ()
def tw10441449508402587894 := ()
def tw12739131120798038360 := ()
def tw16839600048251776352 := ()
def tw11256605724255625969 := ()
def tw6564918371619516879 := ()
def tw15310838476120581646 := ()
def tw10834999375903774089 := ()
def tw4113409773677674853 := ()
def tw16285023956263334820 := ()
def tw16719454327876180218 := ()
def tw15310034041151128925 := ()
def tw12244483878533188439 := ()
def tw4404280542491175428 := ()
def tw7425537321268171521 := ()
def tw10214116915940310986 := ()
def tw16320586897789405607 := ()
def tw13319167178173414508 := ()
def tw17505278113161257430 := ()
def tw4966565359566108834 := ()
def tw2937517657425867667 := ()
def tw4285115779837822331 := ()
def tw2356568639238526819 := ()
def tw17818767768900360781 := ()
def tw1979297774166083953 := ()
def tw4704632471211012476 := ()
def tw15678587311720536258 := ()
def tw5919481484651156504 := ()
def tw14184635030278715984 := ()
def tw14903104712539192237 := ()
def tw7930903003885962082 := ()
def tw10026998992516714709 := ()
def tw18285520754902277445 := ()
def tw4998768880437239843 := ()
def tw4602188198840826964 := ()
def tw994823204063824940 := ()
def tw7493729576633076701 := ()
def tw6696963525056934374 := ()
def tw17597000230234391401 := ()
def tw14892396557050598871 := ()
def tw9174718905101208844 := ()
def tw11310803240319178000 := ()
def tw7764476564422243471 := ()
def tw10142176772383157121 := ()
def tw7112257571842192245 := ()
def tw13762437565827060774 := ()
def tw8807223608139845533 := ()
def tw7724922756274439606 := ()
def tw7725449723841892736 := ()
def tw11820957208339636065 := ()
def tw2531328150588212646 := ()
def tw6931437034595992735 := ()
def tw8075416189202749932 := ()
def tw13892202353588455988 := ()
def tw2173008286529497464 := ()
def tw7075606572156781981 := ()
def tw12339395901923364138 := ()
def tw7396691218264676558 := ()
def tw9341779447655899008 := ()
def tw1109936964401417476 := ()
def tw16641902411159555688 := ()
def tw8642681580571193976 := ()
def tw18385134911732014620 := ()
def tw16681877731246607027 := ()
def tw12776128295734726919 := ()
def tw9583933448352013630 := ()
def tw18119187674590156757 := ()
def tw13075349761474513532 := ()
def tw2871966092701190800 := ()
def tw15738699932512279457 := ()
def tw9052220768396242238 := ()
def tw10321402520671927229 := ()
def tw245445487725623300 := ()
def tw9548918149625131370 := ()
def tw9510012860940035177 := ()
def tw11170738671615875264 := ()
def tw2238616959584444732 := ()
def tw5085742470407042357 := ()
def tw17153778328212016079 := ()
def tw6301577874438456664 := ()
def tw18278200688154389946 := ()
def tw14074048657864388082 := ()
def tw2803713775733986906 := ()
def tw12666252854785962426 := ()
def tw17869129563272624081 := ()
def tw11535920262365263651 := ()
def tw18088997457544770125 := ()
def tw2554459363982236578 := ()
def tw4452600930883641912 := ()
def tw14381113933438537627 := ()
def tw8728172794505875241 := ()
def tw2801698995726410561 := ()
def tw14155980839124132472 := ()
def tw86214381338192331 := ()
def tw16447776399082114883 := ()
def tw8363909346088501747 := ()
def tw5390601478495377132 := ()
def tw13357530029681679401 := ()
def tw8563771105822478145 := ()
def tw15977322306914309795 := ()
def tw7924311353217836303 := ()
def tw768278101387176341 := ()
def tw9045005036104627322 := ()
def tw16609372817531216069 := ()
def tw17235740534008619094 := ()
def tw15339773475033276886 := ()
def tw15394558194467079898 := ()
def tw2200548365253612997 := ()
def tw15799867458995552683 := ()
def tw12858749155847956255 := ()
def tw12902949319620342449 := ()
def tw5308397278733137629 := ()
def tw12196578520855167602 := ()
def tw4712622383018914984 := ()
def tw11696243045917006792 := ()
def tw9850996190248517614 := ()
def tw7768481031414248016 := ()
def tw16020528826392773172 := ()
def tw17849774940048705559 := ()
def tw10362972602532751408 := ()
def tw5031342330851755729 := ()
def tw17823784067668712841 := ()
def tw1686256040054380317 := ()
def tw6840344838208523184 := ()
def tw4534488935394447857 := ()
def tw1880590694974303665 := ()
def tw3263859730806904781 := ()
def tw10776287122620470777 := ()
def tw15554106178924087151 := ()
def tw12809471554703672033 := ()
def tw15744081722593055731 := ()
def tw18297259051358371908 := ()
def tw17423150931533221110 := ()
def tw10833688522320412386 := ()
def tw2636693213550183185 := ()
def tw17048076499701523397 := ()
def tw18232790859699047229 := ()
def tw8783742332549417748 := ()
def tw8441858913557783919 := ()
def tw6571197187793079889 := ()
def tw2265285062333903081 := ()
def tw7153769620325566472 := ()
def tw13126799872382259579 := ()
def tw5807080767420456107 := ()
def tw16520576683207049880 := ()
def tw2212989765528100697 := ()
def tw1970640684162557931 := ()
def tw11109589188177142616 := ()
def tw1814790232155850615 := ()
def tw12560317147632034291 := ()
def tw11975162966968410140 := ()
def tw10388144944613656642 := ()
def tw16644192015718738592 := ()
def tw17958128356789383752 := ()
def tw8753109803684729909 := ()
def tw9371683285919990471 := ()
def tw10694459253028953925 := ()
def tw13930831673731761014 := ()
def tw919803559821735974 := ()
def tw2032562739499064576 := ()
def tw10163915778472262374 := ()
def tw10675096901970014887 := ()
def tw3742479453847253131 := ()
def tw3381352259110802557 := ()
def tw3698172867441490798 := ()
def tw10627375963242745222 := ()
def tw17371758512272011551 := ()
def tw16854470686708483544 := ()
def tw12472073522133657092 := ()
def tw2635008691140814114 := ()
def tw91486272890436150 := ()
def tw7682962579035945473 := ()
def tw17658556504530963513 := ()
def tw5781864164182526308 := ()
def tw7418057557958805641 := ()
def tw13117065893176459931 := ()
def tw17811692645611312454 := ()
def tw4036678988702949626 := ()
def tw8304955465866555011 := ()
def tw2627833140534673563 := ()
def tw8886405577647732974 := ()
def tw12067941899947000727 := ()
def tw6263866630607733128 := ()
def tw12777373857420128594 := ()
def tw7141603061067964291 := ()
def tw2796546526073359925 := ()
def tw3721441985181657622 := ()
def tw17057796235954784994 := ()
def tw6788396295235491437 := ()
def tw3089972866107133563 := ()
def tw6160923112773295584 := ()
def tw2573182115777807552 := ()
def tw10122638614045101702 := ()
def tw16896111879122880965 := ()
def tw10305235859477082456 := ()
def tw1362362107094068444 := ()
def tw17349596879420890806 := ()
def tw11141496821744421272 := ()
def tw2294893754526896875 := ()
def tw8019570793355306905 := ()
def tw15429288904103212153 := ()
def tw1555679200969367742 := ()
def tw8685484477852851787 := ()
def tw18382526656631426703 := ()
def tw11961307303119309942 := ()
def tw4015618946171760784 := ()
def tw1099266465741656240 := ()
def tw10356758421277680242 := ()
def tw777830319227130528 := ()
def tw5691609206715343997 := ()
def tw5028639592618386658 := ()
def tw12162862590099435479 := ()
def tw83836847606684779 := ()
def tw2279135725323061919 := ()
def tw7254446920947056901 := ()
def tw3722290539941420694 := ()
def tw15032397062536104145 := ()
def tw14548185779847259353 := ()
def tw7866389170157178492 := ()
def tw4105701723258350146 := ()
def tw17602218658160791850 := ()
def tw17472620089476115221 := ()
def tw3753458875822066087 := ()
def tw2599047046120267038 := ()
def tw5474466561114600589 := ()
def tw17853125735113227533 := ()
def tw3074866122277345682 := ()
def tw5817582734276600989 := ()
def tw14657697216208722295 := ()
def tw12162229663241850086 := ()
def tw3033204092438545505 := ()
def tw9453025375457201442 := ()
def tw3614211047577788170 := ()
def tw17658698172610371626 := ()
def tw2012089375602343838 := ()
def tw7524562048696118841 := ()
def tw16735670188894289199 := ()
def tw13342874075152026723 := ()
def tw13947791288846258918 := ()
def tw1645974704920137610 := ()
def tw538074789722369022 := ()
def tw15922987831812146398 := ()
def tw10882137722441031103 := ()
def tw6614349837931638659 := ()
def tw4423928421366199631 := ()
def tw16368477459361499469 := ()
def tw663736298820897323 := ()
def tw16315840651609093166 := ()
def tw1086520671054946305 := ()
def tw16980378422274978956 := ()
def tw12330748005498537601 := ()
def tw12174720288776351776 := ()
def tw10538570775721952367 := ()
def tw13474910004384117307 := ()
def tw9360421013454502229 := ()
def tw13526781358410214934 := ()
def tw18179458436498348939 := ()
def tw5489258805301019022 := ()
def tw9674941392383245 := ()
def tw1353604621806702590 := ()
def tw17981539748025286519 := ()
def tw12473961536854199390 := ()
def tw8211255099927358589 := ()
def tw1150595550516737300 := ()
def tw3412488063729842883 := ()
def tw5387780945174514694 := ()
def tw14670784979962334441 := ()
def tw1460328681356935743 := ()
def tw7967206531821028675 := ()
def tw30216775584187855 := ()
def tw12017603598035776495 := ()
def tw7345558147394723214 := ()
def tw2383048837825216220 := ()
def tw10125808626528078441 := ()
def tw12600392924485238574 := ()
def tw5355812908014138109 := ()
def tw15474257934454753156 := ()
def tw15971093033718898465 := ()
def tw17252711734116535039 := ()
def tw13425238540063861783 := ()
def tw6667141873680246177 := ()
def tw12506476098781896303 := ()
def tw3234574982279634582 := ()
def tw7078013340650086406 := ()
def tw16862697788864181907 := ()
def tw4044930422230835716 := ()
def tw15795080132055234469 := ()
def tw12904919676422977246 := ()
def tw4468282253964893451 := ()
def tw8607918660358588873 := ()
def tw13590363327211720630 := ()
def tw18427072789213394692 := ()
def tw17240173304316861120 := ()
def tw17484241563836857256 := ()
def tw17271975095930284613 := ()
def tw7882087462122613845 := ()
def tw12653777200840659634 := ()
def tw307882708670284132 := ()
def tw18273859354426879782 := ()
def tw193952414304289548 := ()
def tw17538801257168586524 := ()
def tw17367337701141419565 := ()
def tw16098939772322679408 := ()
def tw6266631805355906135 := ()
def tw5694655904254323529 := ()
def tw7667103256697341352 := ()
def tw8140129182863287738 := ()
def tw14089801332763282915 := ()
def tw18407713519132095033 := ()
def tw16418199930669653638 := ()
def tw12887752991114689568 := ()
def tw5771474585823960547 := ()
def tw16243225965644496284 := ()
def tw15191868188645744783 := ()
def tw7076172957132652539 := ()
def tw15662483023696188453 := ()
def tw15902890261995803040 := ()
def tw3242392968921288063 := ()
def tw6447103176436947886 := ()
def tw6904503605548793150 := ()
def tw1864530145644824932 := ()
def tw16497460590849302414 := ()
def tw6436059044486575156 := ()
def tw9506090198276959076 := ()
def tw6555249642312612387 := ()
def tw2306897948778877222 := ()
def tw451947010054442526 := ()
def tw10513835237835155096 := ()
def tw6736253185398159593 := ()
def tw14378484134544007061 := ()
def tw14636004036973518700 := ()
def tw10001024772373566581 := ()
def tw17222559997262220053 := ()
def tw13625015384043774735 := ()
def tw2526781321598565717 := ()
def tw5269946779060467547 := ()
def tw13816683644995945483 := ()
def tw17110036747536050962 := ()
def tw1233017601367913280 := ()
def tw788803596616462519 := ()
def tw14870691773101060217 := ()
def tw7982937753009307796 := ()
def tw14755380259966645710 := ()
def tw14640181148806143064 := ()
def tw10646028952495760455 := ()
def tw1059815521033778604 := ()
def tw10977111174858241242 := ()
def tw757376780566969891 := ()
def tw3592209006119459859 := ()
def tw3753154585913652143 := ()
def tw9184752371384372358 := ()
def tw3239730337618677575 := ()
def tw17164649197647458962 := ()
def tw12853167630701490130 := ()
def tw2024455544371283024 := ()
def tw9749574811046387387 := ()
def tw12742666363427595973 := ()
def tw5790931969337001781 := ()
def tw1849298861835523130 := ()
def tw176121965546078932 := ()
def tw16395844851397989410 := ()
def tw1763060969577178917 := ()
def tw7509070811960329200 := ()
def tw8211314602347858009 := ()
def tw16399573145819707586 := ()
def tw11587152801880486838 := ()
def tw12084399430328106548 := ()
def tw16672835962953994387 := ()
def tw14997699015477069066 := ()
def tw2789143035463984708 := ()
def tw16187607629279153839 := ()
def tw517744027090178814 := ()
def tw15639498550463286754 := ()
def tw16130891516870639190 := ()
def tw14492006216011316519 := ()
def tw18397996646381352687 := ()
def tw5435489719803910164 := ()
def tw708086899531335929 := ()
def tw2661145052436545335 := ()
def tw666584535137937918 := ()
def tw16816083109631519632 := ()
def tw14962549318127980070 := ()
def tw15625255712505465082 := ()
def tw18175174095639479587 := ()
def tw2090178500111633618 := ()
def tw18336986154477313595 := ()
def tw1663105084804366725 := ()
def tw12071272415476571452 := ()
def tw17052710900157034143 := ()
def tw11055084318287422958 := ()
def tw13143392398797698901 := ()
def tw2681396360703592724 := ()
def tw4199305137658397867 := ()
def tw7046234210888060772 := ()
def tw1675336490663730435 := ()
def tw5490033074395557787 := ()
def tw3554240862883606235 := ()
def tw8402848587949915929 := ()
def tw17233278459650247159 := ()
def tw17691938635019489860 := ()
def tw9550114404095054255 := ()
def tw1878621432102810628 := ()
def tw2530589769404603783 := ()
def tw598796223021427473 := ()
def tw3039689893487962900 := ()
def tw11634061017281162182 := ()
def tw10038485712806737628 := ()
def tw6431739478541640878 := ()
def tw16856312961184338549 := ()
def tw9702511675779152118 := ()
def tw3659931063978074688 := ()
def tw11817609867140860223 := ()
def tw394578787493512593 := ()
def tw2880870920824964294 := ()
def tw834718352613419729 := ()
def tw732245695540133116 := ()
def tw6621634177369979927 := ()
def tw15796831325925543533 := ()
def tw5497036965442320292 := ()
def tw4272677181779543947 := ()
def tw1188685576502079981 := ()
def tw711947490066085254 := ()
def tw14762630688486579718 := ()
def tw15524403245770864424 := ()
def tw13083105549596665707 := ()
def tw5198540582920767239 := ()
def tw901966241897141095 := ()
def tw14573990205287719182 := ()
def tw9496090188560296783 := ()
def tw11168306250439980055 := ()
def tw2811132221529466718 := ()
def tw4591904452811096394 := ()
def tw11741872579197373153 := ()
def tw10437640921480824581 := ()
def tw5181966706305184908 := ()
def tw1614583564673598166 := ()
def tw16922083646256819717 := ()
def tw6743437426000142170 := ()
def tw3525529468262982081 := ()
def tw711201925323426521 := ()
def tw11774887004678516575 := ()
def tw8052438222214569880 := ()
def tw8410961026745732846 := ()
def tw15751223527407472617 := ()
def tw2954619528330676773 := ()
def tw14631534126588783668 := ()
def tw2071645066433183330 := ()
def tw9446695902587392383 := ()
def tw13048695227661550025 := ()
def tw11345221166737654013 := ()
def tw1705934279208805188 := ()
def tw6373734563709474780 := ()
def tw5108038083658824781 := ()
def tw18119157232107234803 := ()
def tw8985270643717450492 := ()
def tw1497266165421029970 := ()
def tw1772828342230718369 := ()
def tw6995437649005280552 := ()
def tw18270818320982077889 := ()
def tw12973109730715502132 := ()
def tw13112150204943326061 := ()
def tw11551503497462158469 := ()
def tw12252917150973145880 := ()
def tw11828489140701785497 := ()
def tw1235721285809324950 := ()
def tw11682186853917387869 := ()
def tw11034990347658342729 := ()
def tw9131924283938410936 := ()
def tw265702147972546318 := ()
def tw1639910262132772286 := ()
def tw1701615434545016576 := ()
def tw10359802329190732301 := ()
def tw4662653266582069241 := ()
def tw2840890175629183946 := ()
def tw14246710980067326174 := ()
def tw2261368956453038716 := ()
def tw5327207593890703231 := ()
def tw1079518163503543203 := ()
def tw11451257458267523019 := ()
def tw3889114404298096929 := ()
def tw9332513214470880856 := ()
def tw13011256395693124112 := ()
def tw5464097311618743086 := ()
def tw8147481576744435408 := ()
def tw1092134247958076052 := ()
def tw3517089479251597882 := ()
def tw8723630697723914451 := ()
def tw852223503084159628 := ()
def tw6909215687661453718 := ()
def tw6053099721825492789 := ()
def tw9131561175353802430 := ()
def tw16863157710496777587 := ()
def tw16199519142723465505 := ()
def tw8907632503413438535 := ()
def tw15119625530012865963 := ()
def tw2689856271314512450 := ()
def tw15627343480523690307 := ()
def tw17852509294269671325 := ()
def tw6707666347838231944 := ()
def tw9490461770067363281 := ()
def tw9309225985623545661 := ()
def tw5875958907310306010 := ()
def tw15770042791248683108 := ()
def tw8758004955660738223 := ()
def tw2546202413043515311 := ()
def tw14363533172780108833 := ()
def tw6640674074867159184 := ()
def tw16237060594318810353 := ()
def tw15609981245818168797 := ()
def tw894912054477682092 := ()
def tw5839814337914304246 := ()
def tw4254517223907383129 := ()
def tw594919246722911857 := ()
def tw11531706738507790003 := ()
def tw12743982381857681587 := ()
def tw11079639520744702369 := ()
def tw210467898847814371 := ()
def tw3289921119475048970 := ()
def tw1273710492581416069 := ()
def tw10120831661528514734 := ()
def tw12849814767224248082 := ()
def tw11044733513675064462 := ()
def tw2972985052833185365 := ()
def tw1431295509298849634 := ()
def tw7981468895262455609 := ()
def tw43676422359556026 := ()
def tw10445372367861184964 := ()
def tw8976536806587508453 := ()
def tw4592186230992348271 := ()
def tw6310466708786998612 := ()
def tw15355805166644755953 := ()
def tw16964936158069534517 := ()
def tw16038360534608982337 := ()
def tw478261272379650258 := ()
def tw12060534780886909944 := ()
def tw1932491841612984181 := ()
def tw5242526168626675196 := ()
def tw16412929670622970310 := ()
def tw9728114045382151232 := ()
def tw8465578616232952321 := ()
def tw6512154313276208713 := ()
def tw6879384501137086087 := ()
def tw2526648659800192820 := ()
def tw592111225567110725 := ()
def tw18151196402520245898 := ()
def tw14049563130912166049 := ()
def tw1243242111386248938 := ()
def tw11104956724458341901 := ()
def tw884727045451770156 := ()
def tw301971411747050202 := ()
def tw2414516769781457279 := ()
def tw13639706202642963666 := ()
def tw195732426082083343 := ()
def tw11698457294602145819 := ()
def tw13569001053578416551 := ()
def tw14713177206319058310 := ()
def tw13105444271297666201 := ()
def tw3351583019724893627 := ()
def tw4745366694566971834 := ()
def tw7754431369231436471 := ()
def tw8069801295444420425 := ()
def tw2794654276169692586 := ()
def tw7791311270200466416 := ()
def tw9477206355770023663 := ()
def tw600865381979805666 := ()
def tw3322195928454443756 := ()
def tw6467483259132346253 := ()
def tw4569884047976320377 := ()
def tw16946300592628068488 := ()
def tw14956626992131656105 := ()
def tw1179324648200549371 := ()
def tw5277781318402391870 := ()
def tw1324245491690535005 := ()
def tw3753567043661583032 := ()
def tw2295227896026451614 := ()
def tw7242820631839863965 := ()
def tw2544772078103884503 := ()
def tw4234011933282348647 := ()
def tw15329884465860839569 := ()
def tw14323133716268487722 := ()
def tw15519158885327144198 := ()
def tw5718510516725312979 := ()
def tw8333778473643582042 := ()
def tw13241841532984313210 := ()
def tw15216990727225129198 := ()
def tw11926948484541564980 := ()
def tw4003937048630304622 := ()
def tw17873841495803529460 := ()
def tw11780560416572510046 := ()
def tw10660616512825896675 := ()
def tw16977479422029371070 := ()
def tw3900799052385679909 := ()
def tw15551375006707526358 := ()
def tw9078963672939152935 := ()
def tw12536047677795066376 := ()
def tw17182655746051715289 := ()
def tw6315231589983570070 := ()
def tw15936181079724887390 := ()
def tw16909127383978058683 := ()
def tw15520152954286649168 := ()
def tw12492076391756826113 := ()
def tw7747767084669930025 := ()
def tw9615047739947189582 := ()
def tw14675298508147203823 := ()
def tw11628330778583664185 := ()
def tw18299154494733668280 := ()
def tw7176833983729988874 := ()
def tw17028456009354133310 := ()
def tw17799395739144713924 := ()
def tw15731370470512087695 := ()
def tw11181552139319896704 := ()
def tw8178156801620399722 := ()
def tw11698094120966016797 := ()
def tw752530996345033064 := ()
def tw8629642755384281370 := ()
def tw9500517656399830423 := ()
def tw4929374993729845849 := ()
def tw13071517853054011039 := ()
def tw13713463030157031722 := ()
def tw7589886612280501745 := ()
def tw17382103517638033157 := ()
def tw16084815522220545277 := ()
def tw4181719775451688849 := ()
def tw11715228387036281332 := ()
def tw2126761804518943152 := ()
def tw17929452338729479172 := ()
def tw1964511942840787108 := ()
def tw6683120850008532851 := ()
def tw2786168521166342426 := ()
def tw18235422814494702869 := ()
def tw9269207434278230825 := ()
def tw7122625010329030357 := ()
def tw3918194030335555759 := ()
def tw3900991784080199085 := ()
def tw13948459273296799844 := ()
def tw11664992607365725548 := ()
def tw4309700265072954227 := ()
def tw8783084715712355406 := ()
def tw12755730135296568712 := ()
def tw13814345211281404517 := ()
def tw10708344884535735716 := ()
def tw5671794967507381339 := ()
def tw18211684412306159918 := ()
def tw1794093078646522578 := ()
def tw12666640050039729616 := ()
def tw11391042433588662488 := ()
def tw2336213380171068596 := ()
def tw3355565575810878042 := ()
def tw16943207716910903302 := ()
def tw17072435525356338452 := ()
def tw9467096696741428279 := ()
def tw10025023086296994375 := ()
def tw8372195568196651869 := ()
def tw9610252111537946931 := ()
def tw8602817958085664834 := ()
def tw3579818835501089361 := ()
def tw3356429476959205128 := ()
def tw14192504978608450709 := ()
def tw18063225076578548410 := ()
def tw1535108209053598010 := ()
def tw15983344588266288902 := ()
def tw3360775712872341903 := ()
def tw12070194751967466070 := ()
def tw13023185192039052053 := ()
def tw11502075129008444657 := ()
def tw13848263725027562483 := ()
def tw1400001052115640050 := ()
def tw15260100010808596914 := ()
def tw1048865941035893128 := ()
def tw16548972568862041683 := ()
def tw11321172509276944057 := ()
def tw11611030304286084197 := ()
def tw8746982896796797495 := ()
def tw6661213444974334818 := ()
def tw9491947543968464386 := ()
def tw5620132204002306920 := ()
def tw7601424860614619979 := ()
def tw10270421707503203362 := ()
def tw7270169596407290292 := ()
def tw17392317154963872534 := ()
def tw3461623314378297543 := ()
def tw15382151947544208480 := ()
def tw17045644657268956318 := ()
def tw9307858686922075528 := ()
def tw3187514516169648518 := ()
def tw11335952789932280201 := ()
def tw8849408723801679083 := ()
def tw5724349919599048777 := ()
def tw2224290217853719362 := ()
def tw17591393995629966796 := ()
def tw14665317171975808185 := ()
def tw17996129886911697259 := ()
def tw15482649890278975382 := ()
def tw7443423858691495534 := ()
def tw17664058538441715839 := ()
def tw11159759214822597113 := ()
def tw13689166745409275430 := ()
def tw8546120963157479446 := ()
def tw17403670512117931361 := ()
def tw14606825906774501587 := ()
def tw10110547836801781361 := ()
def tw8266630858894660697 := ()
def tw3676903036691349451 := ()
def tw1208977491890215018 := ()
def tw6476617840193905190 := ()
def tw13589580113853597433 := ()
def tw2280341072276676570 := ()
def tw11437462064715358786 := ()
def tw15466602244692933645 := ()
def tw4421982520534943779 := ()
def tw2527227507556291283 := ()
def tw11670680196692765923 := ()
def tw4273717707575479857 := ()
def tw12828885034397838190 := ()
def tw12187728425710863939 := ()
def tw12611743676632420829 := ()
def tw14225923058396355665 := ()
def tw8971557659598621858 := ()
def tw4565040972952713043 := ()
def tw5799894761801563413 := ()
def tw1824704583995698768 := ()
def tw6396305263671173314 := ()
def tw18438430884406601867 := ()
def tw16404423169064615738 := ()
def tw6211385674712143233 := ()
def tw5098067565964148586 := ()
def tw4946071683174813457 := ()
def tw14583137394353293342 := ()
def tw1272312358926740779 := ()
def tw7806323339504495728 := ()
def tw4338408666662219922 := ()
def tw9353251961579155610 := ()
def tw7494299119338608207 := ()
def tw16463303681249025651 := ()
def tw17667269427444428381 := ()
def tw12916767576355751897 := ()
def tw3476600595059941417 := ()
def tw8262486435146216384 := ()
def tw13434377489717931662 := ()
def tw4538765515230227019 := ()
def tw10221341624776766705 := ()
def tw6018037403876494721 := ()
def tw9325551680369920486 := ()
def tw7237921220384678467 := ()
def tw7173186813270324761 := ()
def tw1135208527234621133 := ()
def tw9518967414181400793 := ()
def tw4780089794581695831 := ()
def tw12304179772207509448 := ()
def tw17240688338303451231 := ()
def tw1342734297315790293 := ()
def tw7276204964869856004 := ()
def tw4173360873229178503 := ()
def tw2871712386243793521 := ()
def tw175075903691126011 := ()
def tw10155386957161689761 := ()
def tw16381818770149105815 := ()
def tw5827096575171325168 := ()
def tw8923293265390196791 := ()
def tw13898636132588225552 := ()
def tw12730417214619344677 := ()
def tw2763720230005007200 := ()
def tw2813606837382125447 := ()
def tw6013971126668198388 := ()
def tw15669763755724597582 := ()
def tw15196676017871703664 := ()
def tw15965745226548789288 := ()
def tw1986625426745620208 := ()
def tw5931184281814703811 := ()
def tw11743166295560241889 := ()
def tw4970513773015388427 := ()
def tw2851421441041781786 := ()
def tw13304041660203271257 := ()
def tw8290244085780091300 := ()
def tw10005301320146807052 := ()
def tw6573674486656168538 := ()
def tw12398240039145446333 := ()
def tw13466200696806498886 := ()
def tw16002283092205499429 := ()
def tw1818666973777667854 := ()
def tw10238775335453026476 := ()
def tw13695361189527969537 := ()
def tw8983226470482460977 := ()
def tw4576628472175517106 := ()
def tw13962232174311366223 := ()
def tw6597042114891561705 := ()
def tw10089138809372537661 := ()
def tw7972867481245396822 := ()
def tw9553411774701172021 := ()
def tw2003288997334672724 := ()
def tw10762310930459588667 := ()
def tw16785174115714961160 := ()
def tw3117904842477634631 := ()
def tw18165470652463494696 := ()
def tw16024560749835470880 := ()
def tw8973568924584375856 := ()
def tw4288725107796769627 := ()
def tw16032325045134895969 := ()
def tw7861146241146975767 := ()
def tw588834134127572396 := ()
def tw17642533547132408314 := ()
def tw12668326861617718567 := ()
def tw12852929300807653026 := ()
def tw16848145323739820915 := ()
def tw9049753666813022232 := ()
def tw13923211318740343700 := ()
def tw14796521171939410785 := ()
def tw16043660286871392645 := ()
def tw18252834078250761426 := ()
def tw1670549562215918607 := ()
def tw8857131673365430141 := ()
def tw11179305535151024764 := ()
def tw8241382200329124394 := ()
def tw10169466361523753167 := ()
def tw14551996209087510986 := ()
def tw17319991221623258703 := ()
def tw8526256228867900564 := ()
def tw9891204354847765151 := ()
def tw13710322395002485724 := ()
def tw5833251489308671367 := ()
def tw17078096350878548553 := ()
def tw10619903237745722048 := ()
def tw17572568116265026297 := ()
def tw12198852288658029498 := ()
def tw5289556219057150389 := ()
def tw15113921221204739742 := ()
def tw4457628556820880091 := ()
def tw13228517399126818562 := ()
def tw5033191686521544128 := ()
def tw5609914622589890679 := ()
def tw1656802566520236963 := ()
def tw2179294195394831888 := ()
def tw11200069108849298991 := ()
def tw13287517613104065613 := ()
def tw1932188684566105927 := ()
def tw4634572066669012760 := ()
def tw6356752382932547636 := ()
def tw7195302764221143015 := ()
def tw8936332683029497388 := ()
def tw1004759235232988570 := ()
def tw5371629852863845240 := ()
def tw4903087722445035499 := ()
def tw17135519946365466781 := ()
def tw4473640898032778589 := ()
def tw5846907436737755275 := ()
def tw15517184971864532564 := ()
def tw12392254411092421357 := ()
def tw10395721992724912137 := ()
def tw11562688674592928814 := ()
def tw4605046549633289980 := ()
def tw1627914581825279038 := ()
def tw6405791720432544924 := ()
def tw1092075274671421399 := ()
def tw12091783589564094692 := ()
def tw12061333116110466515 := ()
def tw16537878453010977692 := ()
def tw7795062735827311008 := ()
def tw4969498693814053697 := ()
def tw7803760868001100984 := ()
def tw2689297601636040891 := ()
def tw12362522605999887419 := ()
def tw3779031698647834463 := ()
def tw6046160668467639523 := ()
def tw4386897750693577755 := ()
def tw1164410915061418967 := ()
def tw60343547134789534 := ()
def tw9795313529258765489 := ()
def tw12153598017374531062 := ()
def tw3349717759196068573 := ()
def tw11483042976579714810 := ()
def tw12008921734996888675 := ()
def tw12399964853182880232 := ()
def tw13746045189249386622 := ()
def tw10366692500275536788 := ()
def tw15823041274850007618 := ()
def tw3313104613808831 := ()
def tw14599502359297589198 := ()
def tw1830356073310259753 := ()
def tw11878536860292301794 := ()
def tw10702467277724591837 := ()
def tw11449765903516083367 := ()
def tw8923096022235863930 := ()
def tw13177902437876491511 := ()
def tw5631062747013869049 := ()
def tw3519768533564170426 := ()
def tw12640461935909373528 := ()
def tw12784230064009409856 := ()
def tw2372469036333023273 := ()
def tw11253759210934286075 := ()
def tw368552965148169535 := ()
def tw10167847990549671342 := ()
def tw8777562318542384716 := ()
def tw16090781219991769532 := ()
def tw2127474369636514086 := ()
def tw3487241474005540751 := ()
def tw2382060914991814509 := ()
def tw16553035006765805752 := ()
def tw5902985265612736199 := ()
def tw1648004965011869353 := ()
def tw8742192061444862611 := ()
def tw17685645401051488820 := ()
def tw2370959812593979514 := ()
def tw13127953802577738665 := ()
def tw14926730980498632118 := ()
def tw1080672008524236923 := ()
def tw10291406338182047577 := ()
def tw1002509872320624436 := ()
def tw1533402631759739234 := ()
def tw9467024595055007123 := ()
def tw3446008485217230862 := ()
def tw967347625199807751 := ()
def tw821017869887405775 := ()
def tw9451151902881057257 := ()
def tw13453926045120003958 := ()
def tw4330735772552413366 := ()
def tw10011953834757038212 := ()
def tw7388490722472243502 := ()
def tw17930491098029558199 := ()
def tw18330836617330321513 := ()
def tw15137999972609882891 := ()
def tw983416630603726119 := ()
def tw5149522965559908910 := ()
def tw13006787653933224074 := ()
def tw5577032368445176131 := ()
def tw12913278937099149324 := ()
def tw4741480609776029718 := ()
def tw15965557344104975121 := ()
def tw13455035582162869960 := ()
def tw12364257379933417 := ()
def tw12105554631369077290 := ()
def tw1433578319895092422 := ()
def tw16962526620658973871 := ()
def tw296244257223341501 := ()
def tw10372820642853862118 := ()
def tw2756433770988985924 := ()
def tw18118793493810678817 := ()
def tw15954014147124692302 := ()
def tw5926041266886520478 := ()
def tw765271349892583370 := ()
def tw7353998282877184797 := ()
def tw15106855535903645484 := ()
def tw11496456477914350050 := ()
def tw1921791994643654359 := ()
def tw4489112297424228022 := ()
def tw1264336287858976559 := ()
def tw5565270502215678023 := ()
def tw758072671357114521 := ()
def tw3876331167767683303 := ()
def tw7632842874628400498 := ()
def tw14687419389257949609 := ()
def tw17055679080833132919 := ()
def tw10597065041149585240 := ()
def tw4938943758851070692 := ()
def tw18080652919012663279 := ()
def tw8147660704416379629 := ()
def tw6292682183264206506 := ()
def tw17644521983319352268 := ()
def tw5503738054059083191 := ()
def tw18113920594325787466 := ()
def tw16304089806401935727 := ()
def tw11533483693153317220 := ()
def tw14938896113636835400 := ()
def tw8088178110168811096 := ()
def tw15163407306200135319 := ()
def tw4516655382800521493 := ()
def tw18418503758208593058 := ()
def tw9199159425032636277 := ()
def tw9943553318624748701 := ()
def tw18195432569990668234 := ()
def tw11604772079177050178 := ()
def tw1211212136804570738 := ()
def tw12584580884702381222 := ()
def tw11225412143981111314 := ()
def tw17377994534679128175 := ()
def tw4696254405713466079 := ()
def tw7090231802346625554 := ()
def tw7327619516008617207 := ()
def tw2389691930759944888 := ()
def tw8264645793659153060 := ()
def tw6796102865169681543 := ()
def tw15109662172145639051 := ()
def tw16339734681602936660 := ()
def tw13532997282621012039 := ()
def tw10944679652346624962 := ()
def tw16499551980026104758 := ()
def tw17278475594711229273 := ()
def tw17903358838409272468 := ()
def tw14146815193324713547 := ()
def tw9860880845265581344 := ()
def tw11887330968136673951 := ()
def tw10786756098310753953 := ()
def tw11304890649892355131 := ()
def tw5635512421241886269 := ()
def tw9962760175383286216 := ()
def tw15152256420403952441 := ()
def tw11325925169752317388 := ()
def tw8786108392280979729 := ()
def tw8568343799750145493 := ()
def tw14334442703076825289 := ()
def tw6448710151946863571 := ()
def tw4771584028818309578 := ()
def tw2982532782743885617 := ()
def tw1825321288981778563 := ()
def tw14816684501116460168 := ()
def tw12228485429881554700 := ()
def tw7523210024238005352 := ()
def tw12298815703516178483 := ()
def tw15944226471874136163 := ()
def tw12166539747771162438 := ()
def tw8929032414376931728 := ()
def tw2400429611182095651 := ()
def tw2376189550812619926 := ()
def tw15768057279218245081 := ()
def tw16730074848115614565 := ()
def tw7548296704467502692 := ()
def tw6839653264808369380 := ()
def tw224365555774571937 := ()
def tw15917114427170388634 := ()
def tw2558314993153134389 := ()
def tw3411745419295784537 := ()
def tw3782119654203204306 := ()
def tw13082999754982025489 := ()
def tw17806678713754499202 := ()
def tw87348673962262339 := ()
def tw9549319134068700647 := ()
def tw979033015243473987 := ()
def tw3127576995892845637 := ()
def tw9742714947689508877 := ()
def tw5183489477092550404 := ()
def tw11286312908267005580 := ()
def tw6278896679845315908 := ()
def tw8482387106346841793 := ()
def tw10478701099273821566 := ()
def tw12809657817836467991 := ()
def tw17998219873747149722 := ()
def tw12913485354438099387 := ()
def tw14533602190397692333 := ()
def tw13792634008161639321 := ()
def tw15780435454082457000 := ()
def tw12171672445373048464 := ()
def tw358516259683085409 := ()
def tw7930743346466171807 := ()
def tw1800942081741265465 := ()
def tw11917566528427762941 := ()
def tw442055868968388512 := ()
def tw14028682877567738775 := ()
def tw2231129753917487744 := ()
def tw12832241536596194990 := ()
def tw448327634298052080 := ()
def tw15896307762198808867 := ()
def tw15356289920774475733 := ()
def tw14633579033986995453 := ()
def tw4232578344397769450 := ()
def tw15063702441126681546 := ()
def tw14264670782485058820 := ()
def tw16799112101622786686 := ()
def tw17495427692996117973 := ()
def tw13591301480021238700 := ()
def tw4163026254619036277 := ()
def tw3209632115639412260 := ()
def tw16484773696406068627 := ()
def tw5534741582103582735 := ()
def tw16647189440252022383 := ()
def tw4992778846425470152 := ()
def tw14794529909420211910 := ()
def tw6444463486893397373 := ()
def tw4347295854288470669 := ()
def tw2406689115149568878 := ()
def tw2771538987406071526 := ()
def tw10671872253404130902 := ()
def tw7859186171476793992 := ()
def tw16237081841580144527 := ()
def tw843421310346700256 := ()
def tw11826979049287469852 := ()
def tw2638703800711551686 := ()
def tw12394444694678229884 := ()
def tw15434272812511319268 := ()
def tw4986509464111888962 := ()
def tw9355542724848011055 := ()
def tw13659658173524856777 := ()
def tw14206280738145260163 := ()
def tw10696374578689268879 := ()
def tw1363335120692456664 := ()
def tw13463072760467174244 := ()
def tw14255934120382434991 := ()
def tw15233569851020091996 := ()
def tw9414400227956131568 := ()
def tw16427045086965157824 := ()
def tw14073265957725318159 := ()
def tw17253521616575919884 := ()
def tw12085696955074934429 := ()
def tw18415884934127047680 := ()
def tw16763257421206109798 := ()
def tw4695192131920650606 := ()
def tw11478279909552186650 := ()
def tw13011858982271939600 := ()
def tw6933594723496449366 := ()
def tw15546026210497792125 := ()
def tw6929876106779472150 := ()
def tw7376715642438824173 := ()
def tw3280473170866299951 := ()
def tw10054071571839883333 := ()
def tw13868571292826218313 := ()
def tw3576777919284540534 := ()
def tw794313077981257002 := ()
def tw17782629603094716067 := ()
def tw16016353384459137897 := ()
def tw3182627313399275582 := ()
def tw17186946939225314889 := ()
def tw3772939117740159245 := ()
def tw11485265937135724003 := ()
def tw8143671529562675022 := ()
def tw2561078902311855706 := ()
def tw15207220020521465332 := ()
def tw11353658146605666043 := ()
def tw13487662818649459345 := ()
def tw9485192706216489462 := ()
def tw8833029649372127343 := ()
def tw5382751016346381797 := ()
def tw2404484452850713137 := ()
def tw13269364445259612296 := ()
def tw3895823476235837712 := ()
def tw16977580991759540254 := ()
def tw14960492610241386208 := ()
def tw674800686720679413 := ()
def tw6940285672602515978 := ()
def tw11308885296858876451 := ()
def tw15180380001126740204 := ()
def tw8613886210640152212 := ()
def tw12759681354047442386 := ()
def tw15493762914012423366 := ()
def tw12674117145119069047 := ()
def tw12119903529010886031 := ()
def tw6462868310266570895 := ()
def tw4060325637891794517 := ()
def tw16256896035794333777 := ()
def tw11829633973258762385 := ()
def tw14627274712855393391 := ()
def tw3316064771254496315 := ()
def tw15269698781656964929 := ()
def tw7270767637815545786 := ()
def tw11913410991523075524 := ()
def tw3599912889876429382 := ()
def tw16614554388152449646 := ()
def tw11974436112829073614 := ()
def tw6145428378521643945 := ()
def tw2545058137844767262 := ()
def tw10774392809670034409 := ()
def tw14800724002835337861 := ()
def tw5425496033237346526 := ()
def tw8028387879698983624 := ()
def tw2397714316519282311 := ()
def tw18432339345111272956 := ()
def tw11779982535329281514 := ()
def tw14028985504562712867 := ()
def tw12910350471975736589 := ()
def tw7866076364813909934 := ()
def tw9505899137355183140 := ()
def tw9864011329302294307 := ()
def tw9546873024573133677 := ()
def tw9910561368050470875 := ()
def tw16724899316144500026 := ()
def tw10174420709618898554 := ()
def tw18086963962874833983 := ()
def tw10820147060138350662 := ()
def tw4400547849396440349 := ()
def tw4546295175729637140 := ()
def tw5176969200154432873 := ()
def tw5488963590263108342 := ()
def tw3537517707408923454 := ()
def tw11450729313972484771 := ()
def tw8187162820861116925 := ()
def tw5575732038404076734 := ()
def tw14835145416406559102 := ()
def tw16723977641575535913 := ()
def tw11859678025602338028 := ()
def tw12188697028969079349 := ()
def tw11805532707563266317 := ()
def tw4900169289527920695 := ()
def tw12125222278779810015 := ()
def tw12910004826468607542 := ()
def tw7715562461659693231 := ()
def tw9959575260452690876 := ()
def tw18251062742497257726 := ()
def tw5003965642149750035 := ()
def tw18305235050117423697 := ()
def tw12330463090227330478 := ()
def tw9122871329273859074 := ()
def tw4825425321340805084 := ()
def tw13184570585994915257 := ()
def tw4504554416895608319 := ()
def tw13900997507413979780 := ()
def tw7794770467886673479 := ()
def tw2297162441772808497 := ()
def tw5199531415348453126 := ()
def tw1087754375422100934 := ()
def tw15202494840778746903 := ()
def tw5542003033126104270 := ()
def tw16684652210113440896 := ()
def tw4775992160473941635 := ()
def tw7669122095838615837 := ()
def tw3554630132183955360 := ()
def tw4236116887484761638 := ()
def tw4178235978265802075 := ()
def tw3751965320284390565 := ()
def tw15735724904403842641 := ()
def tw545596351763365218 := ()
def tw17328141222565758002 := ()
def tw9999499966093709791 := ()
def tw4181463172868551923 := ()
def tw4260265178788936539 := ()
def tw12693981137280335545 := ()
def tw16475840312986470052 := ()
def tw10906299765420293929 := ()
def tw12969836231823273330 := ()
def tw6545898237426942891 := ()
def tw993128088802971104 := ()
def tw18382459270827894958 := ()
def tw15553732632030448291 := ()
def tw12205729528106320257 := ()
def tw2786396147829432681 := ()
def tw15651951809874826379 := ()
def tw10847726328574479710 := ()
def tw12231749827107668026 := ()
def tw16934952115812967656 := ()
def tw18092776296851310744 := ()
def tw8334686489546814813 := ()
def tw2167256446767298407 := ()
def tw10263373004818018297 := ()
def tw4923645806236006595 := ()
def tw599442528283232474 := ()
def tw14185476059091166503 := ()
def tw8611526947952437839 := ()
def tw14889779523615037184 := ()
def tw15405814268286022052 := ()
def tw13817575606562116277 := ()
def tw1381383545282000984 := ()
def tw13242292539766135015 := ()
def tw3516851947970803441 := ()
def tw6778369024765435471 := ()
def tw3840931285578017383 := ()
def tw18195784607678493914 := ()
def tw17904125540178064150 := ()
def tw3536247910290444898 := ()
def tw11105005211051991567 := ()
def tw3806514443208503271 := ()
def tw9706290977555005911 := ()
def tw8013885792356219903 := ()
def tw7691620450718525000 := ()
def tw18287614432772540124 := ()
def tw14830562493958372943 := ()
def tw8156360601906677954 := ()
def tw13556932097887771469 := ()
def tw5590096212562986362 := ()
def tw15534978167430377234 := ()
def tw7747364216778006744 := ()
def tw5938774382448501944 := ()
def tw6126144285100345784 := ()
def tw3235922201071428713 := ()
def tw7904304697144041615 := ()
def tw12708583552418577299 := ()
def tw11226107729232257483 := ()
def tw14452247971176393743 := ()
def tw15282450054077755499 := ()
def tw9151085592293451869 := ()
def tw7368526483973896538 := ()
def tw11721252605834639388 := ()
def tw10340609016181462172 := ()
def tw3525203141555023720 := ()
def tw533225628981101918 := ()
def tw15095089614049722366 := ()
def tw14461857006877412184 := ()
def tw13537336589240034937 := ()
def tw14453094603555973887 := ()
def tw2450791928109722200 := ()
def tw1244646051118906164 := ()
def tw8900272290284027552 := ()
def tw7532030403344122244 := ()
def tw18172844949014925091 := ()
def tw13845184570774193562 := ()
def tw10150674180500717272 := ()
def tw18111652263434902783 := ()
def tw3304986342725253526 := ()
def tw6412858142290332075 := ()
def tw7773756115850863313 := ()
def tw9567266524188348370 := ()
def tw3618619040322456575 := ()
def tw2375563481967610244 := ()
def tw7186136623589611289 := ()
def tw16438066408337692268 := ()
def tw171025870840464513 := ()
def tw16746327164197245989 := ()
def tw14533813574446626346 := ()
def tw293542514211677610 := ()
def tw470045726481146058 := ()
def tw17051621705600598290 := ()
def tw15349805054118467890 := ()
def tw10022842971533926879 := ()
def tw9025198143263416390 := ()
def tw6483476555509281893 := ()
def tw12314780478753310479 := ()
def tw16073115196652276311 := ()
def tw17310797204225017844 := ()
def tw15937587276236157419 := ()
def tw11337186244244679553 := ()
def tw1278171294956580480 := ()
def tw13097075692552789066 := ()
def tw7080146517628011360 := ()
def tw7770861106644511791 := ()
def tw2542850558855536065 := ()
def tw11264367372738809364 := ()
def tw13747555300316490598 := ()
def tw14802218968204900535 := ()
def tw9977857598034490765 := ()
def tw16512452933121352538 := ()
def tw15015930032867288926 := ()
def tw7099259084585225946 := ()
def tw13366829615857041962 := ()
def tw18339006561834040648 := ()
def tw2062910347625923612 := ()
def tw10474397280658744630 := ()
def tw13045024693644526024 := ()
def tw9769957207050424042 := ()
def tw6524576193472677015 := ()
def tw2020158915182337754 := ()
def tw8949816938314725590 := ()
def tw2052480838697194309 := ()
def tw8197943132865328628 := ()
def tw3529221883992314591 := ()
def tw10917987000747594490 := ()
def tw3268227479396595559 := ()
def tw12166036279474450910 := ()
def tw16458895878872975534 := ()
def tw3795725606369839548 := ()
def tw8900302715797278996 := ()
def tw9003408363694039483 := ()
def tw12440921102174282362 := ()
def tw9319862313783508654 := ()
def tw4819863777355061665 := ()
def tw1359476340635506233 := ()
def tw8313947530029432515 := ()
def tw16358584538768244775 := ()
def tw17136455432564338754 := ()
def tw7076222800755449591 := ()
def tw17870873927783708436 := ()
def tw16568189335550877680 := ()
def tw2211036903029452680 := ()
def tw14928396658361801841 := ()
def tw17053111856717741246 := ()
def tw4555908697598184384 := ()
def tw13240874892455157787 := ()
def tw4437700113694999521 := ()
def tw1375388046327169224 := ()
def tw10389065070453825593 := ()
def tw16628446232751882123 := ()
def tw15293138772937325513 := ()
def tw8963490736628729879 := ()
def tw5076807101973148658 := ()
def tw2344474353266221667 := ()
def tw12371506213377855559 := ()
def tw3723925881060664189 := ()
def tw5124478456144286158 := ()
def tw12314302607788758297 := ()
def tw8727386368136240152 := ()
def tw16205556689169922873 := ()
def tw11393655177240705413 := ()
def tw8442820424593231587 := ()
def tw16683690796535759292 := ()
def tw4617438629043155136 := ()
def tw7003793839531803101 := ()
def tw7223380100185587603 := ()
def tw11181487687274060311 := ()
def tw5998508562063174743 := ()
def tw11704884740592393524 := ()
def tw16684494024524683118 := ()
def tw5543116539448334978 := ()
def tw2830252354202756988 := ()
def tw12176588362248869114 := ()
def tw1764265676827363324 := ()
def tw17319286954579405296 := ()
def tw13865404640683316423 := ()
def tw5273441674084985126 := ()
def tw14821286670761635411 := ()
def tw13767934777402025982 := ()
def tw6136634461030458112 := ()
def tw18313044391236770845 := ()
def tw2435174340894826081 := ()
def tw7132940794772496980 := ()
def tw10314002317380241094 := ()
def tw7033663058668597163 := ()
def tw15558150415513545989 := ()
def tw16646252701125304679 := ()
def tw11216451479987976059 := ()
def tw13654691726437707960 := ()
def tw10340482193741288130 := ()
def tw5848600095871483292 := ()
def tw6822183798712991288 := ()
def tw7587241811713259107 := ()
def tw16778639170886132673 := ()
def tw1501906550907836476 := ()
def tw4638022896942015397 := ()
def tw2893845598100854538 := ()
def tw15568229756093370781 := ()
def tw8910443976020742777 := ()
def tw769535289142970572 := ()
def tw11076718934302369416 := ()
def tw4562959652448232432 := ()
def tw4684523579262655298 := ()
def tw17507533768258483755 := ()
def tw5173362615437483629 := ()
def tw13808836311937817919 := ()
def tw12346835922104635069 := ()
def tw4044807526712280884 := ()
def tw10550546618782162370 := ()
def tw10184184122158912794 := ()
def tw17887843856250043278 := ()
def tw5520210392481603648 := ()
def tw8823710748379963000 := ()
def tw11549322587381242672 := ()
def tw11868469678991402273 := ()
def tw12067384328266627077 := ()
def tw4794161372339566032 := ()
def tw6420507650479890673 := ()
def tw13491502385178859983 := ()
def tw13313300311831314577 := ()
def tw12924197075081813811 := ()
def tw2483536182107060171 := ()
def tw8656475631449044439 := ()
def tw9291988961072346452 := ()
def tw7446322054392097652 := ()
def tw3640330007899402107 := ()
def tw878401369422888971 := ()
def tw3445303468772859789 := ()
def tw1776931349251772597 := ()
def tw18137613592160265120 := ()
def tw10530649142689801742 := ()
def tw15052367996618819113 := ()
def tw543166581625056830 := ()
def tw16584892755897262085 := ()
def tw16180484493561044697 := ()
def tw6040486716341618180 := ()
def tw11906878839440627928 := ()
def tw10773697075713741788 := ()
def tw4521020828206350970 := ()
def tw18192403509483559725 := ()
def tw1593888361680195722 := ()
def tw11301627922780304791 := ()
def tw12345541449758851763 := ()
def tw8719514885186296680 := ()
def tw7672216389275503360 := ()
def tw10175095492109878554 := ()
def tw6304478358974149842 := ()
def tw15119486247070207751 := ()
def tw17366715628997111346 := ()
def tw1437426965787463210 := ()
def tw1271813927873118091 := ()
def tw12856197336501533716 := ()
def tw4580438860257269464 := ()
def tw14819571634650114222 := ()
def tw1885430727682558810 := ()
def tw825568347949605945 := ()
def tw6390976191890888099 := ()
def tw12202655063071719380 := ()
def tw4989647263298005103 := ()
def tw18366767883946927810 := ()
def tw15711562643600959421 := ()
def tw13035606671493811753 := ()
def tw2062361831130071804 := ()
def tw4300183626570441361 := ()
def tw15325793718471894425 := ()
def tw11520312636154828571 := ()
def tw17980687216467554714 := ()
def tw15562923563939655144 := ()
def tw6229250753246666337 := ()
def tw5374899507495022229 := ()
def tw4741556897652128571 := ()
def tw375485121774690166 := ()
def tw14933487640975752047 := ()
def tw9885720603089495242 := ()
def tw10185075279095350218 := ()
def tw18150158992145184531 := ()
def tw4177619766375639456 := ()
def tw15255932027689662156 := ()
def tw1598313244019813248 := ()
def tw11101115146683966668 := ()
def tw2809260720721116856 := ()
def tw16837081460885149528 := ()
def tw12114137534384785245 := ()
def tw18253419327574458133 := ()
def tw5933624217295028199 := ()
def tw16725603860627382396 := ()
def tw16100544089795214800 := ()
def tw14974813273583593806 := ()
def tw7096864793809875701 := ()
def tw3798938025975138712 := ()
def tw5951713764755933204 := ()
def tw1908323179004394507 := ()
def tw9381280620289839669 := ()
def tw12945541500222189467 := ()
def tw12501489075841473062 := ()
def tw5565199071637219603 := ()
def tw3172647472968619859 := ()
def tw9229386605112499867 := ()
def tw16127802682304921593 := ()
def tw11054906804446439092 := ()
def tw16403628296572724856 := ()
def tw5497666744128036931 := ()
def tw15353124392066987401 := ()
def tw7445615094162105482 := ()
def tw15886623954472723067 := ()
def tw17464498565426699007 := ()
def tw2965243200307281066 := ()
def tw9230383070636928721 := ()
def tw11177101596377510514 := ()
def tw8272919398100209935 := ()
def tw2994855546676233608 := ()
def tw7067019549868095991 := ()
def tw2468151995110827364 := ()
def tw9841484326703746129 := ()
def tw3510608437146325691 := ()
def tw12067599370663113244 := ()
def tw16910041355636918715 := ()
def tw13850306256024174347 := ()
def tw15787102370215536447 := ()
def tw17589411855666026134 := ()
def tw9723543415440231242 := ()
def tw5644985981509489950 := ()
def tw9109515048129810484 := ()
def tw1337252613053572270 := ()
def tw6366480282116664415 := ()
def tw13111389593126529398 := ()
def tw14140921770748541445 := ()
def tw11826723933365681426 := ()
def tw18186184408948530376 := ()
def tw16968238074930583304 := ()
def tw11291955994690477930 := ()
def tw15272800596516119138 := ()
def tw17902442309611396796 := ()
def tw13087839081795717992 := ()
def tw16568794540920964333 := ()
def tw7069365482507112430 := ()
def tw17111574921914384423 := ()
def tw3872826530917739111 := ()
def tw10783398721629083670 := ()
def tw15161799336323739321 := ()
def tw12346254794175794310 := ()
def tw16298184224696299408 := ()
def tw6099944103328574317 := ()
def tw17132200291178079429 := ()
def tw15397549654277430720 := ()
def tw15811299187685176225 := ()
def tw12931095976346797733 := ()
def tw18254498979899422964 := ()
def tw4284863842494849615 := ()
def tw14673213152897673311 := ()
def tw2220015304998651151 := ()
def tw3698843067322661528 := ()
def tw12294173691221348803 := ()
def tw4005099081617016642 := ()
def tw6217238128752304574 := ()
def tw449764193201930749 := ()
def tw7749252991691429575 := ()
def tw2402756757493954149 := ()
def tw15864161455718536548 := ()
def tw10197104956784510326 := ()
def tw13180187680716739544 := ()
def tw4710743354729045659 := ()
def tw14341897581987005829 := ()
def tw14680845957957372490 := ()
def tw18072855950614516623 := ()
def tw17846528431329198397 := ()
def tw8639252290667033503 := ()
def tw10104232585880519757 := ()
def tw2153251678512264320 := ()
def tw7841968795504083226 := ()
def tw18292650219642220816 := ()
def tw11415458768639566309 := ()
def tw4220988137198872069 := ()
def tw16355939455182014853 := ()
def tw7417074695150670376 := ()
def tw2725259218516283383 := ()
def tw17868263543605766036 := ()
def tw10383365592774546268 := ()
def tw2461400382398791118 := ()
def tw12349817532875542212 := ()
def tw9704178961530680522 := ()
def tw5110545970042259593 := ()
def tw9786915622945307749 := ()
def tw5601775312605076945 := ()
def tw7322295102149193900 := ()
def tw5354689096521134775 := ()
def tw6084746311772827001 := ()
def tw4934873315173874024 := ()
def tw16715528080851165337 := ()
def tw15767033600225429006 := ()
def tw4839833340754545632 := ()
def tw4911340115808407469 := ()
def tw11178265869909885790 := ()
def tw15522897234130181926 := ()
def tw16506958762032230300 := ()
def tw2643842383788265505 := ()
def tw2269576366453101469 := ()
def tw15017521886416624737 := ()
def tw4662337434797996689 := ()
def tw14155153486868558972 := ()
def tw14391276929865889807 := ()
def tw3892433211770569373 := ()
def tw18159934852385576137 := ()
def tw82422315759153222 := ()
def tw11273749268207536734 := ()
def tw3229435688379776057 := ()
def tw8768317118869554267 := ()
def tw15349418568203596166 := ()
def tw17591140954233769592 := ()
def tw11827425308791871875 := ()
def tw12649164879740129914 := ()
def tw12762917079461954514 := ()
def tw2278518748977078399 := ()
def tw1887048793137677370 := ()
def tw257038094847343009 := ()
def tw12076996036728011320 := ()
def tw2731209091453185340 := ()
def tw12236113594077467723 := ()
def tw13011451556817062925 := ()
def tw6979674770439439403 := ()
def tw2076297607661405577 := ()
def tw14425760839150544064 := ()
def tw14621848542371462875 := ()
def tw11346963412821632192 := ()
def tw6256382924147614095 := ()
def tw8738706918070368017 := ()
def tw7883672802673933620 := ()
def tw5415066396292754805 := ()
def tw2583870259776540926 := ()
def tw17940239378425269003 := ()
def tw1825114390178443645 := ()
def tw14071487638329298848 := ()
def tw2999908836732713206 := ()
def tw8220215587250948917 := ()
def tw13909190843926301839 := ()
def tw15606264398665587898 := ()
def tw11421664061093897849 := ()
def tw8059827447033034012 := ()
def tw17964173055736477205 := ()
def tw17082093839849872729 := ()
def tw3802428305139638321 := ()
def tw1861793521800971384 := ()
def tw7990508601098891688 := ()
def tw12442319922698412829 := ()
def tw12597871086255477925 := ()
def tw1424532470772519835 := ()
def tw2598383123868128549 := ()
def tw15229589959524897986 := ()
def tw1392542872134836415 := ()
def tw14455972571342491589 := ()
def tw15313358270223412427 := ()
def tw609573277855235240 := ()
def tw1780256809404677551 := ()
def tw7033574175054993770 := ()
def tw11245565508198909299 := ()
def tw7135128405396050582 := ()
def tw11404444660767000559 := ()
def tw1473354627483321953 := ()
def tw4869095231492953217 := ()
def tw5420454665013153471 := ()
def tw920134481781819940 := ()
def tw9380345517829945859 := ()
def tw15791352509316766789 := ()
def tw13521510174426843009 := ()
def tw14952469124806772475 := ()
def tw3234177035465677651 := ()
def tw132924008634793964 := ()
def tw8158010061378216928 := ()
def tw17442694179641021210 := ()
def tw4684331622324928250 := ()
def tw14982263097049540378 := ()
def tw8837827201271911889 := ()
def tw13087622772262316008 := ()
def tw16345802051153903193 := ()
def tw16081426547220541556 := ()
def tw18375583232249164857 := ()
def tw7253805022306243041 := ()
def tw8434903887635505775 := ()
def tw15370573546155977937 := ()
def tw3530946243832695075 := ()
def tw14362522971353508734 := ()
def tw11099080946871770855 := ()
def tw16168445729697800567 := ()
def tw2785936406177363565 := ()
def tw18293548098487670222 := ()
def tw11177824688813257881 := ()
def tw15530244672068335 := ()
def tw3858149794357745186 := ()
def tw14274404152763479856 := ()
def tw13605023511530998861 := ()
def tw17564497194668106939 := ()
def tw15200575453350415102 := ()
def tw11902447956716043662 := ()
def tw8477926212101682549 := ()
def tw14628498694349232723 := ()
def tw3316452465807042383 := ()
def tw1646066962892445786 := ()
def tw10316035668688562249 := ()
def tw17707933970972175544 := ()
def tw15268123784199604975 := ()
def tw2600605930270917580 := ()
def tw8154809110049774577 := ()
def tw784472944878013507 := ()
def tw10750189202554070279 := ()
def tw15997756775658011822 := ()
def tw10083953616718322292 := ()
def tw5602131489194284754 := ()
def tw4395162094201711711 := ()
def tw257302658329185186 := ()
def tw12532478499401709204 := ()
def tw13588966146059849512 := ()
def tw12946059992873922858 := ()
def tw5497706475681841904 := ()
def tw10225184819281387808 := ()
def tw15287155138434088210 := ()
def tw9062906612964187197 := ()
def tw12116617293497280143 := ()
def tw15060758643738804092 := ()
def tw15497375628280354273 := ()
def tw2880673294586467288 := ()
def tw18341577602907750932 := ()
def tw1361811475959718432 := ()
def tw2101101863849009597 := ()
def tw1279961662235195241 := ()
def tw635052586595613261 := ()
def tw709338640900544799 := ()
def tw10182224518779566341 := ()
def tw5695500180669913382 := ()
def tw2262316982888224887 := ()
def tw6327206908608885456 := ()
def tw12257137859133452330 := ()
def tw8679251845886908145 := ()
def tw2159088227065120749 := ()
def tw8090705794516001733 := ()
def tw8208029314041022885 := ()
def tw1688992532480179485 := ()
def tw3832049829470286383 := ()
def tw11178504850472854138 := ()
def tw1057948088617501864 := ()
def tw3769071103777252801 := ()
def tw5100562443693060350 := ()
def tw14315892870540257743 := ()
def tw1946262809186503336 := ()
def tw5878921271262004100 := ()
def tw9211857123489747705 := ()
def tw6821848173187367654 := ()
def tw9543191084707502064 := ()
def tw9388259302482789571 := ()
def tw5580723297569980783 := ()
def tw1560310497140974262 := ()
def tw3650778601674419158 := ()
def tw6211259046235843002 := ()
def tw5169043089785684574 := ()
def tw15075876551050491063 := ()
def tw12114285289871785091 := ()
def tw12976322629427017636 := ()
def tw2684125325494216377 := ()
def tw1214200356249074569 := ()
def tw14720835006669248774 := ()
def tw2098690577671007280 := ()
def tw11218893297469466164 := ()
def tw4875539527202645534 := ()
def tw2739522720437723579 := ()
def tw2765673530055434728 := ()
def tw13893679457182131042 := ()
def tw4717420555591928376 := ()
def tw8876768809744820170 := ()
def tw8429931115936612798 := ()
def tw18000906064294305268 := ()
def tw12129015712406964673 := ()
def tw3100402215097076684 := ()
def tw2825268049953239607 := ()
def tw15861429165332300201 := ()
def tw6417102058650322288 := ()
def tw15812212405901895257 := ()
def tw945448613763031176 := ()
def tw16546544649072799674 := ()
def tw8475805296628318178 := ()
def tw7101453469879335122 := ()
def tw14622634406113202821 := ()
def tw17479474829710566915 := ()
def tw15237788162400740656 := ()
def tw9393380381958289150 := ()
def tw8080780026513225117 := ()
def tw8572620853811648183 := ()
def tw6802526112415696315 := ()
def tw2256540978346652223 := ()
def tw16561757761734081720 := ()
def tw1885566926138196868 := ()
def tw16274143686678747309 := ()
def tw15300467473344537009 := ()
def tw2372083879232359365 := ()
def tw13486367939496862990 := ()
def tw12743294406954759363 := ()
def tw11974396386259744612 := ()
def tw5514691266708420693 := ()
def tw9621369494808953658 := ()
def tw17464780118986931623 := ()
def tw17029817449279013884 := ()
def tw14337342207289849498 := ()
def tw8690315387515967608 := ()
def tw17495309549363973187 := ()
def tw15430848944576809013 := ()
def tw18326877367155264889 := ()
def tw17044231689623812660 := ()
def tw8108130440270129652 := ()
def tw7052636587491207016 := ()
def tw15932168449082238257 := ()
def tw1074526422383008892 := ()
def tw4721879276656784893 := ()
def tw11749163200418512175 := ()
def tw7319013393698842417 := ()
def tw7919679908454164240 := ()
def tw10417806752588058309 := ()
def tw11487074403995516863 := ()
def tw1207607873736279037 := ()
def tw1205769087976379355 := ()
def tw5169693657141076865 := ()
def tw6915741230913144677 := ()
end PySem.W.Fast
set_option maxRecDepth 100000 in
set_option maxHeartbeats 0 in
theorem PySem.Challenge.cw_nearerwork_k05_names_and_texts_holds : PySem.Challenge.rw_nearerwork_k05_names_and_texts.Holds := by
  w_on; o_law; k_head; (case hw => w_witness2)
  k_fill
  refine Nw.walk (l := PySem.Challenge.rw_nearerwork_k05_names_and_texts) rfl rfl (fun w h Y => PySem.W.kIn_of Y) ?F
  case F =>
    intro w mg fa h KX G hmg
    refine' Nw.all_mk KX G hmg ?aN ?pgN ?hdN ?poN ?saN ?mkN ?kcN ?nN_number ?aM ?pgM ?hdM ?poM ?saM ?mkM ?kcM ?nM_name ?aP ?pgP ?hdP ?poP ?saP ?mkP ?kcP ?nP_one ?nP_other ?aI ?pgI ?hdI ?poI ?saI ?mkI ?kcI ?nI_one ?nI_other ?aX ?pgX ?hdX ?poX ?saX ?mkX ?kcX ?nX_one ?nX_other ?aY ?pgY ?hdY ?poY ?saY ?mkY ?kcY ?inY ?aQ ?pgQ ?hdQ ?poQ ?saQ ?mkQ ?kcQ ?nQ_one ?nQ_other ?aA ?pgA ?hdA ?poA ?saA ?mkA ?kcA ?nA_one ?nA_other ?aE ?pgE ?hdE ?poE ?saE ?mkE ?kcE ?nE_one ?nE_other ?aU ?pgU ?hdU ?poU ?saU ?mkU ?kcU ?nU_one ?nU_other ?aB ?pgB ?hdB ?poB ?saB ?mkB ?kcB ?nB_one ?nB_other ?aO ?pgO ?hdO ?poO ?saO ?mkO ?kcO ?nO_one ?nO_other ?aT ?pgT ?hdT ?poT ?saT ?mkT ?kcT ?nT_one ?aNI ?iNI ?lNI ?cNI ?kNI ?aMI ?iMI ?lMI ?cMI ?kMI ?aTI ?aTII ?aTIX ?iTI ?lTI ?cTI ?kTI ?aPI ?aPIA ?aPIE ?aPIU ?aPIB ?aPIO ?iPI ?lPI ?cPI ?kPI ?aOI ?iOI ?lOI ?cOI ?kOI ?aTN ?aTNI ?aTNX ?iTN ?lTN ?cTN ?kTN ?aPN ?aPNA ?aPNE ?aPNU ?aPNB ?aPNO ?iPN ?lPN ?cPN ?kPN ?aNS ?iNS ?lNS ?cNS ?kNS ?aMS ?iMS ?lMS ?cMS ?kMS ?aPS ?iPS ?lPS ?cPS ?kPS ?aIS ?iIS ?lIS ?cIS ?kIS ?aXS ?iXS ?lXS ?cXS ?kXS ?aNN ?iNN ?lNN ?cNN ?kNN ?aMN ?iMN ?lMN ?cMN ?kMN ?aYS ?iYS ?lYS ?cYS ?kYS ?aLS ?iLS ?lLS ?cLS ?kLS ?aAS ?iAS ?lAS ?cAS ?kAS ?aES ?iES ?lES ?cES ?kES ?aUS ?iUS ?lUS ?cUS ?kUS ?aBS ?iBS ?lBS ?cBS ?kBS ?aOS ?iOS ?lOS ?cOS ?kOS ?aTS ?iTS ?lTS ?cTS ?kTS ?aYN ?iYN ?lYN ?cYN ?kYN ?aTNn ?iTNn ?lTNn ?cTNn ?kTNn ?aCe ?lCe ?cCe ?kCe ?aMi ?lMi ?cMi ?kMi ?aOw ?lOw ?cOw ?kOw ?aPo ?lPo ?cPo ?kPo ?aLe ?lLe ?cLe ?kLe ?aSu ?lSu ?cSu ?kSu ?aSt ?lSt ?cSt ?kSt ?aSa ?lSa ?cSa ?kSa ?aTe ?lTe ?cTe ?kTe ?aHa ?lHa ?cHa ?kHa ?aTo ?lTo ?cTo ?kTo ?aNm ?lNm ?cNm ?kNm ?aRi ?lRi ?cRi ?kRi ?aCm ?lCm ?cCm ?kCm ?aTw ?lTw ?cTw ?kTw ?aBr ?lBr ?cBr ?kBr ?aBs ?lBs ?cBs ?kBs ?aL ?lL ?cL ?kL ?z_len ?z_range ?z_isinstance ?z_str ?z_list ?z_tuple ?z_sorted ?z_set
    (case aN => k_is)
    (case pgN => k_is)
    (case hdN => k_is)
    (case poN => k_is)
    (case saN => k_is)
    (case mkN => k_is)
    (case kcN => k_is)
    (case nN_number => k_is)
    (case aM => k_is)
    (case pgM => k_is)
    (case hdM => k_is)
    (case poM => k_is)
    (case saM => k_is)
    (case mkM => k_is)
    (case kcM => k_is)
    (case nM_name => k_is)
    (case aP => k_is)
    (case pgP => k_is)
    (case hdP => k_is)
    (case poP => k_is)
    (case saP => k_is)
    (case mkP => k_is)
    (case kcP => k_is)
    (case nP_one => k_is)
    (case nP_other => k_is)
    (case aI => k_is)
    (case pgI => k_is)
    (case hdI => k_is)
    (case poI => k_is)
    (case saI => k_is)
    (case mkI => k_is)
    (case kcI => k_is)
    (case nI_one => k_is)
    (case nI_other => k_is)
    (case aX => k_is)
    (case pgX => k_is)
    (case hdX => k_is)
    (case poX => k_is)
    (case saX => k_is)
    (case mkX => k_is)
    (case kcX => k_is)
    (case nX_one => k_is)
    (case nX_other => k_is)
    (case aY => k_is)
    (case pgY => k_is)
    (case hdY => k_is)
    (case poY => k_is)
    (case saY => k_is)
    (case mkY => k_is)
    (case kcY => k_is)
    (case inY => k_is)
    (case aQ => k_is)
    (case pgQ => k_is)
    (case hdQ => k_is)
    (case poQ => k_is)
    (case saQ => k_is)
    (case mkQ => k_is)
    (case kcQ => k_is)
    (case nQ_one => k_is)
    (case nQ_other => k_is)
    (case aA => k_is)
    (case pgA => k_is)
    (case hdA => k_is)
    (case poA => k_is)
    (case saA => k_is)
    (case mkA => k_is)
    (case kcA => k_is)
    (case nA_one => k_is)
    (case nA_other => k_is)
    (case aE => k_is)
    (case pgE => k_is)
    (case hdE => k_is)
    (case poE => k_is)
    (case saE => k_is)
    (case mkE => k_is)
    (case kcE => k_is)
    (case nE_one => k_is)
    (case nE_other => k_is)
    (case aU => k_is)
    (case pgU => k_is)
    (case hdU => k_is)
    (case poU => k_is)
    (case saU => k_is)
    (case mkU => k_is)
    (case kcU => k_is)
    (case nU_one => k_is)
    (case nU_other => k_is)
    (case aB => k_is)
    (case pgB => k_is)
    (case hdB => k_is)
    (case poB => k_is)
    (case saB => k_is)
    (case mkB => k_is)
    (case kcB => k_is)
    (case nB_one => k_is)
    (case nB_other => k_is)
    (case aO => k_is)
    (case pgO => k_is)
    (case hdO => k_is)
    (case poO => k_is)
    (case saO => k_is)
    (case mkO => k_is)
    (case kcO => k_is)
    (case nO_one => k_is)
    (case nO_other => k_is)
    (case aT => k_is)
    (case pgT => k_is)
    (case hdT => k_is)
    (case poT => k_is)
    (case saT => k_is)
    (case mkT => k_is)
    (case kcT => k_is)
    (case nT_one => k_is)
    (case aNI => k_is)
    (case iNI => k_is)
    (case lNI => k_is)
    (case cNI => k_is)
    (case kNI => k_is)
    (case aMI => k_is)
    (case iMI => k_is)
    (case lMI => k_is)
    (case cMI => k_is)
    (case kMI => k_is)
    (case aTI => k_is)
    (case aTII => k_is)
    (case aTIX => k_is)
    (case iTI => k_is)
    (case lTI => k_is)
    (case cTI => k_is)
    (case kTI => k_is)
    (case aPI => k_is)
    (case aPIA => k_is)
    (case aPIE => k_is)
    (case aPIU => k_is)
    (case aPIB => k_is)
    (case aPIO => k_is)
    (case iPI => k_is)
    (case lPI => k_is)
    (case cPI => k_is)
    (case kPI => k_is)
    (case aOI => k_is)
    (case iOI => k_is)
    (case lOI => k_is)
    (case cOI => k_is)
    (case kOI => k_is)
    (case aTN => k_is)
    (case aTNI => k_is)
    (case aTNX => k_is)
    (case iTN => k_is)
    (case lTN => k_is)
    (case cTN => k_is)
    (case kTN => k_is)
    (case aPN => k_is)
    (case aPNA => k_is)
    (case aPNE => k_is)
    (case aPNU => k_is)
    (case aPNB => k_is)
    (case aPNO => k_is)
    (case iPN => k_is)
    (case lPN => k_is)
    (case cPN => k_is)
    (case kPN => k_is)
    (case aNS => k_is)
    (case iNS => k_is)
    (case lNS => k_is)
    (case cNS => k_is)
    (case kNS => k_is)
    (case aMS => k_is)
    (case iMS => k_is)
    (case lMS => k_is)
    (case cMS => k_is)
    (case kMS => k_is)
    (case aPS => k_is)
    (case iPS => k_is)
    (case lPS => k_is)
    (case cPS => k_is)
    (case kPS => k_is)
    (case aIS => k_is)
    (case iIS => k_is)
    (case lIS => k_is)
    (case cIS => k_is)
    (case kIS => k_is)
    (case aXS => k_is)
    (case iXS => k_is)
    (case lXS => k_is)
    (case cXS => k_is)
    (case kXS => k_is)
    (case aNN => k_is)
    (case iNN => k_is)
    (case lNN => k_is)
    (case cNN => k_is)
    (case kNN => k_is)
    (case aMN => k_is)
    (case iMN => k_is)
    (case lMN => k_is)
    (case cMN => k_is)
    (case kMN => k_is)
    (case aYS => k_is)
    (case iYS => k_is)
    (case lYS => k_is)
    (case cYS => k_is)
    (case kYS => k_is)
    (case aLS => k_is)
    (case iLS => k_is)
    (case lLS => k_is)
    (case cLS => k_is)
    (case kLS => k_is)
    (case aAS => k_is)
    (case iAS => k_is)
    (case lAS => k_is)
    (case cAS => k_is)
    (case kAS => k_is)
    (case aES => k_is)
    (case iES => k_is)
    (case lES => k_is)
    (case cES => k_is)
    (case kES => k_is)
    (case aUS => k_is)
    (case iUS => k_is)
    (case lUS => k_is)
    (case cUS => k_is)
    (case kUS => k_is)
    (case aBS => k_is)
    (case iBS => k_is)
    (case lBS => k_is)
    (case cBS => k_is)
    (case kBS => k_is)
    (case aOS => k_is)
    (case iOS => k_is)
    (case lOS => k_is)
    (case cOS => k_is)
    (case kOS => k_is)
    (case aTS => k_is)
    (case iTS => k_is)
    (case lTS => k_is)
    (case cTS => k_is)
    (case kTS => k_is)
    (case aYN => k_is)
    (case iYN => k_is)
    (case lYN => k_is)
    (case cYN => k_is)
    (case kYN => k_is)
    (case aTNn => k_is)
    (case iTNn => k_is)
    (case lTNn => k_is)
    (case cTNn => k_is)
    (case kTNn => k_is)
    (case aCe => k_is)
    (case lCe => k_is)
    (case cCe => k_is)
    (case kCe => k_is)
    (case aMi => k_is)
    (case lMi => k_is)
    (case cMi => k_is)
    (case kMi => k_is)
    (case aOw => k_is)
    (case lOw => k_is)
    (case cOw => k_is)
    (case kOw => k_is)
    (case aPo => k_is)
    (case lPo => k_is)
    (case cPo => k_is)
    (case kPo => k_is)
    (case aLe => k_is)
    (case lLe => k_is)
    (case cLe => k_is)
    (case kLe => k_is)
    (case aSu => k_is)
    (case lSu => k_is)
    (case cSu => k_is)
    (case kSu => k_is)
    (case aSt => k_is)
    (case lSt => k_is)
    (case cSt => k_is)
    (case kSt => k_is)
    (case aSa => k_is)
    (case lSa => k_is)
    (case cSa => k_is)
    (case kSa => k_is)
    (case aTe => k_is)
    (case lTe => k_is)
    (case cTe => k_is)
    (case kTe => k_is)
    (case aHa => k_is)
    (case lHa => k_is)
    (case cHa => k_is)
    (case kHa => k_is)
    (case aTo => k_is)
    (case lTo => k_is)
    (case cTo => k_is)
    (case kTo => k_is)
    (case aNm => k_is)
    (case lNm => k_is)
    (case cNm => k_is)
    (case kNm => k_is)
    (case aRi => k_is)
    (case lRi => k_is)
    (case cRi => k_is)
    (case kRi => k_is)
    (case aCm => k_is)
    (case lCm => k_is)
    (case cCm => k_is)
    (case kCm => k_is)
    (case aTw => k_is)
    (case lTw => k_is)
    (case cTw => k_is)
    (case kTw => k_is)
    (case aBr => k_is)
    (case lBr => k_is)
    (case cBr => k_is)
    (case kBr => k_is)
    (case aBs => k_is)
    (case lBs => k_is)
    (case cBs => k_is)
    (case kBs => k_is)
    (case aL => k_is)
    (case lL => k_is)
    (case cL => k_is)
    (case kL => k_is)
    (case z_len => k_is)
    (case z_range => k_is)
    (case z_isinstance => k_is)
    (case z_str => k_is)
    (case z_list => k_is)
    (case z_tuple => k_is)
    (case z_sorted => k_is)
    (case z_set => k_is)
